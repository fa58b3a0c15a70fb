import PyProof.Rows.All
import Wide.All
import OpenK.AllK
import Wide.FinOn
import HandS.ForMost
import HandS.ForExc
import HandS.Wide
import HandS.SortKw
import HandS.SortRule
import HandS.SortInts
import HandS.Style
import HandS.IsInst
import HandS.Conv
import HandS.Walk
import HandS.Flow
import HandS.More
import HandS.Defaults
import HandS.RaiseMore
import HandS.Remove
import HandS.Star
import HandS.Steps
import HandS.ClsMeth
import HandS.DictComp
import HandS.ExcField
import HandS.ExcInit
import HandS.ExcIs
import HandS.ExcValue
import HandS.FStr
import HandS.FStrTup
import HandS.HotCalls
import HandS.ListItems
import HandS.SetFor
import HandS.Star
import HandS.Strs
import HandS.Wide
import HandS.WideBits
import HandS.Zip
import KE.DatumOrd
import KE.GoesEnum
import KE.KDictZip
import KE.KExcIs
import PySem.Challenge.RW_elderinn_k05_arrangements_refused
set_option Elab.async false
set_option linter.all false
set_option maxRecDepth 100000
set_option maxHeartbeats 8000000
namespace El
/-! ### the rule by age, in plain lists -/
def place : List (List Int) → Int → Int → List (List Int)
  | [], a, _ => [[a]]
  | r :: rs, a, p => if (r.length : Int) ≤ p then (r ++ [a]) :: rs else r :: place rs a p
def firstB : List (List Int) → Int → Nat
  | [], _ => 0
  | r :: rs, p => if (r.length : Int) ≤ p then 0 else firstB rs p + 1
theorem firstB_le : ∀ (rs : List (List Int)) (p : Int), firstB rs p ≤ rs.length
  | [], _ => Nat.le_refl _
  | r :: rs, p => by
    unfold firstB
    split
    · exact Nat.zero_le _
    · exact Nat.succ_le_succ (firstB_le rs p)
theorem firstB_out : ∀ (rs : List (List Int)) (p : Int) (i : Nat) (r : List Int), i < firstB rs p → rs[i]? = some r → p < (r.length : Int)
  | [], _, _, _, h, _ => absurd h (Nat.not_lt_zero _)
  | s :: rs, p, i, r, h, e => by
    unfold firstB at h
    split at h
    · exact absurd h (Nat.not_lt_zero _)
    · rename_i hn
      cases i with
      | zero =>
        have e' : s = r := Option.some.inj e
        subst e'
        omega
      | succ i => exact firstB_out rs p i r (Nat.lt_of_succ_lt_succ h) (by simpa using e)
theorem firstB_in : ∀ (rs : List (List Int)) (p : Int), firstB rs p < rs.length → ∃ r, rs[firstB rs p]? = some r ∧ (r.length : Int) ≤ p
  | [], _, h => absurd h (Nat.not_lt_zero _)
  | s :: rs, p, h => by
    unfold firstB at h ⊢
    split
    · rename_i hn
      exact ⟨s, rfl, hn⟩
    · rename_i hn
      rw [if_neg hn] at h
      obtain ⟨r, e, q⟩ := firstB_in rs p (Nat.lt_of_succ_lt_succ h)
      exact ⟨r, by simpa using e, q⟩
theorem firstB_is : ∀ (rs : List (List Int)) (p : Int) (i : Nat), i ≤ rs.length → (∀ j r, j < i → rs[j]? = some r → p < (r.length : Int)) → (∀ r, rs[i]? = some r → (r.length : Int) ≤ p) → firstB rs p = i
  | [], _, i, h, _, _ => by
    have : i = 0 := Nat.le_zero.mp h
    subst this
    rfl
  | s :: rs, p, 0, _, _, h2 => by
    unfold firstB
    rw [if_pos (h2 s rfl)]
  | s :: rs, p, i + 1, h, h1, h2 => by
    have h0 := h1 0 s (Nat.succ_pos _) rfl
    unfold firstB
    rw [if_neg (by omega), firstB_is rs p i (Nat.le_of_succ_le_succ h) (fun j r hj e => h1 (j + 1) r (Nat.succ_lt_succ hj) (by simpa using e)) fun r e => h2 r (by simpa using e)]
theorem place_new : ∀ (rs : List (List Int)) (a p : Int), firstB rs p = rs.length → place rs a p = rs ++ [[a]]
  | [], _, _, _ => rfl
  | r :: rs, a, p, h => by
    unfold firstB at h
    unfold place
    split at h
    · exact absurd h (by rw [List.length_cons]; omega)
    · rename_i hn
      rw [if_neg hn, place_new rs a p (by rw [List.length_cons] at h; omega)]
      rfl
theorem place_at : ∀ (rs : List (List Int)) (a p : Int) (r : List Int), rs[firstB rs p]? = some r → place rs a p = rs.set (firstB rs p) (r ++ [a])
  | [], _, _, _, h => by simp at h
  | s :: rs, a, p, r, h => by
    unfold firstB at h ⊢
    unfold place
    split
    · rename_i hn
      rw [if_pos hn] at h
      have e : s = r := Option.some.inj h
      subst e
      rfl
    · rename_i hn
      rw [if_neg hn] at h
      rw [place_at rs a p r (by simpa using h)]
      rfl
theorem place_len (rs : List (List Int)) (a p : Int) : (place rs a p).length = if firstB rs p = rs.length then rs.length + 1 else rs.length := by
  by_cases h : firstB rs p = rs.length
  · rw [if_pos h, place_new rs a p h, List.length_append]
    rfl
  · have hl := firstB_le rs p
    obtain ⟨r, e, _⟩ := firstB_in rs p (by omega)
    rw [if_neg h, place_at rs a p r e, List.length_set]
/-- all in order -/
def settleL (gs : List (Int × Int)) : List (List Int) := gs.foldl (fun rs g => place rs g.1 g.2) []
theorem settleL_snoc (gs : List (Int × Int)) (g : Int × Int) : settleL (gs ++ [g]) = place (settleL gs) g.1 g.2 := by
  unfold settleL
  rw [List.foldl_append]
  rfl
theorem settleL_take {gs : List (Int × Int)} {i : Nat} {g : Int × Int} (h : gs[i]? = some g) : settleL (gs.take (i + 1)) = place (settleL (gs.take i)) g.1 g.2 := by
  rw [List.take_add_one, h]
  exact settleL_snoc _ _
theorem place_count (rs : List (List Int)) (a p : Int) : (place rs a p).flatten.length = rs.flatten.length + 1 := by
  induction rs with
  | nil => rfl
  | cons r rs ih =>
    unfold place
    split
    · simp only [List.flatten_cons, List.length_append, List.length_cons, List.length_nil]
      omega
    · simp only [List.flatten_cons, List.length_append]
      omega
theorem settleL_count (gs : List (Int × Int)) : (settleL gs).flatten.length = gs.length := by
  suffices h : ∀ (gs : List (Int × Int)) (rs : List (List Int)), (gs.foldl (fun rs g => place rs g.1 g.2) rs).flatten.length = rs.flatten.length + gs.length by
    have q := h gs []
    rw [List.flatten_nil, List.length_nil, Nat.zero_add] at q
    exact q
  intro gs
  induction gs with
  | nil => intro rs; rfl
  | cons g gs ih =>
    intro rs
    rw [List.foldl_cons, ih, place_count, List.length_cons]
    omega
theorem place_ne (rs : List (List Int)) (a p : Int) (h : ∀ r ∈ rs, r ≠ []) : ∀ r ∈ place rs a p, r ≠ [] := by
  induction rs with
  | nil =>
    intro r hr
    rw [List.mem_singleton.mp hr]
    exact List.cons_ne_nil _ _
  | cons s rs ih =>
    unfold place
    split
    · intro r hr
      rcases List.mem_cons.mp hr with e | hr
      · rw [e]
        simp
      · exact h r (List.mem_cons_of_mem _ hr)
    · intro r hr
      rcases List.mem_cons.mp hr with e | hr
      · rw [e]
        exact h s List.mem_cons_self
      · exact ih (fun r hr => h r (List.mem_cons_of_mem _ hr)) r hr
theorem settleL_ne (gs : List (Int × Int)) : ∀ r ∈ settleL gs, r ≠ [] := by
  suffices h : ∀ (gs : List (Int × Int)) (rs : List (List Int)), (∀ r ∈ rs, r ≠ []) → ∀ r ∈ gs.foldl (fun rs g => place rs g.1 g.2) rs, r ≠ [] from h gs [] (fun r hr => absurd hr (by simp))
  intro gs
  induction gs with
  | nil => intro rs h; exact h
  | cons g gs ih =>
    intro rs h
    rw [List.foldl_cons]
    exact ih _ (place_ne rs _ _ h)
theorem len_le_flat : ∀ (rs : List (List Int)), (∀ r ∈ rs, r ≠ []) → rs.length ≤ rs.flatten.length
  | [], _ => Nat.le_refl _
  | r :: rs, h => by
    have h1 := h r List.mem_cons_self
    have h2 := len_le_flat rs fun r hr => h r (List.mem_cons_of_mem _ hr)
    have h3 : 0 < r.length := List.length_pos_iff.mpr h1
    rw [List.flatten_cons, List.length_append, List.length_cons]
    omega
theorem room_le_flat : ∀ (rs : List (List Int)) (r : List Int), r ∈ rs → r.length ≤ rs.flatten.length
  | s :: rs, r, h => by
    rw [List.flatten_cons, List.length_append]
    rcases List.mem_cons.mp h with e | h
    · rw [e]
      omega
    · have := room_le_flat rs r h
      omega
theorem settleL_len (gs : List (Int × Int)) : (settleL gs).length ≤ gs.length := by
  rw [← settleL_count gs]
  exact len_le_flat _ (settleL_ne gs)
theorem settleL_room {gs : List (Int × Int)} {r : List Int} (h : r ∈ settleL gs) : r.length ≤ gs.length := by
  rw [← settleL_count gs]
  exact room_le_flat _ _ h
/-- sizes never rise -/
def Falls (rs : List (List Int)) : Prop := rs.Pairwise fun r s => s.length ≤ r.length
theorem place_mem {rs : List (List Int)} {a p : Int} {r : List Int} (h : r ∈ place rs a p) : r ∈ rs ∨ (∃ s ∈ rs, r = s ++ [a] ∧ (s.length : Int) ≤ p) ∨ r = [a] := by
  induction rs with
  | nil => exact .inr (.inr (List.mem_singleton.mp h))
  | cons s rs ih =>
    unfold place at h
    split at h
    · rename_i hn
      rcases List.mem_cons.mp h with e | h
      · exact .inr (.inl ⟨s, List.mem_cons_self, e, hn⟩)
      · exact .inl (List.mem_cons_of_mem _ h)
    · rcases List.mem_cons.mp h with e | h
      · rw [e]
        exact .inl List.mem_cons_self
      · rcases ih h with q | ⟨t, ht, q⟩ | q
        · exact .inl (List.mem_cons_of_mem _ q)
        · exact .inr (.inl ⟨t, List.mem_cons_of_mem _ ht, q⟩)
        · exact .inr (.inr q)
theorem place_falls (rs : List (List Int)) (a p : Int) (hp : 0 ≤ p) (h : Falls rs) : Falls (place rs a p) := by
  induction rs with
  | nil => exact List.pairwise_singleton _ _
  | cons s rs ih =>
    obtain ⟨h1, h2⟩ := List.pairwise_cons.mp h
    unfold place
    split
    · refine List.pairwise_cons.mpr ⟨fun r hr => ?_, h2⟩
      have := h1 r hr
      rw [List.length_append]
      omega
    · rename_i hn
      refine List.pairwise_cons.mpr ⟨fun r hr => ?_, ih h2⟩
      rcases place_mem hr with q | ⟨t, ht, q, q2⟩ | q
      · exact h1 r q
      · rw [q, List.length_append, List.length_singleton]
        omega
      · rw [q, List.length_singleton]
        omega
theorem settleL_falls (gs : List (Int × Int)) (h : ∀ g ∈ gs, 0 ≤ g.2) : Falls (settleL gs) := by
  suffices q : ∀ (gs : List (Int × Int)) (rs : List (List Int)), (∀ g ∈ gs, 0 ≤ g.2) → Falls rs → Falls (gs.foldl (fun rs g => place rs g.1 g.2) rs) from q gs [] h List.Pairwise.nil
  intro gs
  induction gs with
  | nil => intro rs _ hr; exact hr
  | cons g gs ih =>
    intro rs hg hr
    rw [List.foldl_cons]
    exact ih _ (fun x hx => hg x (List.mem_cons_of_mem _ hx)) (place_falls rs _ _ (hg g List.mem_cons_self) hr)
/-! ### from the eldest on -/
def byAge (gs : List (Int × Int)) : List (Int × Int) := gs.mergeSort fun g h => decide (h.1 ≤ g.1)
theorem byAge_perm (gs : List (Int × Int)) : (byAge gs).Perm gs := List.mergeSort_perm _ _
theorem byAge_sorted (gs : List (Int × Int)) : (byAge gs).Pairwise fun g h => h.1 ≤ g.1 := by
  have q := List.pairwise_mergeSort (le := fun (g h : Int × Int) => decide (h.1 ≤ g.1)) (fun a b c h1 h2 => by
    have h1 := of_decide_eq_true h1
    have h2 := of_decide_eq_true h2
    exact decide_eq_true (by omega)) (fun a b => by
    by_cases h : b.1 ≤ a.1
    · simp [h]
    · have : a.1 ≤ b.1 := by omega
      simp [this]) gs
  exact q.imp fun h => of_decide_eq_true h
theorem byAge_length (gs : List (Int × Int)) : (byAge gs).length = gs.length := (byAge_perm gs).length_eq
theorem sorted_uniq {α : Type} (k : α → Int) : ∀ {l m : List α}, l.Perm m → (l.map k).Nodup → l.Pairwise (fun g h => k h ≤ k g) → m.Pairwise (fun g h => k h ≤ k g) → l = m
  | [], m, p, _, _, _ => by rw [List.nil_perm.mp p]
  | x :: l, [], p, _, _, _ => absurd p.length_eq (by simp)
  | x :: l, y :: m, p, nd, h1, h2 => by
    have nd' : (k x :: l.map k).Nodup := nd
    obtain ⟨n1, n2⟩ := List.nodup_cons.mp nd'
    obtain ⟨a1, a2⟩ := List.pairwise_cons.mp h1
    obtain ⟨b1, b2⟩ := List.pairwise_cons.mp h2
    have e : x = y := by
      rcases List.mem_cons.mp (p.mem_iff.mp List.mem_cons_self) with e | hx
      · exact e
      · have hy : y ∈ x :: l := p.mem_iff.mpr List.mem_cons_self
        rcases List.mem_cons.mp hy with e | hy
        · exact e.symm
        · have c1 := b1 x hx
          have c2 := a1 y hy
          have c3 : k x = k y := by omega
          exact absurd (List.mem_map.mpr ⟨y, hy, c3.symm⟩) n1
    subst e
    rw [sorted_uniq k (List.Perm.cons_inv p) n2 a2 b2]
def settle (gs : List (Int × Int)) : List (List Int) := settleL (byAge gs)
/-- guests that there can be -/
structure Fit (gs : List (Int × Int)) : Prop where
  nd : (gs.map (·.1)).Nodup
  pos : ∀ g ∈ gs, 0 ≤ g.2
theorem Fit.perm {gs hs : List (Int × Int)} (f : Fit gs) (p : hs.Perm gs) : Fit hs := ⟨((p.map (·.1)).nodup_iff).mpr f.nd, fun g hg => f.pos g (p.mem_iff.mp hg)⟩
theorem Fit.byAge {gs : List (Int × Int)} (f : Fit gs) : Fit (byAge gs) := f.perm (byAge_perm gs)
theorem byAge_of {gs hs : List (Int × Int)} (f : Fit gs) (p : hs.Perm gs) (h : hs.Pairwise fun g h => h.1 ≤ g.1) : hs = byAge gs :=
  sorted_uniq (·.1) (p.trans (byAge_perm gs).symm) (f.perm p).nd h (byAge_sorted gs)
theorem byAge_congr {gs hs : List (Int × Int)} (f : Fit gs) (p : hs.Perm gs) : byAge hs = byAge gs :=
  byAge_of f ((byAge_perm hs).trans p) (byAge_sorted hs)
theorem ages_of {gs : List (Int × Int)} (f : Fit gs) {ns : List Int} (p : ns.Perm (gs.map (·.1))) (h : ns.Pairwise (· ≥ ·)) : ns = (byAge gs).map (·.1) := by
  refine sorted_uniq (fun x : Int => x) (p.trans ((byAge_perm gs).map (·.1)).symm) ?_ (h.imp fun q => q) ?_
  · rw [List.map_id']
    exact (p.nodup_iff).mpr f.nd
  · rw [List.pairwise_map]
    exact byAge_sorted gs
theorem settle_congr {gs hs : List (Int × Int)} (f : Fit gs) (p : hs.Perm gs) : settle hs = settle gs := by
  unfold settle
  rw [byAge_congr f p]
end El
namespace El
/-! ### who has more elders than they bear -/
def down (ns : List Int) : List Int := ns.mergeSort fun a b => decide (b ≤ a)
theorem down_perm (ns : List Int) : (down ns).Perm ns := List.mergeSort_perm _ _
theorem down_sorted (ns : List Int) : (down ns).Pairwise (· ≥ ·) := by
  have q := List.pairwise_mergeSort (le := fun (g h : Int) => decide (h ≤ g)) (fun a b c h1 h2 => by
    have h1 := of_decide_eq_true h1
    have h2 := of_decide_eq_true h2
    exact decide_eq_true (by omega)) (fun a b => by
    by_cases h : b ≤ a
    · simp [h]
    · have : a ≤ b := by omega
      simp [this]) ns
  exact q.imp fun h => of_decide_eq_true h
theorem desc_uniq : ∀ {l m : List Int}, l.Perm m → l.Pairwise (· ≥ ·) → m.Pairwise (· ≥ ·) → l = m
  | [], m, p, _, _ => by rw [List.nil_perm.mp p]
  | x :: l, [], p, _, _ => absurd p.length_eq (by simp)
  | x :: l, y :: m, p, h1, h2 => by
    obtain ⟨a1, a2⟩ := List.pairwise_cons.mp h1
    obtain ⟨b1, b2⟩ := List.pairwise_cons.mp h2
    have e : x = y := by
      rcases List.mem_cons.mp (p.mem_iff.mp List.mem_cons_self) with e | hx
      · exact e
      · have hy : y ∈ x :: l := p.mem_iff.mpr List.mem_cons_self
        rcases List.mem_cons.mp hy with e | hy
        · exact e.symm
        · have c1 := b1 x hx
          have c2 := a1 y hy
          omega
    subst e
    rw [desc_uniq (List.Perm.cons_inv p) a2 b2]
theorem down_is {l ns : List Int} (p : l.Perm ns) (h : l.Pairwise (· ≥ ·)) : l = down ns := desc_uniq (p.trans (down_perm ns).symm) h (down_sorted ns)
def pof (gs : List (Int × Int)) (a : Int) : Int := match gs.find? fun g => decide (g.1 = a) with | some g => g.2 | none => 0
theorem pof_is : ∀ {gs : List (Int × Int)} {g : Int × Int}, (gs.map (·.1)).Nodup → g ∈ gs → pof gs g.1 = g.2
  | x :: gs, g, nd, h => by
    have nd' : (x.1 :: gs.map (·.1)).Nodup := nd
    obtain ⟨n1, n2⟩ := List.nodup_cons.mp nd'
    rcases List.mem_cons.mp h with e | h
    · subst e
      unfold pof
      rw [List.find?_cons_of_pos (by simp)]
    · have n : ¬ x.1 = g.1 := fun z => n1 (by rw [z]; exact List.mem_map.mpr ⟨g, h, rfl⟩)
      have := pof_is n2 h
      unfold pof at this ⊢
      rw [List.find?_cons_of_neg (by simpa using n)]
      exact this
def upIn (pf : Int → Int) : List Int → Nat → Option Int
  | [], _ => none
  | a :: l, i => if pf a < (i : Int) then some a else upIn pf l (i + 1)
theorem upIn_none {pf : Int → Int} : ∀ {l : List Int} {k : Nat}, (∀ (i : Nat) (a : Int), l[i]? = some a → ((i + k : Nat) : Int) ≤ pf a) → upIn pf l k = none
  | [], _, _ => rfl
  | a :: l, k, h => by
    unfold upIn
    have h0 := h 0 a rfl
    rw [if_neg (by omega)]
    exact upIn_none fun i b e => by
      have := h (i + 1) b (by simpa using e)
      omega
theorem upIn_at {pf : Int → Int} {l : List Int} {a : Int} : ∀ {i k : Nat}, l[i]? = some a → (∀ (j : Nat) (b : Int), j < i → l[j]? = some b → ((j + k : Nat) : Int) ≤ pf b) → pf a < ((i + k : Nat) : Int) → upIn pf l k = some a := by
  induction l with
  | nil => intro i k e; simp at e
  | cons x l ih =>
    intro i k e h1 h2
    unfold upIn
    cases i with
    | zero =>
      obtain rfl : x = a := Option.some.inj e
      rw [if_pos (by omega)]
    | succ i =>
      have h0 := h1 0 x (Nat.succ_pos _) rfl
      rw [if_neg (by omega)]
      exact ih (i := i) (by simpa using e) (fun j b hj e' => by
        have := h1 (j + 1) b (Nat.succ_lt_succ hj) (by simpa using e')
        omega) (by omega)
def eldUp (gs : List (Int × Int)) (ns : List Int) : Option Int := upIn (pof gs) (down ns) 0
def upsetOf (gs : List (Int × Int)) : List (List Int) → Nat → Option (Nat × Int)
  | [], _ => none
  | r :: rs, i => match eldUp gs r with | some a => some (i, a) | none => upsetOf gs rs (i + 1)
theorem upsetOf_none {gs : List (Int × Int)} : ∀ {rs : List (List Int)} {k : Nat}, (∀ r ∈ rs, eldUp gs r = none) → upsetOf gs rs k = none
  | [], _, _ => rfl
  | r :: rs, k, h => by
    unfold upsetOf
    rw [h r List.mem_cons_self]
    exact upsetOf_none fun s m => h s (List.mem_cons_of_mem _ m)
theorem upsetOf_at {gs : List (Int × Int)} {rs : List (List Int)} {r : List Int} {a : Int} : ∀ {i k : Nat}, rs[i]? = some r → (∀ (j : Nat) (s : List Int), j < i → rs[j]? = some s → eldUp gs s = none) → eldUp gs r = some a → upsetOf gs rs k = some (i + k, a) := by
  induction rs with
  | nil => intro i k e; simp at e
  | cons x rs ih =>
    intro i k e h1 h2
    unfold upsetOf
    cases i with
    | zero =>
      obtain rfl : x = r := Option.some.inj e
      rw [h2, Nat.zero_add]
    | succ i =>
      rw [h1 0 x (Nat.succ_pos _) rfl]
      have z := ih (i := i) (k := k + 1) (by simpa using e) (fun j b hj e' => h1 (j + 1) b (Nat.succ_lt_succ hj) (by simpa using e')) h2
      show upsetOf gs rs (k + 1) = _
      rw [z, show i + (k + 1) = i + 1 + k by omega]
/-! ### the rooms by age are in peace -/
def Fine (L : List (Int × Int)) (r : List Int) : Prop := r.Pairwise (· ≥ ·) ∧ ∀ (i : Nat) (a : Int), r[i]? = some a → ∃ g ∈ L, g.1 = a ∧ (i : Int) ≤ g.2
theorem Fine.mem {L : List (Int × Int)} {r : List Int} (h : Fine L r) {a : Int} (m : a ∈ r) : ∃ g ∈ L, g.1 = a := by
  obtain ⟨i, e⟩ := List.mem_iff_getElem?.mp m
  obtain ⟨g, h1, h2, _⟩ := h.2 i a e
  exact ⟨g, h1, h2⟩
theorem Fine.more {L M : List (Int × Int)} {r : List Int} (h : Fine L r) (k : ∀ g ∈ L, g ∈ M) : Fine M r := ⟨h.1, fun i a e => by
  obtain ⟨g, h1, h2⟩ := h.2 i a e
  exact ⟨g, k g h1, h2⟩⟩
theorem settleL_fine {L : List (Int × Int)} (hL : L.Pairwise fun g h => h.1 ≤ g.1) (hp : ∀ g ∈ L, 0 ≤ g.2) : ∀ i, i ≤ L.length → ∀ r ∈ settleL (L.take i), Fine (L.take i) r
  | 0, _, r, hr => by
    rw [List.take_zero] at hr
    exact absurd hr (List.not_mem_nil)
  | i + 1, hi, r, hr => by
    have ih := settleL_fine hL hp i (by omega)
    have eg : L[i]? = some L[i] := List.getElem?_eq_getElem hi
    generalize hg : L[i] = g at eg
    have hm : g ∈ L := List.mem_of_getElem? eg
    have hle : ∀ x ∈ L.take i, g.1 ≤ x.1 := by
      have e2 : L = L.take i ++ g :: L.drop (i + 1) := by
        have := List.getElem_cons_drop (as := L) (i := i) hi
        rw [hg] at this
        rw [this, List.take_append_drop]
      rw [e2] at hL
      exact fun x hx => (List.pairwise_append.mp hL).2.2 x hx g List.mem_cons_self
    have et : L.take (i + 1) = L.take i ++ [g] := by
      rw [List.take_add_one, eg]
      rfl
    rw [settleL_take eg] at hr
    rw [et]
    rcases place_mem hr with q | ⟨s, hs, e, hle2⟩ | q
    · exact (ih r q).more fun x hx => List.mem_append_left _ hx
    · have hF := ih s hs
      subst e
      refine ⟨?_, fun j a e => ?_⟩
      · rw [List.pairwise_append]
        refine ⟨hF.1, List.pairwise_singleton _ _, fun x hx y hy => ?_⟩
        rw [List.mem_singleton.mp hy]
        obtain ⟨z, hz, rfl⟩ := hF.mem hx
        exact hle z hz
      · by_cases hj : j < s.length
        · rw [List.getElem?_append_left hj] at e
          obtain ⟨z, h1, h2⟩ := hF.2 j a e
          exact ⟨z, List.mem_append_left _ h1, h2⟩
        · rw [List.getElem?_append_right (by omega)] at e
          have hj0 : j - s.length = 0 := by
            have := (List.getElem?_eq_some_iff.mp e).1
            rw [List.length_singleton] at this
            omega
          rw [hj0] at e
          obtain rfl : g.1 = a := Option.some.inj e
          exact ⟨g, List.mem_append_right _ (List.mem_singleton.mpr rfl), rfl, by omega⟩
    · subst q
      refine ⟨List.pairwise_singleton _ _, fun j a e => ?_⟩
      have hj0 : j = 0 := by
        have := (List.getElem?_eq_some_iff.mp e).1
        rw [List.length_singleton] at this
        omega
      subst hj0
      obtain rfl : g.1 = a := Option.some.inj e
      exact ⟨g, List.mem_append_right _ (List.mem_singleton.mpr rfl), rfl, hp g hm⟩
theorem settle_fine {gs : List (Int × Int)} (f : Fit gs) {r : List Int} (hr : r ∈ settle gs) : Fine gs r := by
  have h := settleL_fine (byAge_sorted gs) f.byAge.pos (byAge gs).length (Nat.le_refl _) r (by rw [List.take_length]; exact hr)
  rw [List.take_length] at h
  exact h.more fun g hg => (byAge_perm gs).mem_iff.mp hg
theorem settle_calm {gs : List (Int × Int)} (f : Fit gs) {r : List Int} (hr : r ∈ settle gs) : eldUp gs r = none := by
  obtain ⟨h1, h2⟩ := settle_fine f hr
  unfold eldUp
  rw [← down_is (List.Perm.refl r) h1]
  refine upIn_none fun i a e => ?_
  obtain ⟨g, hg, rfl, hl⟩ := h2 i a e
  rw [pof_is f.nd hg]
  exact hl
theorem place_perm : ∀ (rs : List (List Int)) (a p : Int), (place rs a p).flatten.Perm (a :: rs.flatten)
  | [], a, p => List.Perm.refl _
  | r :: rs, a, p => by
    unfold place
    split
    · rw [List.flatten_cons, List.flatten_cons, List.append_assoc]
      exact List.perm_middle
    · rw [List.flatten_cons, List.flatten_cons]
      exact ((place_perm rs a p).append_left r).trans List.perm_middle
theorem foldl_place_perm : ∀ (L : List (Int × Int)) (rs : List (List Int)), (L.foldl (fun rs g => place rs g.1 g.2) rs).flatten.Perm (L.map (·.1) ++ rs.flatten)
  | [], rs => List.Perm.refl _
  | g :: L, rs => by
    rw [List.foldl_cons]
    refine (foldl_place_perm L _).trans (((place_perm rs g.1 g.2).append_left _).trans ?_)
    rw [List.map_cons, List.cons_append]
    exact List.perm_middle
theorem settle_flat (gs : List (Int × Int)) : (settle gs).flatten.Perm (gs.map (·.1)) := by
  have h := foldl_place_perm (byAge gs) []
  rw [List.flatten_nil, List.append_nil] at h
  exact h.trans ((byAge_perm gs).map _)
/-! ### those behind the first j rooms -/
theorem take_place_lt : ∀ (rs : List (List Int)) (a p : Int) (j : Nat), firstB rs p < j → (place rs a p).take j = place (rs.take j) a p
  | _, _, _, 0, h => absurd h (Nat.not_lt_zero _)
  | [], a, p, j + 1, _ => by
    rw [List.take_nil]
    unfold place
    rw [List.take_succ_cons, List.take_nil]
  | r :: rs, a, p, j + 1, h => by
    unfold firstB at h
    rw [List.take_succ_cons]
    unfold place
    split at h
    · rename_i q
      rw [if_pos q, if_pos q, List.take_succ_cons]
    · rename_i q
      rw [if_neg q, if_neg q, List.take_succ_cons, take_place_lt rs a p j (by omega)]
theorem take_place_ge : ∀ (rs : List (List Int)) (a p : Int) (j : Nat), j ≤ firstB rs p → (place rs a p).take j = rs.take j
  | _, _, _, 0, _ => by rw [List.take_zero, List.take_zero]
  | [], a, p, j + 1, h => absurd h (Nat.not_succ_le_zero _)
  | r :: rs, a, p, j + 1, h => by
    unfold firstB at h
    unfold place
    split at h
    · exact absurd h (Nat.not_succ_le_zero _)
    · rename_i q
      rw [if_neg q, List.take_succ_cons, List.take_succ_cons, take_place_ge rs a p j (by omega)]
theorem drop_place_lt : ∀ (rs : List (List Int)) (a p : Int) (j : Nat), firstB rs p < j → (place rs a p).drop j = rs.drop j
  | _, _, _, 0, h => absurd h (Nat.not_lt_zero _)
  | [], a, p, j + 1, _ => by
    unfold place
    rw [List.drop_succ_cons, List.drop_nil, List.drop_nil]
  | r :: rs, a, p, j + 1, h => by
    unfold firstB at h
    unfold place
    split at h
    · rename_i q
      rw [if_pos q, List.drop_succ_cons, List.drop_succ_cons]
    · rename_i q
      rw [if_neg q, List.drop_succ_cons, List.drop_succ_cons, drop_place_lt rs a p j (by omega)]
theorem drop_place_ge : ∀ (rs : List (List Int)) (a p : Int) (j : Nat), j ≤ firstB rs p → (place rs a p).drop j = place (rs.drop j) a p
  | _, _, _, 0, _ => by rw [List.drop_zero, List.drop_zero]
  | [], a, p, j + 1, h => absurd h (Nat.not_succ_le_zero _)
  | r :: rs, a, p, j + 1, h => by
    unfold firstB at h
    split at h
    · exact absurd h (Nat.not_succ_le_zero _)
    · rename_i q
      rw [List.drop_succ_cons]
      show (if (r.length : Int) ≤ p then (r ++ [a]) :: rs else r :: place rs a p).drop (j + 1) = _
      rw [if_neg q, List.drop_succ_cons, drop_place_ge rs a p j (by omega)]
def kept (j : Nat) : List (List Int) → List (Int × Int) → List (Int × Int)
  | _, [] => []
  | rs, g :: L => if firstB rs g.2 < j then g :: kept j (place rs g.1 g.2) L else kept j (place rs g.1 g.2) L
def gone (j : Nat) : List (List Int) → List (Int × Int) → List (Int × Int)
  | _, [] => []
  | rs, g :: L => if firstB rs g.2 < j then gone j (place rs g.1 g.2) L else g :: gone j (place rs g.1 g.2) L
theorem gone_sub (j : Nat) : ∀ (L : List (Int × Int)) (rs : List (List Int)), ∀ g ∈ gone j rs L, g ∈ L
  | [], _, g, h => h
  | x :: L, rs, g, h => by
    unfold gone at h
    split at h
    · exact List.mem_cons_of_mem _ (gone_sub j L _ g h)
    · rcases List.mem_cons.mp h with e | h
      · rw [e]
        exact List.mem_cons_self
      · exact List.mem_cons_of_mem _ (gone_sub j L _ g h)
theorem kept_settle (j : Nat) : ∀ (L : List (Int × Int)) (rs : List (List Int)), (kept j rs L).foldl (fun rs g => place rs g.1 g.2) (rs.take j) = (L.foldl (fun rs g => place rs g.1 g.2) rs).take j
  | [], _ => rfl
  | g :: L, rs => by
    rw [List.foldl_cons]
    unfold kept
    split
    · rename_i h
      rw [List.foldl_cons, ← take_place_lt rs g.1 g.2 j h]
      exact kept_settle j L _
    · rename_i h
      rw [← take_place_ge rs g.1 g.2 j (by omega)]
      exact kept_settle j L _
theorem gone_settle (j : Nat) : ∀ (L : List (Int × Int)) (rs : List (List Int)), ((L.foldl (fun rs g => place rs g.1 g.2) rs).drop j).flatten.Perm ((gone j rs L).map (·.1) ++ (rs.drop j).flatten)
  | [], _ => List.Perm.refl _
  | g :: L, rs => by
    rw [List.foldl_cons]
    refine (gone_settle j L _).trans ?_
    show ((gone j (place rs g.1 g.2) L).map (·.1) ++ _).Perm ((if firstB rs g.2 < j then gone j (place rs g.1 g.2) L else g :: gone j (place rs g.1 g.2) L).map (·.1) ++ _)
    split
    · rename_i h
      rw [drop_place_lt rs g.1 g.2 j h]
    · rename_i h
      rw [drop_place_ge rs g.1 g.2 j (by omega), List.map_cons, List.cons_append]
      exact ((place_perm (rs.drop j) g.1 g.2).append_left _).trans List.perm_middle
theorem kept_filter (j : Nat) : ∀ (L : List (Int × Int)) (rs : List (List Int)) (S : List Int), (L.map (·.1)).Nodup → (∀ g ∈ L, g.1 ∈ S ↔ g.1 ∈ (gone j rs L).map (·.1)) → L.filter (fun g => !decide (g.1 ∈ S)) = kept j rs L
  | [], _, _, _, _ => rfl
  | g :: L, rs, S, nd, h => by
    have nd' : (g.1 :: L.map (·.1)).Nodup := nd
    obtain ⟨n1, n2⟩ := List.nodup_cons.mp nd'
    have h0 := h g List.mem_cons_self
    unfold kept
    by_cases q : firstB rs g.2 < j
    · have eg : gone j rs (g :: L) = gone j (place rs g.1 g.2) L := by
        show (if _ then _ else _) = _
        rw [if_pos q]
      rw [eg] at h h0
      have ng : ¬ g.1 ∈ S := fun z => by
        obtain ⟨x, hx, e⟩ := List.mem_map.mp (h0.mp z)
        exact n1 (List.mem_map.mpr ⟨x, gone_sub j L _ x hx, e⟩)
      rw [if_pos q, List.filter_cons_of_pos (by simpa using ng), kept_filter j L _ S n2 fun x hx => h x (List.mem_cons_of_mem _ hx)]
    · have eg : gone j rs (g :: L) = g :: gone j (place rs g.1 g.2) L := by
        show (if _ then _ else _) = _
        rw [if_neg q]
      rw [eg] at h h0
      have ng : g.1 ∈ S := h0.mpr List.mem_cons_self
      rw [if_neg q, List.filter_cons_of_neg (by simpa using ng)]
      refine kept_filter j L _ S n2 fun x hx => ?_
      have hx1 := h x (List.mem_cons_of_mem _ hx)
      rw [hx1, List.map_cons, List.mem_cons]
      have ne : ¬ x.1 = g.1 := fun z => n1 (by rw [← z]; exact List.mem_map.mpr ⟨x, hx, rfl⟩)
      exact ⟨fun z => z.resolve_left ne, .inr⟩
theorem Fit.filter {gs : List (Int × Int)} (f : Fit gs) (k : Int × Int → Bool) : Fit (gs.filter k) :=
  ⟨f.nd.sublist (List.filter_sublist.map _), fun g hg => f.pos g (List.mem_filter.mp hg).1⟩
theorem byAge_filter {gs : List (Int × Int)} (f : Fit gs) (k : Int × Int → Bool) : byAge (gs.filter k) = (byAge gs).filter k :=
  (byAge_of (f.filter k) ((byAge_perm gs).filter k) ((byAge_sorted gs).sublist List.filter_sublist)).symm
theorem settle_left {gs : List (Int × Int)} (f : Fit gs) {S : List Int} {j : Nat} (h : ∀ a, a ∈ S ↔ a ∈ ((settle gs).drop j).flatten) : settle (gs.filter fun g => !decide (g.1 ∈ S)) = (settle gs).take j := by
  unfold settle
  rw [byAge_filter f]
  have hg := gone_settle j (byAge gs) []
  rw [List.drop_nil, List.flatten_nil, List.append_nil] at hg
  rw [kept_filter j (byAge gs) [] S f.byAge.nd fun g _ => (h g.1).trans hg.mem_iff]
  have := kept_settle j (byAge gs) []
  rw [List.take_nil] at this
  exact this
def sentAway (gs : List (Int × Int)) (j : Nat) : List Int := down ((settle gs).drop j).flatten
theorem sentAway_mem (gs : List (Int × Int)) (j : Nat) (a : Int) : a ∈ sentAway gs j ↔ a ∈ ((settle gs).drop j).flatten := (down_perm _).mem_iff
end El
namespace El
/-! ### one guest more -/
/-- b is s with one more put in -/
def Plus (s b : List Int) : Prop := ∃ (A : List Int) (m : Int) (B : List Int), s = A ++ B ∧ b = A ++ m :: B
/-- where s has g, b has m ahead -/
def Swap (s b : List Int) : Prop := ∃ (A : List Int) (m : Int) (B : List Int) (g : Int) (C : List Int), s = A ++ B ++ g :: C ∧ b = A ++ m :: B ++ C
def Alike (s b : List Int) : Prop := s = b ∨ Swap s b
theorem Plus.len {s b : List Int} (h : Plus s b) : b.length = s.length + 1 := by
  obtain ⟨A, m, B, rfl, rfl⟩ := h
  rw [List.length_append, List.length_append, List.length_cons]
  omega
theorem Alike.len {s b : List Int} (h : Alike s b) : b.length = s.length := by
  rcases h with rfl | ⟨A, m, B, g, C, rfl, rfl⟩
  · rfl
  · simp only [List.length_append, List.length_cons]
    omega
theorem Plus.snoc {s b : List Int} (h : Plus s b) (a : Int) : Plus (s ++ [a]) (b ++ [a]) := by
  obtain ⟨A, m, B, rfl, rfl⟩ := h
  exact ⟨A, m, B ++ [a], by rw [List.append_assoc], by rw [List.append_assoc]; rfl⟩
theorem Alike.snoc {s b : List Int} (h : Alike s b) (a : Int) : Alike (s ++ [a]) (b ++ [a]) := by
  rcases h with rfl | ⟨A, m, B, g, C, rfl, rfl⟩
  · exact .inl rfl
  · exact .inr ⟨A, m, B, g, C ++ [a], by simp only [List.append_assoc, List.cons_append], by simp only [List.append_assoc, List.cons_append]⟩
inductive Near : List (List Int) → List (List Int) → Prop
  | new (m : Int) : Near [] [[m]]
  | here {s b : List Int} (h : Plus s b) (rest : List (List Int)) : Near (s :: rest) (b :: rest)
  | skip {s b : List Int} {ss bs : List (List Int)} (h : Alike s b) (r : Near ss bs) : Near (s :: ss) (b :: bs)
theorem Near.place (rs : List (List Int)) (a p : Int) : Near rs (El.place rs a p) := by
  induction rs with
  | nil => exact .new a
  | cons r rs ih =>
    unfold El.place
    split
    · exact .here ⟨r, a, [], by simp, rfl⟩ rs
    · exact .skip (.inl rfl) ih
theorem Near.step {s b : List (List Int)} (h : Near s b) (a p : Int) (hp : 0 ≤ p) : Near (El.place s a p) (El.place b a p) := by
  induction h with
  | new m =>
    unfold El.place
    split
    · exact .here (s := [a]) (b := [m] ++ [a]) ⟨[], m, [a], rfl, rfl⟩ []
    · refine .skip (.inr ⟨[], m, [], a, [], rfl, rfl⟩) ?_
      exact .new a
  | @here s b hb rest =>
    have hl := hb.len
    unfold El.place
    by_cases h1 : (s.length : Int) ≤ p
    · rw [if_pos h1]
      by_cases h2 : (b.length : Int) ≤ p
      · rw [if_pos h2]
        exact .here (hb.snoc a) rest
      · rw [if_neg h2]
        obtain ⟨A, m, B, rfl, rfl⟩ := hb
        exact .skip (.inr ⟨A, m, B, a, [], rfl, by simp⟩) (Near.place rest a p)
    · rw [if_neg h1, if_neg (by omega)]
      exact .here hb _
  | @skip s b ss bs hs r ih =>
    have hl := hs.len
    unfold El.place
    by_cases h1 : (s.length : Int) ≤ p
    · rw [if_pos h1, if_pos (by omega)]
      exact .skip (hs.snoc a) r
    · rw [if_neg h1, if_neg (by omega)]
      exact .skip hs ih
theorem Near.fold {s b : List (List Int)} (h : Near s b) : ∀ (gs : List (Int × Int)), (∀ g ∈ gs, 0 ≤ g.2) → Near (gs.foldl (fun rs g => El.place rs g.1 g.2) s) (gs.foldl (fun rs g => El.place rs g.1 g.2) b)
  | [], _ => h
  | g :: gs, hp => by
    rw [List.foldl_cons, List.foldl_cons]
    exact Near.fold (h.step g.1 g.2 (hp g List.mem_cons_self)) gs fun x hx => hp x (List.mem_cons_of_mem _ hx)
/-- the order with one more -/
theorem byAge_split {gs : List (Int × Int)} {x : Int × Int} (f : Fit (x :: gs)) : ∃ pre post, byAge (x :: gs) = pre ++ x :: post ∧ byAge gs = pre ++ post := by
  have hx : x ∈ byAge (x :: gs) := (byAge_perm _).mem_iff.mpr List.mem_cons_self
  obtain ⟨pre, post, e⟩ := List.append_of_mem hx
  refine ⟨pre, post, e, ?_⟩
  have fg : Fit gs := ⟨(List.nodup_cons.mp f.nd).2, fun g hg => f.pos g (List.mem_cons_of_mem _ hg)⟩
  refine (byAge_of fg ?_ ?_).symm
  · have p : (pre ++ x :: post).Perm (x :: gs) := e ▸ byAge_perm (x :: gs)
    exact List.Perm.cons_inv (List.perm_middle.symm.trans p)
  · have s := byAge_sorted (x :: gs)
    rw [e] at s
    rw [List.pairwise_append] at s ⊢
    obtain ⟨s1, s2, s3⟩ := s
    exact ⟨s1, (List.pairwise_cons.mp s2).2, fun a ha b hb => s3 a ha b (List.mem_cons_of_mem _ hb)⟩
theorem settle_near {gs : List (Int × Int)} {x : Int × Int} (f : Fit (x :: gs)) : Near (settle gs) (settle (x :: gs)) := by
  obtain ⟨pre, post, e1, e2⟩ := byAge_split f
  unfold settle settleL
  rw [e1, e2, List.foldl_append, List.foldl_append, List.foldl_cons]
  exact (Near.place _ x.1 x.2).fold post fun g hg => f.pos g ((byAge_perm _).mem_iff.mp (by rw [e1]; exact List.mem_append_right _ (List.mem_cons_of_mem _ hg)))
/-- sizes: one room one fuller -/
def bump (L : List Int) (d : Nat) : List Int := if d < L.length then L.set d (L.getD d 0 + 1) else L ++ [1]
theorem bump_cons (x : Int) (L : List Int) (d : Nat) : bump (x :: L) (d + 1) = x :: bump L d := by
  unfold bump
  by_cases h : d < L.length
  · rw [if_pos h, if_pos (by rw [List.length_cons]; omega)]
    rfl
  · rw [if_neg h, if_neg (by rw [List.length_cons]; omega)]
    rfl
theorem Near.sizes {s b : List (List Int)} (h : Near s b) : ∃ d, d ≤ s.length ∧ b.map (fun r => (r.length : Int)) = bump (s.map fun r => (r.length : Int)) d := by
  induction h with
  | new m => exact ⟨0, Nat.le_refl _, rfl⟩
  | @here s b hb rest =>
    refine ⟨0, Nat.zero_le _, ?_⟩
    have hl := hb.len
    show ((b.length : Int) :: rest.map fun r => (r.length : Int)) = ((s.length : Int) + 1) :: rest.map fun r => (r.length : Int)
    rw [hl]
    rfl
  | @skip s b ss bs hs r ih =>
    obtain ⟨d, hd, e⟩ := ih
    refine ⟨d + 1, by rw [List.length_cons]; omega, ?_⟩
    rw [List.map_cons, List.map_cons, bump_cons, e, hs.len]
theorem bump_length (L : List Int) {d : Nat} : (bump L d).length = if d < L.length then L.length else L.length + 1 := by
  unfold bump
  split
  · rw [List.length_set]
  · rw [List.length_append]
    rfl
theorem bump_at (L : List Int) {d k : Nat} (hd : d ≤ L.length) (hk : k < (bump L d).length) : (bump L d)[k]? = some (L.getD k 0 + if k = d then 1 else 0) := by
  rw [bump_length] at hk
  unfold bump
  by_cases h : d < L.length
  · rw [if_pos h] at hk ⊢
    by_cases e : k = d
    · subst e
      rw [List.getElem?_set_self hk, if_pos rfl]
    · rw [List.getElem?_set_ne (fun z => e z.symm), if_neg e, Int.add_zero, List.getElem?_eq_getElem hk, List.getD_eq_getElem?_getD, List.getElem?_eq_getElem hk]
      rfl
  · rw [if_neg h] at hk ⊢
    have hd' : d = L.length := by omega
    subst hd'
    by_cases e : k = L.length
    · subst e
      rw [List.getElem?_append_right (Nat.le_refl _), Nat.sub_self, if_pos rfl, List.getD_eq_getElem?_getD, List.getElem?_eq_none (Nat.le_refl _)]
      rfl
    · have hk' : k < L.length := by omega
      rw [List.getElem?_append_left hk', if_neg e, Int.add_zero, List.getElem?_eq_getElem hk', List.getD_eq_getElem?_getD, List.getElem?_eq_getElem hk']
      rfl
end El
namespace El
/-! ### in peace, by counting -/
theorem upIn_iff {pf : Int → Int} : ∀ {l : List Int} {k : Nat}, upIn pf l k = none ↔ ∀ (i : Nat) (a : Int), l[i]? = some a → ((i + k : Nat) : Int) ≤ pf a
  | [], _ => ⟨fun _ i a e => by simp at e, fun _ => rfl⟩
  | x :: l, k => by
    constructor
    · intro h
      unfold upIn at h
      by_cases q : pf x < (k : Int)
      · rw [if_pos q] at h
        cases h
      · rw [if_neg q] at h
        intro i a e
        cases i with
        | zero =>
          obtain rfl : x = a := Option.some.inj e
          omega
        | succ i =>
          have := (upIn_iff.mp h) i a (by simpa using e)
          omega
    · exact upIn_none
theorem upsetOf_iff {gs : List (Int × Int)} : ∀ {rs : List (List Int)} {k : Nat}, upsetOf gs rs k = none ↔ ∀ r ∈ rs, eldUp gs r = none
  | [], _ => ⟨fun _ r m => absurd m List.not_mem_nil, fun _ => rfl⟩
  | r :: rs, k => by
    constructor
    · intro h
      unfold upsetOf at h
      cases e : eldUp gs r with
      | some a => rw [e] at h; cases h
      | none =>
        rw [e] at h
        intro s m
        rcases List.mem_cons.mp m with rfl | m
        · exact e
        · exact (upsetOf_iff.mp h) s m
    · exact upsetOf_none
theorem above_ix : ∀ {l : List Int} {i : Nat} {a : Int}, l.Pairwise (· > ·) → l[i]? = some a → (l.filter fun b => decide (a < b)).length = i
  | [], i, a, _, e => by simp at e
  | x :: l, 0, a, h, e => by
    obtain rfl : x = a := Option.some.inj e
    obtain ⟨h1, _⟩ := List.pairwise_cons.mp h
    rw [List.filter_cons_of_neg (by simp), List.filter_eq_nil_iff.mpr fun b hb => by
      have := h1 b hb
      simp only [decide_eq_true_eq]
      omega]
    rfl
  | x :: l, i + 1, a, h, e => by
    obtain ⟨h1, h2⟩ := List.pairwise_cons.mp h
    have e' : l[i]? = some a := by simpa using e
    have := h1 a (List.mem_of_getElem? e')
    rw [List.filter_cons_of_pos (by simp only [decide_eq_true_eq]; omega), List.length_cons, above_ix h2 e']
def above (r : List Int) (a : Int) : List Int := r.filter fun b => decide (a < b)
theorem down_strict {r : List Int} (nd : r.Nodup) : (down r).Pairwise (· > ·) := by
  have h1 := down_sorted r
  have h2 : (down r).Nodup := ((down_perm r).nodup_iff).mpr nd
  have h3 := h1.and h2
  exact h3.imp fun {a b} h => by
    have := h.1
    have := h.2
    omega
theorem eldUp_iff {gs : List (Int × Int)} {r : List Int} (nd : r.Nodup) : eldUp gs r = none ↔ ∀ a ∈ r, ((above r a).length : Int) ≤ pof gs a := by
  have hl : ∀ a, (above r a).length = ((down r).filter fun b => decide (a < b)).length := fun a => (((down_perm r).filter _).length_eq).symm
  unfold eldUp
  rw [upIn_iff]
  constructor
  · intro h a m
    obtain ⟨i, e⟩ := List.mem_iff_getElem?.mp ((down_perm r).mem_iff.mpr m)
    have := h i a e
    rw [hl, above_ix (down_strict nd) e]
    omega
  · intro h i a e
    have := h a ((down_perm r).mem_iff.mp (List.mem_of_getElem? e))
    rw [hl, above_ix (down_strict nd) e] at this
    omega
theorem flat_nd {rs : List (List Int)} (nd : rs.flatten.Nodup) {r : List Int} (m : r ∈ rs) : r.Nodup := (List.pairwise_flatten.mp nd).1 r m
def full (rs : List (List Int)) : List (List Int) := rs.filter fun r => !r.isEmpty
def lensD (rs : List (List Int)) : List Int := (full rs).map fun r => (r.length : Int)
/-- in peace and as good as can be -/
def bestB (gs : List (Int × Int)) (rs : List (List Int)) : Bool := decide (upsetOf gs rs 0 = none) && decide (down (lensD rs) = (settle gs).map fun r => (r.length : Int))
end El
namespace El
/-! ### none is fuller in its fullest rooms than the rule by age -/
/-- whatever rooms are taken out of O, as many first ones of G have as many at least -/
def Dom (G O : List Nat) : Prop := ∀ s : List Nat, s.Sublist O → s.sum ≤ (G.take s.length).sum
def bumpN (G : List Nat) (a : Nat) : List Nat := if a < G.length then G.set a (G.getD a 0 + 1) else G ++ [1]
theorem sum_split (f : Nat → Bool) : ∀ s : List Nat, s.sum = (s.filter f).sum + (s.filter fun x => !f x).sum
  | [] => rfl
  | x :: s => by
    have ih := sum_split f s
    rw [List.sum_cons]
    cases e : f x with
    | true => rw [List.filter_cons_of_pos e, List.filter_cons_of_neg (by simp [e]), List.sum_cons]; omega
    | false => rw [List.filter_cons_of_neg (by simp [e]), List.filter_cons_of_pos (by simp [e]), List.sum_cons]; omega
theorem len_split (f : Nat → Bool) : ∀ s : List Nat, s.length = (s.filter f).length + (s.filter fun x => !f x).length
  | [] => rfl
  | x :: s => by
    have ih := len_split f s
    rw [List.length_cons]
    cases e : f x with
    | true => rw [List.filter_cons_of_pos e, List.filter_cons_of_neg (by simp [e]), List.length_cons]; omega
    | false => rw [List.filter_cons_of_neg (by simp [e]), List.filter_cons_of_pos (by simp [e]), List.length_cons]; omega
theorem sum_low {q : Nat} : ∀ {l : List Nat}, (∀ x ∈ l, x ≤ q) → l.sum ≤ l.length * q
  | [], _ => by simp
  | x :: l, h => by
    have h1 := h x List.mem_cons_self
    have h2 := sum_low fun y m => h y (List.mem_cons_of_mem _ m)
    rw [List.sum_cons, List.length_cons, Nat.add_mul, Nat.one_mul]
    omega
theorem take_high {q : Nat} : ∀ {G : List Nat} {h n : Nat}, h + n ≤ G.length → (∀ i x, i < h + n → G[i]? = some x → q ≤ x) → (G.take h).sum + n * q ≤ (G.take (h + n)).sum
  | G, h, 0, _, _ => by simp
  | G, h, n + 1, hl, hx => by
    have ih := take_high (G := G) (h := h) (n := n) (by omega) fun i x hi e => hx i x (by omega) e
    have hlt : h + n < G.length := by omega
    have e : G[h + n]? = some G[h + n] := List.getElem?_eq_getElem hlt
    have hq := hx (h + n) _ (by omega) e
    rw [show h + (n + 1) = h + n + 1 by omega, List.take_add_one, e, List.sum_append, Nat.add_mul, Nat.one_mul]
    show _ ≤ _ + [G[h + n]].sum
    rw [List.sum_cons, List.sum_nil]
    omega
theorem take_bump_gt : ∀ {G : List Nat} {a k : Nat}, a ≤ G.length → a < k → ((bumpN G a).take k).sum = (G.take k).sum + 1
  | [], a, k, ha, hk => by
    have : a = 0 := Nat.le_zero.mp ha
    subst this
    cases k with
    | zero => omega
    | succ k => simp [bumpN]
  | x :: G, 0, k, _, hk => by
    cases k with
    | zero => omega
    | succ k =>
      simp [bumpN]
      omega
  | x :: G, a + 1, k, ha, hk => by
    cases k with
    | zero => omega
    | succ k =>
      have ih := take_bump_gt (G := G) (a := a) (k := k) (by simpa using ha) (by omega)
      have e : bumpN (x :: G) (a + 1) = x :: bumpN G a := by
        unfold bumpN
        by_cases h : a < G.length
        · rw [if_pos h, if_pos (by simpa using h)]
          rfl
        · rw [if_neg h, if_neg (by simpa using h)]
          rfl
      rw [e, List.take_succ_cons, List.take_succ_cons, List.sum_cons, List.sum_cons, ih]
      omega
theorem take_bump_le : ∀ {G : List Nat} {a k : Nat}, a ≤ G.length → k ≤ a → ((bumpN G a).take k) = G.take k := by
  intro G a k ha hk
  unfold bumpN
  split
  · rw [List.take_set_of_le hk]
  · rw [List.take_append_of_le_length (by omega)]
theorem take_bump {G : List Nat} {a k : Nat} (ha : a ≤ G.length) : (G.take k).sum ≤ ((bumpN G a).take k).sum := by
  by_cases h : k ≤ a
  · rw [take_bump_le ha h]
    exact Nat.le_refl _
  · rw [take_bump_gt ha (by omega)]
    omega
theorem Dom.skip {G O : List Nat} {a : Nat} (d : Dom G O) (ha : a ≤ G.length) : Dom (bumpN G a) O := fun s hs => Nat.le_trans (d s hs) (take_bump ha)
/-- one of them one fuller, or a new one -/
inductive Add1 (p : Nat) : List Nat → List Nat → Prop where
  | new : Add1 p [] [1]
  | here {v : Nat} {O : List Nat} : v ≤ p → Add1 p (v :: O) ((v + 1) :: O)
  | next {v : Nat} {O O' : List Nat} : Add1 p O O' → Add1 p (v :: O) (v :: O')
theorem Add1.high {p : Nat} {O O' : List Nat} (h : Add1 p O O') : O'.filter (fun x => decide (p + 1 < x)) = O.filter fun x => decide (p + 1 < x) := by
  induction h with
  | new => simp
  | @here v O hv =>
    rw [List.filter_cons_of_neg (by simp only [decide_eq_true_eq]; omega), List.filter_cons_of_neg (by simp only [decide_eq_true_eq]; omega)]
  | @next v O O' h ih =>
    rw [List.filter_cons, List.filter_cons, ih]
theorem Add1.back {p : Nat} {O O' : List Nat} (h : Add1 p O O') : ∀ {s : List Nat}, s.Sublist O' → ∃ t : List Nat, t.Sublist O ∧ t.length ≤ s.length ∧ s.sum ≤ t.sum + 1 := by
  induction h with
  | new =>
    intro s hs
    cases hs with
    | cons _ hs =>
      rw [List.sublist_nil.mp hs]
      exact ⟨[], List.Sublist.refl _, Nat.le_refl _, by simp⟩
    | @cons_cons s' _ _ hs =>
      rw [List.sublist_nil.mp hs]
      exact ⟨[], List.Sublist.refl _, by simp, by simp⟩
  | @here v O hv =>
    intro s hs
    cases hs with
    | cons _ hs => exact ⟨s, hs.cons _, Nat.le_refl _, by omega⟩
    | @cons_cons s' _ _ hs => exact ⟨v :: s', hs.cons_cons _, Nat.le_refl _, by rw [List.sum_cons, List.sum_cons]; omega⟩
  | @next v O O' h ih =>
    intro s hs
    cases hs with
    | cons _ hs =>
      obtain ⟨t, h1, h2, h3⟩ := ih hs
      exact ⟨t, h1.cons _, h2, h3⟩
    | @cons_cons s' _ _ hs =>
      obtain ⟨t, h1, h2, h3⟩ := ih hs
      refine ⟨v :: t, h1.cons_cons _, ?_, ?_⟩
      · rw [List.length_cons, List.length_cons]
        omega
      · rw [List.sum_cons, List.sum_cons]
        omega
theorem take_sum_le : ∀ {G : List Nat} {h k : Nat}, h ≤ k → (G.take h).sum ≤ (G.take k).sum
  | [], _, _, _ => by simp
  | x :: G, 0, k, _ => by simp
  | x :: G, h + 1, 0, e => absurd e (by omega)
  | x :: G, h + 1, k + 1, e => by
    have := take_sum_le (G := G) (h := h) (k := k) (by omega)
    rw [List.take_succ_cons, List.take_succ_cons, List.sum_cons, List.sum_cons]
    omega
theorem Dom.step {G O O' : List Nat} {p a : Nat} (d : Dom G O) (ha : a ≤ G.length) (hg : ∀ i x, i < a → G[i]? = some x → p < x) (hO : Add1 p O O') : Dom (bumpN G a) O' := by
  intro s hs
  by_cases hk : s.length ≤ a
  · rw [take_bump_le ha hk, sum_split (fun x => decide (p + 1 < x)) s]
    have h1 : (s.filter fun x => decide (p + 1 < x)).Sublist O := by
      refine (hs.filter _).trans ?_
      rw [hO.high]
      exact List.filter_sublist
    have h2 := d _ h1
    have h3 := sum_low (q := p + 1) (l := s.filter fun x => !decide (p + 1 < x)) fun x m => by
      have := (List.mem_filter.mp m).2
      simp only [Bool.not_eq_true', decide_eq_false_iff_not] at this
      omega
    have h4 := len_split (fun x => decide (p + 1 < x)) s
    have h5 := take_high (q := p + 1) (G := G) (h := (s.filter fun x => decide (p + 1 < x)).length) (n := (s.filter fun x => !decide (p + 1 < x)).length) (by omega) fun i x hi e => hg i x (by omega) e
    rw [← h4] at h5
    omega
  · obtain ⟨t, h1, h2, h3⟩ := hO.back hs
    have h4 := d t h1
    have h5 := take_sum_le (G := G) h2
    rw [take_bump_gt ha (by omega)]
    omega
theorem Dom.nil : Dom [] [] := fun s hs => by
  rw [List.sublist_nil.mp hs]
  simp
end El
namespace El
def lensN (rs : List (List Int)) : List Nat := rs.map List.length
theorem lensN_place : ∀ (rs : List (List Int)) (a p : Int), lensN (place rs a p) = bumpN (lensN rs) (firstB rs p)
  | [], a, p => rfl
  | r :: rs, a, p => by
    unfold place firstB
    by_cases h : (r.length : Int) ≤ p
    · rw [if_pos h, if_pos h]
      show (r ++ [a]).length :: lensN rs = bumpN (r.length :: lensN rs) 0
      rw [List.length_append]
      rfl
    · rw [if_neg h, if_neg h]
      show r.length :: lensN (place rs a p) = bumpN (r.length :: lensN rs) (firstB rs p + 1)
      rw [lensN_place rs a p]
      unfold bumpN
      by_cases q : firstB rs p < (lensN rs).length
      · rw [if_pos q, if_pos (by simpa using q)]
        rfl
      · rw [if_neg q, if_neg (by simpa using q)]
        rfl
theorem lensN_out {rs : List (List Int)} {p : Int} (hp : 0 ≤ p) {i x : Nat} (h : i < firstB rs p) (e : (lensN rs)[i]? = some x) : p.toNat < x := by
  unfold lensN at e
  rw [List.getElem?_map] at e
  cases q : rs[i]? with
  | none => rw [q] at e; cases e
  | some r =>
    rw [q] at e
    obtain rfl : r.length = x := Option.some.inj e
    have := firstB_out rs p i r h q
    omega
theorem dom_place {rs : List (List Int)} {O O' : List Nat} {a p : Int} (hp : 0 ≤ p) (d : Dom (lensN rs) O) (h : Add1 p.toNat O O') : Dom (lensN (place rs a p)) O' := by
  rw [lensN_place]
  exact d.step (by unfold lensN; rw [List.length_map]; exact firstB_le rs p) (fun i x hi e => lensN_out hp hi e) h
theorem dom_skip {rs : List (List Int)} {O : List Nat} {a p : Int} (d : Dom (lensN rs) O) : Dom (lensN (place rs a p)) O := by
  rw [lensN_place]
  exact d.skip (by unfold lensN; rw [List.length_map]; exact firstB_le rs p)
theorem add1_set {p : Nat} {a : Int} : ∀ {rs : List (List Int)} {k : Nat} {r : List Int}, rs[k]? = some r → r.length ≤ p → Add1 p (lensN rs) (lensN (rs.set k (r ++ [a])))
  | [], _, _, e, _ => by simp at e
  | s :: rs, 0, r, e, h => by
    obtain rfl : s = r := Option.some.inj e
    show Add1 p (s.length :: lensN rs) ((s ++ [a]).length :: lensN rs)
    rw [List.length_append]
    exact .here h
  | s :: rs, k + 1, r, e, h => .next (add1_set (by simpa using e) h)
theorem add1_new {p : Nat} {a : Int} : ∀ {rs : List (List Int)}, Add1 p (lensN rs) (lensN (rs ++ [[a]]))
  | [] => .new
  | _ :: _ => .next add1_new
theorem perm_sum : ∀ {s t : List Nat}, s.Perm t → s.sum = t.sum := by
  intro s t h
  induction h with
  | nil => rfl
  | cons x _ ih => rw [List.sum_cons, List.sum_cons, ih]
  | swap x y l => rw [List.sum_cons, List.sum_cons, List.sum_cons, List.sum_cons]; omega
  | trans _ _ ih1 ih2 => exact ih1.trans ih2
theorem Dom.perm {G O O' : List Nat} (d : Dom G O) (p : O'.Perm O) : Dom G O' := fun s hs => by
  obtain ⟨t, h1, h2⟩ := List.exists_perm_sublist hs p
  have h3 := d t h2
  have h4 := h1.length_eq
  have h5 := perm_sum h1
  rw [show s.length = t.length by omega]
  omega
/-- as many rooms, or more -/
theorem Dom.rooms {rs os : List (List Int)} (d : Dom (lensN rs) (lensN os)) (hr : ∀ r ∈ rs, r ≠ []) (h : rs.flatten.length ≤ os.flatten.length) : rs.length ≤ os.length := by
  have hs : ∀ l : List (List Int), (lensN l).sum = l.flatten.length := fun l => by
    induction l with
    | nil => rfl
    | cons x l ih =>
      show (x.length :: lensN l).sum = _
      rw [List.sum_cons, ih, List.flatten_cons, List.length_append]
  have h1 := d _ (List.Sublist.refl _)
  rw [hs, show (lensN os).length = os.length from List.length_map _] at h1
  refine Nat.le_of_not_lt fun hlt => ?_
  have h2 : (lensN rs).take os.length = lensN (rs.take os.length) := List.map_take.symm
  rw [h2, hs] at h1
  have h3 := congrArg (fun l => (List.flatten l).length) (List.take_append_drop os.length rs)
  rw [List.flatten_append, List.length_append] at h3
  have h4 : (rs.drop os.length).length ≤ (rs.drop os.length).flatten.length := len_le_flat _ fun r m => hr r (List.mem_of_mem_drop m)
  rw [List.length_drop] at h4
  omega
end El
namespace El
/-! ### any worth of sizes that grows ever faster -/
def over (t : Nat) (O : List Nat) : Nat := (O.map fun x => x - t).sum
theorem over_cons (t x : Nat) (O : List Nat) : over t (x :: O) = (x - t) + over t O := by
  unfold over
  rw [List.map_cons, List.sum_cons]
theorem over_high (t : Nat) : ∀ O : List Nat, over t O + (O.filter fun x => decide (t < x)).length * t = (O.filter fun x => decide (t < x)).sum
  | [] => by simp [over]
  | x :: O => by
    have ih := over_high t O
    rw [over_cons]
    by_cases h : t < x
    · rw [List.filter_cons_of_pos (by simpa using h), List.length_cons, List.sum_cons, Nat.add_mul, Nat.one_mul]
      omega
    · rw [List.filter_cons_of_neg (by simpa using h)]
      omega
theorem over_take (t : Nat) : ∀ (G : List Nat) (h : Nat), (G.take h).sum ≤ over t G + h * t
  | [], h => by simp
  | x :: G, 0 => by simp
  | x :: G, h + 1 => by
    have ih := over_take t G h
    rw [List.take_succ_cons, List.sum_cons, over_cons, Nat.add_mul, Nat.one_mul]
    omega
theorem Dom.over {G O : List Nat} (d : Dom G O) (t : Nat) : over t O ≤ over t G := by
  have h1 := over_high t O
  have h2 := d _ (List.filter_sublist (p := fun x => decide (t < x)) (l := O))
  have h3 := over_take t G (O.filter fun x => decide (t < x)).length
  omega
def sumR : Nat → (Nat → Int) → Int
  | 0, _ => 0
  | n + 1, f => sumR n f + f n
theorem sumR_add (f g : Nat → Int) : ∀ n, sumR n (fun t => f t + g t) = sumR n f + sumR n g
  | 0 => rfl
  | n + 1 => by
    have ih := sumR_add f g n
    show sumR n (fun t => f t + g t) + (f n + g n) = (sumR n f + f n) + (sumR n g + g n)
    omega
theorem sumR_le {f g : Nat → Int} (h : ∀ t, f t ≤ g t) : ∀ n, sumR n f ≤ sumR n g
  | 0 => Int.le_refl _
  | n + 1 => Int.add_le_add (sumR_le h n) (h n)
theorem sumR_congr {f g : Nat → Int} (h : ∀ t, f t = g t) (n : Nat) : sumR n f = sumR n g := by
  rw [show f = g from funext h]
/-- by how much faster -/
def bend (w : Nat → Int) (t : Nat) : Int := w (t + 2) - w (t + 1) - (w (t + 1) - w t)
def fromBends (w : Nat → Int) (n x : Nat) : Int := w 1 * (x : Int) + sumR n fun t => bend w t * ((x - (t + 1) : Nat) : Int)
theorem bends_high (w : Nat → Int) (h0 : w 0 = 0) : ∀ n y, fromBends w n (n + y) = w n + (y : Int) * (w (n + 1) - w n)
  | 0, y => by
    unfold fromBends
    show w 1 * ((0 + y : Nat) : Int) + 0 = _
    rw [h0, Int.add_zero, Nat.zero_add, Int.sub_zero, Int.mul_comm, Int.zero_add]
  | n + 1, y => by
    have ih := bends_high w h0 n (y + 1)
    have e : fromBends w (n + 1) (n + 1 + y) = fromBends w n (n + (y + 1)) + bend w n * (y : Int) := by
      unfold fromBends
      rw [show n + 1 + y = n + (y + 1) by omega]
      show _ + (sumR n _ + bend w n * ((n + (y + 1) - (n + 1) : Nat) : Int)) = _
      rw [show n + (y + 1) - (n + 1) = y by omega, Int.add_assoc]
    rw [e, ih]
    unfold bend
    rw [Int.sub_mul, Int.mul_comm (w (n + 2) - w (n + 1)), Int.mul_comm (w (n + 1) - w n), show ((y + 1 : Nat) : Int) = (y : Int) + 1 by omega, Int.add_mul, Int.one_mul]
    generalize (y : Int) * (w (n + 1) - w n) = u
    generalize (y : Int) * (w (n + 2) - w (n + 1)) = v
    omega
theorem bends_is (w : Nat → Int) (h0 : w 0 = 0) : ∀ n x, x ≤ n + 1 → fromBends w n x = w x
  | 0, x, hx => by
    have := bends_high w h0 0 x
    rw [Nat.zero_add, h0, Int.zero_add, Int.sub_zero] at this
    rw [this]
    rcases Nat.le_one_iff_eq_zero_or_eq_one.mp hx with rfl | rfl
    · rw [h0]
      simp
    · simp
  | n + 1, x, hx => by
    by_cases h : x ≤ n + 1
    · rw [← bends_is w h0 n x h]
      unfold fromBends
      show _ + (sumR n _ + bend w n * ((x - (n + 1) : Nat) : Int)) = _
      rw [show x - (n + 1) = 0 by omega, Int.natCast_zero, Int.mul_zero, Int.add_zero]
    · have e : x = n + 1 + 1 := by omega
      subst e
      have := bends_high w h0 (n + 1) 1
      rw [this]
      show w (n + 1) + ((1 : Nat) : Int) * (w (n + 2) - w (n + 1)) = w (n + 2)
      rw [Int.natCast_one, Int.one_mul]
      omega
theorem worth_sum (w : Nat → Int) (h0 : w 0 = 0) (n : Nat) : ∀ O : List Nat, (∀ x ∈ O, x ≤ n + 1) → (O.map w).sum = w 1 * ((O.sum : Nat) : Int) + sumR n fun t => bend w t * ((over (t + 1) O : Nat) : Int)
  | [], _ => by
    have : ∀ m, sumR m (fun t => bend w t * ((over (t + 1) [] : Nat) : Int)) = 0 := fun m => by
      induction m with
      | zero => rfl
      | succ m ih =>
        show sumR m _ + bend w m * ((over (m + 1) [] : Nat) : Int) = 0
        rw [ih]
        show 0 + bend w m * ((0 : Nat) : Int) = 0
        simp
    rw [this]
    simp
  | x :: O, h => by
    have ih := worth_sum w h0 n O fun y m => h y (List.mem_cons_of_mem _ m)
    have hx := bends_is w h0 n x (h x List.mem_cons_self)
    rw [List.map_cons, List.sum_cons, ih, ← hx]
    unfold fromBends
    rw [sumR_congr (f := fun t => bend w t * ((over (t + 1) (x :: O) : Nat) : Int)) (g := fun t => bend w t * ((x - (t + 1) : Nat) : Int) + bend w t * ((over (t + 1) O : Nat) : Int)) (fun t => by
      rw [over_cons, ← Int.mul_add]
      rfl), sumR_add, List.sum_cons, show ((x + O.sum : Nat) : Int) = (x : Int) + ((O.sum : Nat) : Int) by omega, Int.mul_add]
    generalize w 1 * (x : Int) = a
    generalize w 1 * ((O.sum : Nat) : Int) = b
    omega
/-- of all with as many guests the rule by age has the greatest worth -/
theorem Dom.worth {G O : List Nat} (d : Dom G O) (hs : O.sum = G.sum) (w : Nat → Int) (h0 : w 0 = 0) (hw : ∀ t, 0 ≤ bend w t) : (O.map w).sum ≤ (G.map w).sum := by
  have hb : ∀ (L : List Nat) (x : Nat), x ∈ L → x ≤ L.sum := by
    intro L
    induction L with
    | nil => intro x m; exact absurd m List.not_mem_nil
    | cons y L ih =>
      intro x m
      rw [List.sum_cons]
      rcases List.mem_cons.mp m with rfl | m
      · omega
      · have := ih x m
        omega
  rw [worth_sum w h0 G.sum O (fun x m => by have := hb O x m; omega), worth_sum w h0 G.sum G (fun x m => by have := hb G x m; omega), hs]
  refine Int.add_le_add_left (sumR_le (fun t => ?_) _) _
  exact Int.mul_le_mul_of_nonneg_left (by have := d.over (t + 1); omega) (hw t)
end El
namespace El
theorem sumR_le_lt {f g : Nat → Int} : ∀ n, (∀ t, t < n → f t ≤ g t) → sumR n f ≤ sumR n g
  | 0, _ => Int.le_refl _
  | n + 1, h => Int.add_le_add (sumR_le_lt n fun t ht => h t (by omega)) (h n (Nat.lt_succ_self n))
theorem mem_sum_le : ∀ {L : List Nat} {x : Nat}, x ∈ L → x ≤ L.sum
  | y :: L, x, m => by
    rw [List.sum_cons]
    rcases List.mem_cons.mp m with rfl | m
    · omega
    · have := mem_sum_le m
      omega
/-- as Dom.worth, of worths that grow ever faster as far as there are guests -/
theorem Dom.worthTo {G O : List Nat} (d : Dom G O) (hs : O.sum = G.sum) (w : Nat → Int) (h0 : w 0 = 0) (hw : ∀ t, t < G.sum → 0 ≤ bend w t) : (O.map w).sum ≤ (G.map w).sum := by
  rw [worth_sum w h0 G.sum O (fun x m => by have := mem_sum_le m; omega), worth_sum w h0 G.sum G (fun x m => by have := mem_sum_le m; omega), hs]
  refine Int.add_le_add_left (sumR_le_lt _ fun t ht => ?_) _
  exact Int.mul_le_mul_of_nonneg_left (by have := d.over (t + 1); omega) (hw t ht)
theorem lensN_sum : ∀ l : List (List Int), (lensN l).sum = l.flatten.length
  | [] => rfl
  | x :: l => by
    show (x.length :: lensN l).sum = _
    rw [List.sum_cons, lensN_sum l, List.flatten_cons, List.length_append]
theorem perm_sumI : ∀ {s t : List Int}, s.Perm t → s.sum = t.sum := by
  intro s t h
  induction h with
  | nil => rfl
  | cons x _ ih => rw [List.sum_cons, List.sum_cons, ih]
  | swap x y l => rw [List.sum_cons, List.sum_cons, List.sum_cons, List.sum_cons]; omega
  | trans _ _ ih1 ih2 => exact ih1.trans ih2
theorem lens_map (f : Int → Int) (rs : List (List Int)) : ((rs.map fun r => (r.length : Int)).map f).sum = ((lensN rs).map fun n : Nat => f n).sum := by
  unfold lensN
  rw [List.map_map, List.map_map]
  rfl
/-- worths of the sizes of an arrangement, and of the rooms by age -/
theorem worth_le {rs os : List (List Int)} (d : Dom (lensN rs) (lensN os)) (hs : os.flatten.length = rs.flatten.length) (f : Int → Int) (h0 : f 0 = 0) (hw : ∀ t, t < rs.flatten.length → 0 ≤ bend (fun n : Nat => f n) t) :
    ((down (os.map fun r => (r.length : Int))).map f).sum ≤ ((rs.map fun r => (r.length : Int)).map f).sum := by
  rw [perm_sumI ((down_perm _).map f), lens_map, lens_map]
  exact d.worthTo (by rw [lensN_sum, lensN_sum, hs]) _ h0 fun t ht => hw t (by rw [← lensN_sum]; exact ht)
theorem cast_sum : ∀ l : List Nat, (l.map fun n : Nat => (n : Int)).sum = ((l.sum : Nat) : Int)
  | [] => rfl
  | x :: l => by
    rw [List.map_cons, List.sum_cons, List.sum_cons, cast_sum l]
    omega
theorem down_nat (os : List (List Int)) : ∃ On : List Nat, down (os.map fun r => (r.length : Int)) = On.map (fun n : Nat => (n : Int)) ∧ On.Perm (lensN os) := by
  refine ⟨(down (os.map fun r => (r.length : Int))).map Int.toNat, ?_, ?_⟩
  · rw [List.map_map]
    have h : ∀ x ∈ down (os.map fun r => (r.length : Int)), ((fun n : Nat => (n : Int)) ∘ Int.toNat) x = (fun x => x) x := fun x m => by
      obtain ⟨r, _, rfl⟩ := List.mem_map.mp ((down_perm _).mem_iff.mp m)
      rfl
    rw [List.map_congr_left h, List.map_id']
  · refine ((down_perm _).map Int.toNat).trans ?_
    rw [List.map_map]
    exact List.Perm.refl _
theorem first_le {rs os : List (List Int)} (d : Dom (lensN rs) (lensN os)) (j : Nat) : ((down (os.map fun r => (r.length : Int))).take j).sum ≤ ((rs.map fun r => (r.length : Int)).take j).sum := by
  obtain ⟨On, hO, hp⟩ := down_nat os
  have hG : (rs.map fun r => (r.length : Int)) = (lensN rs).map fun n : Nat => (n : Int) := by
    unfold lensN
    rw [List.map_map]
    rfl
  rw [hO, hG, ← List.map_take, ← List.map_take, cast_sum, cast_sum]
  have h1 := (d.perm hp) _ (List.take_sublist j On)
  have h2 := take_sum_le (G := lensN rs) (List.length_take_le j On)
  omega
/-- the sizes by age stand in order -/
theorem down_settle {gs : List (Int × Int)} (f : Fit gs) : down ((settle gs).map fun r => (r.length : Int)) = (settle gs).map fun r => (r.length : Int) := by
  refine (down_is (List.Perm.refl _) ?_).symm
  rw [List.pairwise_map]
  exact (settleL_falls (byAge gs) f.byAge.pos).imp fun h => by
    show (_ : Int) ≥ _
    omega
theorem bend_sq (t : Nat) (h : t < 6) : 0 ≤ bend (fun n : Nat => (n : Int) * n) t := by
  revert t
  decide
theorem bend_pairs (t : Nat) (h : t < 6) : 0 ≤ bend (fun n : Nat => (n : Int) * ((n : Int) - 1) / 2) t := by
  revert t
  decide
end El
namespace El
/-! ### guests placed in peace, one after another, the eldest first -/
structure Put (L : List (Int × Int)) (rs : List (List Int)) : Prop where
  dom : Dom (lensN (settleL L)) (lensN rs)
  all : rs.flatten.Perm (L.map (·.1))
  calm : ∀ r ∈ rs, Fine L r
theorem Fine.nil {L : List (Int × Int)} : Fine L [] := ⟨List.Pairwise.nil, fun i a e => by simp at e⟩
theorem Fine.snoc {L : List (Int × Int)} {r : List Int} {g : Int × Int} (h : Fine L r) (hle : ∀ x ∈ L, g.1 ≤ x.1) (hb : (r.length : Int) ≤ g.2) : Fine (L ++ [g]) (r ++ [g.1]) := by
  refine ⟨?_, fun j a e => ?_⟩
  · rw [List.pairwise_append]
    refine ⟨h.1, List.pairwise_singleton _ _, fun x hx y hy => ?_⟩
    rw [List.mem_singleton.mp hy]
    obtain ⟨z, hz, rfl⟩ := h.mem hx
    exact hle z hz
  · by_cases hj : j < r.length
    · rw [List.getElem?_append_left hj] at e
      obtain ⟨z, h1, h2⟩ := h.2 j a e
      exact ⟨z, List.mem_append_left _ h1, h2⟩
    · rw [List.getElem?_append_right (by omega)] at e
      have hj0 : j - r.length = 0 := by
        have := (List.getElem?_eq_some_iff.mp e).1
        rw [List.length_singleton] at this
        omega
      rw [hj0] at e
      obtain rfl : g.1 = a := Option.some.inj e
      exact ⟨g, List.mem_append_right _ (List.mem_singleton.mpr rfl), rfl, by omega⟩
theorem Put.nil (n : Nat) : Put [] (List.replicate n []) := by
  refine ⟨fun s hs => ?_, ?_, fun r m => ?_⟩
  · have hz : ∀ x ∈ s, x ≤ 0 := fun x m => by
      have := hs.subset m
      unfold lensN at this
      obtain ⟨r, mr, rfl⟩ := List.mem_map.mp this
      rw [(List.mem_replicate.mp mr).2]
      exact Nat.le_refl _
    have := sum_low hz
    omega
  · have : (List.replicate n ([] : List Int)).flatten = [] := by
      rw [List.flatten_eq_nil_iff]
      exact fun l m => (List.mem_replicate.mp m).2
    rw [this]
    exact .refl _
  · rw [(List.mem_replicate.mp m).2]
    exact .nil
theorem set_flat : ∀ {rs : List (List Int)} {i : Nat} {r : List Int} (a : Int), rs[i]? = some r → (rs.set i (r ++ [a])).flatten.Perm (a :: rs.flatten)
  | [], _, _, _, e => by simp at e
  | s :: rs, 0, r, a, e => by
    obtain rfl : s = r := Option.some.inj e
    show ((s ++ [a]) :: rs).flatten.Perm _
    rw [List.flatten_cons, List.flatten_cons, List.append_assoc]
    exact List.perm_middle
  | s :: rs, i + 1, r, a, e => by
    show (s :: rs.set i (r ++ [a])).flatten.Perm _
    rw [List.flatten_cons, List.flatten_cons]
    exact ((set_flat a (by simpa using e)).append_left s).trans List.perm_middle
theorem Put.set {L : List (Int × Int)} {rs : List (List Int)} {g : Int × Int} {k : Nat} {r : List Int} (h : Put L rs) (hle : ∀ x ∈ L, g.1 ≤ x.1) (hp : 0 ≤ g.2) (e : rs[k]? = some r) (hb : (r.length : Int) ≤ g.2) : Put (L ++ [g]) (rs.set k (r ++ [g.1])) := by
  refine ⟨?_, ?_, fun q m => ?_⟩
  · rw [settleL_snoc]
    exact dom_place hp h.dom (add1_set e (by omega))
  · rw [List.map_append]
    exact (set_flat g.1 e).trans ((List.Perm.cons g.1 h.all).trans (List.perm_append_singleton g.1 _).symm)
  · rcases List.mem_or_eq_of_mem_set m with m | rfl
    · exact (h.calm q m).more fun x hx => List.mem_append_left _ hx
    · exact (h.calm r (List.mem_of_getElem? e)).snoc hle hb
theorem Put.new {L : List (Int × Int)} {rs : List (List Int)} {g : Int × Int} (h : Put L rs) (hle : ∀ x ∈ L, g.1 ≤ x.1) (hp : 0 ≤ g.2) : Put (L ++ [g]) (rs ++ [[g.1]]) := by
  refine ⟨?_, ?_, fun q m => ?_⟩
  · rw [settleL_snoc]
    exact dom_place hp h.dom add1_new
  · rw [List.map_append, List.flatten_append]
    exact h.all.append (.refl _)
  · rcases List.mem_append.mp m with m | m
    · exact (h.calm q m).more fun x hx => List.mem_append_left _ hx
    · rw [List.mem_singleton.mp m]
      exact Fine.snoc (r := []) .nil hle hp
theorem fine_calm {gs : List (Int × Int)} (f : Fit gs) {r r' : List Int} (h : Fine gs r) (p : r'.Perm r) : eldUp gs r' = none := by
  obtain ⟨h1, h2⟩ := h
  unfold eldUp
  rw [← down_is p.symm h1]
  refine upIn_none fun i a e => ?_
  obtain ⟨g, hg, rfl, hl⟩ := h2 i a e
  rw [pof_is f.nd hg]
  exact hl
end El
namespace El
open PySem PySem.Spec PyProof.Rows L2
/-! ### a def of the text as callers see it -/
structure Df (P : Program) (w : World) (K : PySem.W.Frag) (mg : Str → Option Value) (base : Heap) (k : Nat) (x : Str) (ps : List Str) (st : Stmt) (sp : Sp) : Prop where
  ex : ∃ (f : Addr) (fd : FuncData), Fun K x x st f fd ∧ mg x = some (.ref f) ∧ FnOk P w K mg base CX0 k f fd ps sp ∧ Binds K fd ps []
/-- where a def stands -/
structure At (K : PySem.W.Frag) (mg : Str → Option Value) (x : Str) (ps : List Str) (st : Stmt) : Prop where
  ex : ∃ (f : Addr) (fd : FuncData), Fun K x x st f fd ∧ mg x = some (.ref f) ∧ Binds K fd ps []
theorem At.df {P : Program} {w : World} {K : PySem.W.Frag} {mg : Str → Option Value} {base : Heap} {k : Nat} {x : Str} {ps : List Str} {st : Stmt} {sp : Sp} (A : At K mg x ps st)
    (h : ∀ f fd, Fun K x x st f fd → FnOk P w K mg base CX0 k f fd ps sp) : Df P w K mg base k x ps st sp := by
  obtain ⟨f, fd, F, m, b⟩ := A.ex
  exact ⟨f, fd, F, m, h f fd F, b⟩
section
variable {X : Cx} {k : Nat} {x : Str} {ps : List Str} {st : Stmt} {sp : Sp} {p pos : Pos} {e : Expr} {es : List Expr} {kws : List Keyword} {t tk : TA}
theorem pe_df (D : Df X.prog X.w X.K X.mg X.base k x ps st sp) (hr : Room k X.A) (hg : Gl X x) (ha : PA X (e :: es) t) (hdb : (x == ("__debug__" : Str)) = false := by decide)
    (he : starEach (e :: es) X.env = (false, eval e X.env) :: starEach es X.env := by rfl) (hpl : (backTo pos (starEach es X.env)).any (·.1) = false := by rfl) : PE X (.Call (.Name x p) (e :: es) [] pos) (tCall sp [] E0 t) := by
  obtain ⟨f, fd, F, m, G, b⟩ := D.ex
  exact pe_call G hr hg m F.kp b .nil pass0 ha hdb he hpl
theorem pe_df0 (D : Df X.prog X.w X.K X.mg X.base k x ps st sp) (hr : Room k X.A) (hg : Gl X x) (hdb : (x == ("__debug__" : Str)) = false := by decide) : PE X (.Call (.Name x p) [] [] pos) (tCall sp [] E0 tNil) := by
  obtain ⟨f, fd, F, m, G, b⟩ := D.ex
  exact pe_call0 G hr hg m F.kp b .nil pass0 hdb
def tCallW (n : Nat) (sp : Sp) (g : List V → List V) (tk : TA) : TE := fun σ H Q => tk σ H fun zs H2 => zs.length = n ∧ sp (g zs) H2 Q E0
/-- f(k = v, ..): keywords alone -/
theorem pe_dfK (D : Df X.prog X.w X.K X.mg X.base k x ps st sp) (ks : List Str) (g : {α : Type} → List α → List α) (hr : Room k X.A) (hg : Gl X x) (hkw : PK X kws tk)
    (hb : ∀ (kV doc pm : Value) (an : Option Addr) (cdv ct : Value) (ws : List Value), ws.length = ks.length → bindArgs (PySem.W.fnOf x x (defArgs st) (defBody st) (defScope st) .none kV doc pm an cdv ct) ⟨[], ks.zip ws⟩ = pure (ps.zip (g ws)))
    (hrel : ∀ {zs : List V} {ws : List Value}, Vals zs ws → Vals (g zs) (g ws))
    (hall : (backToKw pos (keywordEach kws X.env)).all (·.1.isSome) = true := by rfl) (hks : (backToKw pos (keywordEach kws X.env)).filterMap (·.1) = ks := by rfl) (hdb : (x == ("__debug__" : Str)) = false := by decide)
    (hpl : ((backTo pos (starEach [] X.env)).any (·.1) || (backToKw pos (keywordEach kws X.env)).any (·.1.isNone)) = false := by rfl) :
    PE X (.Call (.Name x p) [] kws pos) (tCallW ks.length sp (fun zs => g zs) tk) := by
  obtain ⟨f, fd, F, m, G, b⟩ := D.ex
  have kp := F.kp
  have KB : KBn X.K fd ps 0 ks (fun us ws => us ++ g ws) (fun vs zs => vs ++ g zs) := by
    obtain ⟨oc, od, kV, doc, pm, an, cdv, ct, osl, rfl, lk, hcd⟩ := F.ex
    refine ⟨fun s us ws hK l1 l2 => ?_, fun {vs us zs ws} r rz => Vals.append r (hrel rz)⟩
    obtain rfl := List.eq_nil_of_length_eq_zero l1
    exact .of_eq (hb kV doc pm an cdv ct ws l2)
  refine ⟨fun pins s σ H Q I h => ?_⟩
  refine wpAny_Call_Name_kw (ld_glob I hg m ?_ hdb)
  refine PySem.W.callWith_KW0 (h₀ := X.base) I.ok.mod.kin kp hall ?_ hpl
  refine thn (hkw.run pos pins s σ H _ I h) fun ws s2 ⟨zs, H2, I2, rz, l2, q2⟩ => ⟨I2.kIn, ?_⟩
  rw [hks]
  exact run_fnN (us := []) (vs := []) G hr KB pass0 I2 .nil rz rfl l2 q2
end
theorem Df.at {P : Program} {w : World} {K : PySem.W.Frag} {mg : Str → Option Value} {base : Heap} {k : Nat} {x : Str} {ps : List Str} {st : Stmt} {sp : Sp} {fa : Addr} {fd : FuncData} {oc : Value} {od : Option Addr} {sl : Array (Option Value)}
    (D : Df P w K mg base k x ps st sp) (hf : mg x = some (.ref fa)) (l : K.lookup fa = some ⟨oc, od, .func fd, sl⟩) : FnOk P w K mg base CX0 k fa fd ps sp := by
  obtain ⟨f, fd', F, m, G, b⟩ := D.ex
  obtain rfl : fa = f := by
    have e := hf.symm.trans m
    injection e with e
    injection e
  obtain ⟨oc', od', kV, doc, pm, an, cdv, ct, osl, e1, lk, hcd⟩ := F.ex
  have e := l.symm.trans lk
  injection e with e
  injection e with _ _ e _
  injection e with e
  rw [e]
  exact G
theorem At.mk' {K : PySem.W.Frag} {mg : Str → Option Value} {h : Heap} {x : Str} {ps : List Str} {st : Stmt} {f : Addr} {oc : Value} {od an : Option Addr} {osl : Array (Option Value)} {kV doc pm cdv ct : Value} (X : K.In h) (G : h.Ns mainGlobals mg)
    (a : PySem.W.nsIn K mainGlobals x = some (some (.ref f))) (l : K.lookup f = some ⟨oc, od, .func (PySem.W.fnOf x x (defArgs st) (defBody st) (defScope st) .none kV doc pm an cdv ct), osl⟩)
    (c : PySem.W.codeIn K cdv x = true) (k : PySem.W.keepIn K (.ref f) = true)
    (b : ∀ (kV doc pm : Value) (an : Option Addr) (cdv ct : Value) (us : List Value), us.length = ps.length → bindArgs (PySem.W.fnOf x x (defArgs st) (defBody st) (defScope st) .none kV doc pm an cdv ct) ⟨us, []⟩ = pure (ps.zip us)) : At K mg x ps st :=
  have F := fun_mk (st := st) l c k
  ⟨f, _, F, PySem.W.mg_of X G a, F.binds b⟩
end El
namespace El
open PySem PySem.Spec PyProof.Rows L2
section
variable {X : Cx}
/-! sorted(..., reverse=b) of anything whose walk is known -/
/-- partners: each pair is something of ours and the value that stands for it -/
abbrev Partners (P : List (V × Value)) : Prop := ∀ p ∈ P, RelV p.1 p.2
theorem partners_of : ∀ {xs : List V} {us : List Value}, Vals xs us → ∃ P, Partners P ∧ P.map Prod.fst = xs ∧ P.map Prod.snd = us
  | _, _, .nil => ⟨[], fun _ m => (List.not_mem_nil m).elim, rfl, rfl⟩
  | _, _, .cons h t =>
    let ⟨P, hP, e1, e2⟩ := partners_of t
    ⟨(_, _) :: P, fun p m => (List.mem_cons.mp m).elim (fun e => e ▸ h) (hP p), congrArg _ e1, congrArg _ e2⟩
theorem Partners.vals : ∀ {P : List (V × Value)}, Partners P → Vals (P.map Prod.fst) (P.map Prod.snd)
  | [], _ => .nil
  | _ :: _, h => .cons (h _ (.head _)) (Partners.vals fun p m => h p (.tail _ m))
/-- the values in another order: the partners go along -/
theorem go_along {α β : Type} {f : α → β} {ys : List β} : ∀ {P : List α}, ys.Perm (P.map f) → ∃ P' : List α, P'.Perm P ∧ P'.map f = ys := by
  suffices key : ∀ {as bs : List β}, as.Perm bs → ∀ P : List α, P.map f = as → ∃ P' : List α, P'.Perm P ∧ P'.map f = bs from
    fun {P} h => key h.symm P rfl
  intro as bs h
  induction h with
  | nil => exact fun P e => ⟨P, .refl _, e⟩
  | cons x _ ih =>
    intro P e
    match P, e with
    | q :: P, e =>
      obtain ⟨P', hp, e'⟩ := ih P (List.cons.inj e).2
      exact ⟨q :: P', hp.cons q, by rw [List.map_cons, e', (List.cons.inj e).1]⟩
  | swap x y l =>
    intro P e
    match P, e with
    | q :: r :: P, e => exact ⟨r :: q :: P, .swap .., by
        have e1 := List.cons.inj e
        have e2 := List.cons.inj e1.2
        rw [List.map_cons, List.map_cons, e1.1, e2.1, e2.2]⟩
  | trans _ _ ih1 ih2 =>
    intro P e
    obtain ⟨P1, h1, e1⟩ := ih1 P e
    obtain ⟨P2, h2, e2⟩ := ih2 P1 e1
    exact ⟨P2, h2.trans h1, e2⟩
/-- forwards or backwards -/
abbrev turn {α : Type} (b : Bool) (l : List α) : List α := if b = true then l.reverse else l
theorem turn_map {α β : Type} (f : α → β) (l : List α) : ∀ b, (turn b l).map f = turn b (l.map f)
  | true => List.map_reverse ..
  | false => rfl
theorem turn_perm {α : Type} (l : List α) : ∀ b, (turn b l).Perm l
  | true => l.reverse_perm
  | false => .refl _
theorem turn_arr {α : Type} (l : List α) : ∀ b : Bool, (if b = true then l.toArray.reverse else l.toArray) = (turn b l).toArray
  | true => List.reverse_toArray ..
  | false => rfl
/-- the walk over v gathers what stands for xs, and nothing that lay there is touched -/
def Gathers (X : Cx) (s : Shared) (v : Value) (xs : List V) : Prop :=
  ∀ R : List Value → Shared → Prop, (∀ us h t, Vals xs us → (∀ b o, s.heap.get? b = some o → h.get? b = some o) → R us { s with heap := h, toks := t }) → wpAny (model X.prog X.w) X.A.in1 (collect v) R X.xe s
theorem sorted_gathered {pins : List (Addr × Obj)} {σ : L2.St} {H : Hp} {s : Shared} {Q : VK} {b : Bool} {v : Value} {xs : List V} {less : Value → Value → Bool}
    (I : Inv X pins σ H s) (few : xs.length ≤ sizeLine) (walk : Gathers X s v xs) (O : SrtO.Swo less)
    (able : ∀ (us : List Value) (s' : Shared) (l : Addr), 2 ≤ us.length → Vals xs us → Inv X pins σ (upd H l (.lst xs)) s' → H l = none → SrtO.SortableO X.prog X.w X.A.in1.in1 s' l us less)
    (q : ∀ (P : List (V × Value)) (l : Addr), Partners P → (P.map Prod.fst).Perm xs → SrtO.Srtd less (P.map Prod.snd) → H l = none → Q (.ref l) (upd H l (.lst (turn b (P.map Prod.fst))))) :
    wpAny (model X.prog X.w) X.A (call (.builtin "sorted") [v] [(Str.ofString "reverse", .bool b)]) (EP X pins σ Q) X.xe s := by
  refine call_function_entry_kw kind_sorted plain_sorted entry_sorted (args_sorted_rev v (.bool b)) ?_
  refine wpAny_bind (m := checkCount "sorted" 1 1 _) (wpAny_pure ?_)
  refine wpAny_bind (walk _ fun us h t for_xs grown => ?_)
  have n2 : us.length ≤ sizeLine := for_xs.length ▸ few
  refine wpAny_bind (wpAny_newList (wpAny_bind (wpAny_holding ?_)) n2)
  -- the new list lies there, and is ours
  generalize hl : ({ s with heap := h, toks := t } : Shared).heap.objs.size = l
  have hl' : h.objs.size = l := hl
  have at_l : (h.push (seqObj "list" us.toArray 0)).get? l = some (seqObj "list" us.toArray 0) := hl' ▸ Heap.get?_push_size _ rfl
  have free : H l = none := hl' ▸ (I.kept (t' := t) grown).hok.fresh (Nat.le_refl _)
  have J : Inv X pins σ (upd H l (.lst xs)) { s with heap := h.push (seqObj "list" us.toArray 0), toks := t } :=
    (I.kept (t' := t) grown).laid (t' := t) (fun _ _ => Heap.get?_push_of_some _) (Nat.le_of_eq hl) ⟨few, _, 0, for_xs, at_l⟩
  -- it is sorted where it lies
  refine PyProof.Rows.wpAny_call_entry_kw slot_list_sort ⟨_, at_l, rfl⟩ entry_list_sort ?_ (args_list_sort_rev _ (.bool b))
  refine SrtR.list_sort_ordR O at_l n2 (fun two => able us _ l two for_xs J free) fun out up same => ⟨_, rfl, wpAny_pure ⟨_, rfl, ?_⟩⟩
  obtain ⟨P0, hP0, rfl, rfl⟩ := partners_of for_xs
  obtain ⟨P, p1, rfl⟩ := go_along (same.perm.trans (turn_perm (P0.map Prod.snd) b))
  rw [turn_arr]
  obtain ⟨e, he⟩ := sortedHeap_at (out := (turn b (P.map Prod.snd)).toArray) at_l
  have hP : Partners P := fun p m => hP0 p (p1.mem_iff.mp m)
  have ends : Partners (turn b P) := fun p m => hP p ((turn_perm P b).mem_iff.mp m)
  have done := J.write (o := .lst (turn b (P.map Prod.fst))) (t' := t) (h' := sortedHeap (h.push (seqObj "list" (P0.map Prod.snd).toArray 0)) l (P0.map Prod.snd) (turn b (P.map Prod.snd)).toArray)
    (by rw [upd_same]; trivial) (.inl rfl) (fun c u away there => (sortedHeap_old away (Heap.lt_size there)).trans there) ⟨_, he⟩
    ⟨by rw [((turn_perm _ b).trans (p1.map _)).length_eq]; exact few, _, e, by rw [← turn_map, ← turn_map]; exact ends.vals, he⟩
  rw [upd_upd] at done
  exact ⟨.ref l, _, done, rfl, q P l hP (p1.map _) up free⟩
/-- the walk over a dict: its keys -/
theorem gathers_dict {pins : List (Addr × Obj)} {σ : L2.St} {H : Hp} {s : Shared} {a : Addr} {kvs : List (L2.Key × V)} (calm : X.calm = true) (I : Inv X pins σ H s) (d : Rd H a (.dK kvs)) :
    kvs.length ≤ sizeLine ∧ Gathers X s (.ref a) (kvs.map fun e => kV e.1) := by
  have ⟨few, own, es, same, lies⟩ := dk_rd I.hok d
  have ⟨ep, lies⟩ := lies.dictAt
  have keys : (kvs.map fun e => kV e.1) = es.map fun e => kV e.1 := by
    have h := congrArg (List.map kV) same.keys
    rw [List.map_map, List.map_map] at h
    exact h
  refine ⟨few, fun R go => ?_⟩
  rw [keys] at go
  exact PySem.W.kdu_collect (PySem.W.kdl_dict (knd := mixKind X.prog X.w) own) (I.ok.hd calm) lies (same.length ▸ few)
    fun h t got grown is => go _ h t (keys_at (by simpa using is.1) fun j v at_j => is.2 j v (by simpa using at_j)) grown
theorem ints_back {us : List Value} {ns : List Int} (h : IntsAre us ns) : us.map SrtO.iv = ns := by
  induction h with
  | nil => rfl
  | cons n t _ ih => exact congrArg (n :: ·) ih
/-- sorted(d, reverse=b) of a dict whose keys are ints -/
def rSortedRevD (b : Bool) : List V → List V → Hp → VK → Prop := fun vs zs H Q => ∃ (a : Addr) (kvs : List (L2.Key × V)) (ks : List Int), vs = [V.ref a] ∧ zs = [.bl b] ∧ Rd H a (.dK kvs) ∧ kvs.map (·.1) = ks.map Sum.inl ∧
  ∀ (ns' : List Int) (p : Addr), ns'.Perm ks → OrdB b ns' → H p = none → Q (.ref p) (upd H p (.lst (ns'.map V.int)))
theorem cr_sortedRevD {b : Bool} (calm : X.calm = true) : CallRK X (.builtin "sorted") [Str.ofString "reverse"] (rSortedRevD b) := by
  rintro pins s σ H _ _ us ws Q I one by_kw ⟨a, kvs, ks, rfl, rfl, d, hks, q⟩
  obtain ⟨v, w, rfl, rfl, rfl, rfl⟩ : ∃ v w, us = [v] ∧ ws = [w] ∧ v = .ref a ∧ w = .bool b := by
    cases one with | cons e1 t1 => cases t1; cases by_kw with | cons e2 t2 => cases t2; exact ⟨_, _, rfl, rfl, e1, e2⟩
  have keys : (kvs.map fun e => kV e.1) = ks.map V.int := by
    have h := congrArg (List.map kV) hks
    rw [List.map_map, List.map_map] at h
    exact h
  have ⟨few, walk⟩ := gathers_dict calm I d
  rw [keys] at walk
  refine sorted_gathered I (by rw [← keys, List.length_map]; exact few) walk SrtO.swo_int (fun us _ _ two r _ _ => SrtO.ints_sortable r.ints two) fun P l hP perm up free => ?_
  obtain ⟨ns, np, en⟩ := go_along perm
  have back := ints_back (Vals.ints (en ▸ hP.vals))
  rw [← en, ← turn_map]
  refine q _ l ((turn_perm ns b).trans np) ?_ free
  have rise : ns.Pairwise (· ≤ ·) := by
    rw [← back, List.pairwise_map]
    exact up.imp fun h => Int.not_lt.mp (of_decide_eq_false h)
  cases b with
  | false => exact rise
  | true => exact List.pairwise_reverse.mpr rise
end
end El
namespace El
open PySem PySem.Spec PyProof.Rows L2
/-! ### heaps -/
/-- what B names stays as it was -/
def Kp (B : Addr → Prop) (H H' : Hp) : Prop := ∀ b o, B b → H b = some o → H' b = some o
theorem Kp.refl {B : Addr → Prop} {H : Hp} : Kp B H H := fun _ _ _ e => e
theorem Kp.trans {B : Addr → Prop} {H H1 H2 : Hp} (h : Kp B H H1) (k : Kp B H1 H2) : Kp B H H2 := fun b o hb e => k b o hb (h b o hb e)
theorem Kp.of {B : Addr → Prop} {H H' : Hp} (h : Same H H') : Kp B H H' := fun b o _ e => h b o e
theorem Kp.same {H H' : Hp} (h : Kp (fun _ => True) H H') : Same H H' := fun b o e => h b o trivial e
theorem same_new {H : Hp} {p : Addr} {o : HO} (h : H p = none) : Same H (upd H p o) := fun b u e => by
  rw [upd_ne (ne_of_none e h)]
  exact e
theorem Same.mut {H H' : Hp} {p : Addr} {o : HO} (e : Same H H') (h : H p = none) : Same H (upd H' p o) := fun b u q => by
  rw [upd_ne (ne_of_none q h)]
  exact e b u q
theorem Kp.mut {B : Addr → Prop} {H H' : Hp} {p : Addr} {o : HO} (e : Kp B H H') (h : ¬ B p) : Kp B H (upd H' p o) := fun b u hb q => by
  have n : b ≠ p := fun z => h (z ▸ hb)
  rw [upd_ne n]
  exact e b u hb q
theorem Kp.new {B : Addr → Prop} {H H' : Hp} {p : Addr} {o : HO} (e : Kp B H H') (h : H' p = none) : Kp B H (upd H' p o) := e.trans (Kp.of (same_new h))
theorem Kp.mutF {B : Addr → Prop} {H H' : Hp} {p : Addr} {o : HO} (e : Kp B H H') (h : H p = none) : Kp B H (upd H' p o) := fun b u hb q => by
  rw [upd_ne (ne_of_none q h)]
  exact e b u hb q
theorem Kp.none {B : Addr → Prop} {H H' : Hp} (e : Kp B H H') {p : Addr} (hb : B p) (h : H' p = none) : H p = none := by
  cases z : H p with
  | none => rfl
  | some x =>
    have := e _ _ hb z
    rw [h] at this
    cases this
theorem no_of {H : Hp} {a p : Addr} {o : HO} (h : H a = some o) (hp : H p = none) : p ≠ a := fun z => by
  rw [z, h] at hp
  cases hp
theorem same_none {H H' : Hp} (e : Same H H') {p : Addr} (h : H' p = none) : H p = none := e.free h
theorem ils {n : Nat} (h : n ≤ 100000) : n < sizeLine := Nat.lt_of_le_of_lt h (by decide)
theorem ile {n : Nat} (h : n ≤ 100000) : n ≤ sizeLine := Nat.le_of_lt (ils h)
theorem ints_at {ns : List Int} {i : Nat} {x : V} (h : (ns.map V.int)[i]? = some x) : ∃ n, ns[i]? = some n ∧ x = .int n := by
  rw [List.getElem?_map] at h
  cases e : ns[i]? with
  | none => rw [e] at h; cases h
  | some n => rw [e] at h; exact ⟨n, rfl, (Option.some.inj h).symm⟩
theorem refs_at {ts : List Addr} {i : Nat} {x : V} (h : (ts.map V.ref)[i]? = some x) : ∃ t, ts[i]? = some t ∧ x = .ref t := by
  rw [List.getElem?_map] at h
  cases e : ts[i]? with
  | none => rw [e] at h; cases h
  | some t => rw [e] at h; exact ⟨t, rfl, (Option.some.inj h).symm⟩
theorem at_lt {α : Type} {l : List α} {i : Nat} {x : α} (h : l[i]? = some x) : i < l.length := (List.getElem?_eq_some_iff.mp h).1
theorem at_some {α : Type} {l : List α} {i : Nat} (h : i < l.length) : ∃ x, l[i]? = some x := ⟨l[i], List.getElem?_eq_getElem h⟩
theorem take_snoc {α : Type} {l : List α} {i : Nat} {x : α} (h : l[i]? = some x) : l.take (i + 1) = l.take i ++ [x] := by
  rw [List.take_add_one, h]
  rfl
theorem take_full {α : Type} (l : List α) : l.take l.length = l := List.take_length
/-! ### a list of pairs of ints -/
structure GsAt (H : Hp) (B : Addr → Prop) (a : Addr) (ts : List Addr) (gs : List (Int × Int)) : Prop where
  top : H a = some (.lst (ts.map V.ref))
  ba : B a
  len : ts.length = gs.length
  at' : ∀ (i : Nat) (t : Addr) (g : Int × Int), ts[i]? = some t → gs[i]? = some g → H t = some (.tup [.int g.1, .int g.2])
  b : ∀ t ∈ ts, B t
theorem GsAt.keep {H H' : Hp} {B : Addr → Prop} {a : Addr} {ts : List Addr} {gs : List (Int × Int)} (h : GsAt H B a ts gs) (k : Kp B H H') : GsAt H' B a ts gs :=
  ⟨k _ _ h.ba h.top, h.ba, h.len, fun i t g e f => k _ _ (h.b t (List.mem_of_getElem? e)) (h.at' i t g e f), h.b⟩
theorem GsAt.same {H H' : Hp} {B : Addr → Prop} {a : Addr} {ts : List Addr} {gs : List (Int × Int)} (h : GsAt H B a ts gs) (k : Same H H') : GsAt H' B a ts gs := h.keep (.of k)
theorem GsAt.weaken {H : Hp} {B B' : Addr → Prop} {a : Addr} {ts : List Addr} {gs : List (Int × Int)} (h : GsAt H B a ts gs) (k : ∀ b, B b → B' b) : GsAt H B' a ts gs :=
  ⟨h.top, k _ h.ba, h.len, h.at', fun t m => k _ (h.b t m)⟩
theorem GsAt.seq {K : PySem.W.Frag} {H : Hp} {B : Addr → Prop} {a : Addr} {ts : List Addr} {gs : List (Int × Int)} (h : GsAt H B a ts gs) : SqL K H a (ts.map V.ref) := SqL.of h.top
theorem GsAt.get {H : Hp} {B : Addr → Prop} {a : Addr} {ts : List Addr} {gs : List (Int × Int)} (h : GsAt H B a ts gs) {i : Nat} {x : V} (e : (ts.map V.ref)[i]? = some x) : ∃ t g, x = .ref t ∧ gs[i]? = some g ∧ H t = some (.tup [.int g.1, .int g.2]) := by
  obtain ⟨t, e1, rfl⟩ := refs_at e
  have hi := at_lt e1
  rw [h.len] at hi
  obtain ⟨g, e2⟩ := at_some hi
  exact ⟨t, g, rfl, e2, h.at' i t g e1 e2⟩
/-- pushed -/
theorem GsAt.push {H : Hp} {B : Addr → Prop} {a : Addr} {ts : List Addr} {gs : List (Int × Int)} (h : GsAt H B a ts gs) (hn : a ∉ ts) {q : Addr} {g : Int × Int} (e : H q = some (.tup [.int g.1, .int g.2])) (bq : B q) :
    GsAt (upd H a (.lst (ts.map V.ref ++ [.ref q]))) B a (ts ++ [q]) (gs ++ [g]) := by
  refine ⟨?_, h.ba, ?_, fun i t x e1 e2 => ?_, fun t m => ?_⟩
  · rw [upd_same, List.map_append]
    rfl
  · rw [List.length_append, List.length_append, h.len]
    rfl
  · have nq : q ≠ a := fun z => by
      rw [z, h.top] at e
      cases e
    by_cases hi : i < ts.length
    · rw [List.getElem?_append_left hi] at e1
      rw [List.getElem?_append_left (by rw [← h.len]; exact hi)] at e2
      have nt : t ≠ a := fun z => hn (z ▸ List.mem_of_getElem? e1)
      rw [upd_ne nt]
      exact h.at' i t x e1 e2
    · have hi' : i = ts.length := by
        have := at_lt e1
        rw [List.length_append, List.length_singleton] at this
        omega
      subst hi'
      rw [List.getElem?_append_right (Nat.le_refl _), Nat.sub_self] at e1
      rw [h.len, List.getElem?_append_right (Nat.le_refl _), Nat.sub_self] at e2
      have e1' : q = t := Option.some.inj e1
      have e2' : g = x := Option.some.inj e2
      subst e1' e2'
      rw [upd_ne nq]
      exact e
  · rcases List.mem_append.mp m with m | m
    · exact h.b t m
    · rw [List.mem_singleton.mp m]
      exact bq
theorem GsAt.there {H : Hp} {B : Addr → Prop} {a : Addr} {ts : List Addr} {gs : List (Int × Int)} (h : GsAt H B a ts gs) : ∀ b, (b = a ∨ b ∈ ts) → ∃ x, H b = some x := fun b m => by
  rcases m with rfl | m
  · exact ⟨_, h.top⟩
  · obtain ⟨i, e⟩ := List.mem_iff_getElem?.mp m
    have hl := at_lt e
    rw [h.len] at hl
    obtain ⟨g, eg⟩ := at_some hl
    exact ⟨_, h.at' i b g e eg⟩
theorem GsAt.reB {H : Hp} {B B' : Addr → Prop} {a : Addr} {ts : List Addr} {gs : List (Int × Int)} (h : GsAt H B a ts gs) (k : ∀ b, (b = a ∨ b ∈ ts) → B b → B' b) : GsAt H B' a ts gs :=
  ⟨h.top, k _ (.inl rfl) h.ba, h.len, h.at', fun t m => k _ (.inr m) (h.b t m)⟩
/-- what stands in H and is named by B -/
def Liv (H : Hp) (B : Addr → Prop) (b : Addr) : Prop := (∃ x, H b = some x) ∧ B b
theorem GsAt.liv {H : Hp} {B : Addr → Prop} {a : Addr} {ts : List Addr} {gs : List (Int × Int)} (h : GsAt H B a ts gs) : GsAt H (Liv H B) a ts gs := h.reB fun b m hb => ⟨h.there b m, hb⟩
theorem Liv.no {H : Hp} {B : Addr → Prop} {p : Addr} (h : H p = none) : ¬ Liv H B p := fun ⟨⟨x, e⟩, _⟩ => by
  rw [h] at e
  cases e
theorem Liv.of {H : Hp} {B : Addr → Prop} {p : Addr} {o : HO} (h : H p = some o) (b : B p) : Liv H B p := ⟨⟨o, h⟩, b⟩
theorem Kp.weak {B B' : Addr → Prop} {H H' : Hp} (k : Kp B H H') (h : ∀ b, B' b → B b) : Kp B' H H' := fun b o hb e => k b o (h b hb) e
theorem Kp.liv {B : Addr → Prop} {H0 H H' : Hp} (k : Kp B H H') : Kp (Liv H0 B) H H' := k.weak fun _ h => h.2
/-! ### a list of lists of ints, each its own -/
structure RmsAt (H : Hp) (B : Addr → Prop) (o : Addr) (ts : List Addr) (rs : List (List Int)) : Prop where
  top : H o = some (.lst (ts.map V.ref))
  bo : B o
  nd : ts.Nodup
  no : o ∉ ts
  len : ts.length = rs.length
  at' : ∀ (i : Nat) (t : Addr) (r : List Int), ts[i]? = some t → rs[i]? = some r → H t = some (.lst (r.map V.int))
  b : ∀ t ∈ ts, B t
theorem RmsAt.keep {H H' : Hp} {B : Addr → Prop} {a : Addr} {ts : List Addr} {rs : List (List Int)} (h : RmsAt H B a ts rs) (k : Kp B H H') : RmsAt H' B a ts rs :=
  ⟨k _ _ h.bo h.top, h.bo, h.nd, h.no, h.len, fun i t g e f => k _ _ (h.b t (List.mem_of_getElem? e)) (h.at' i t g e f), h.b⟩
theorem RmsAt.same {H H' : Hp} {B : Addr → Prop} {a : Addr} {ts : List Addr} {rs : List (List Int)} (h : RmsAt H B a ts rs) (k : Same H H') : RmsAt H' B a ts rs := h.keep (.of k)
theorem RmsAt.weaken {H : Hp} {B B' : Addr → Prop} {a : Addr} {ts : List Addr} {rs : List (List Int)} (h : RmsAt H B a ts rs) (k : ∀ b, B b → B' b) : RmsAt H B' a ts rs :=
  ⟨h.top, k _ h.bo, h.nd, h.no, h.len, h.at', fun t m => k _ (h.b t m)⟩
theorem RmsAt.seq {K : PySem.W.Frag} {H : Hp} {B : Addr → Prop} {a : Addr} {ts : List Addr} {rs : List (List Int)} (h : RmsAt H B a ts rs) : SqL K H a (ts.map V.ref) := SqL.of h.top
theorem RmsAt.get {H : Hp} {B : Addr → Prop} {a : Addr} {ts : List Addr} {rs : List (List Int)} (h : RmsAt H B a ts rs) {i : Nat} {x : V} (e : (ts.map V.ref)[i]? = some x) : ∃ t r, x = .ref t ∧ ts[i]? = some t ∧ rs[i]? = some r ∧ H t = some (.lst (r.map V.int)) := by
  obtain ⟨t, e1, rfl⟩ := refs_at e
  have hi := at_lt e1
  rw [h.len] at hi
  obtain ⟨g, e2⟩ := at_some hi
  exact ⟨t, g, rfl, e1, e2, h.at' i t g e1 e2⟩
theorem RmsAt.of {H : Hp} {B : Addr → Prop} {a : Addr} {ts : List Addr} {rs : List (List Int)} (h : RmsAt H B a ts rs) {i : Nat} {r : List Int} (e : rs[i]? = some r) : ∃ t, ts[i]? = some t ∧ H t = some (.lst (r.map V.int)) := by
  have hi := at_lt e
  rw [← h.len] at hi
  obtain ⟨t, e2⟩ := at_some hi
  exact ⟨t, e2, h.at' i t r e2 e⟩
theorem RmsAt.nil {H : Hp} {B : Addr → Prop} {o : Addr} (h : H o = some (.lst [])) (bo : B o) : RmsAt H B o [] [] :=
  ⟨h, bo, List.nodup_nil, by simp, rfl, fun i t r e _ => by simp at e, fun t m => by simp at m⟩
/-- a new empty list behind -/
theorem RmsAt.push {H : Hp} {B : Addr → Prop} {o : Addr} {ts : List Addr} {rs : List (List Int)} (h : RmsAt H B o ts rs) {q : Addr} {r : List Int} (hq : H q = none) (bq : B q) :
    RmsAt (upd (upd H q (.lst (r.map V.int))) o (.lst (ts.map V.ref ++ [.ref q]))) B o (ts ++ [q]) (rs ++ [r]) := by
  have nq : q ≠ o := no_of h.top hq
  have nqt : ∀ t ∈ ts, q ≠ t := fun t m => by
    obtain ⟨i, hi⟩ := List.mem_iff_getElem?.mp m
    have hl := at_lt hi
    rw [h.len] at hl
    obtain ⟨r', er⟩ := at_some hl
    exact no_of (h.at' i t r' hi er) hq
  refine ⟨?_, h.bo, ?_, ?_, ?_, fun i t x e1 e2 => ?_, fun t m => ?_⟩
  · rw [upd_same, List.map_append]
    rfl
  · rw [List.nodup_append]
    exact ⟨h.nd, by simp, fun a ha b hb => by
      rw [List.mem_singleton.mp hb]
      exact (nqt a ha).symm⟩
  · intro m
    rcases List.mem_append.mp m with m | m
    · exact h.no m
    · exact nq (List.mem_singleton.mp m).symm
  · rw [List.length_append, List.length_append, h.len]
    rfl
  · by_cases hi : i < ts.length
    · rw [List.getElem?_append_left hi] at e1
      rw [List.getElem?_append_left (by rw [← h.len]; exact hi)] at e2
      have nt : t ≠ o := fun z => h.no (z ▸ List.mem_of_getElem? e1)
      rw [upd_ne nt, upd_ne (nqt t (List.mem_of_getElem? e1)).symm]
      exact h.at' i t x e1 e2
    · have hi' : i = ts.length := by
        have := at_lt e1
        rw [List.length_append, List.length_singleton] at this
        omega
      subst hi'
      rw [List.getElem?_append_right (Nat.le_refl _), Nat.sub_self] at e1
      rw [h.len, List.getElem?_append_right (Nat.le_refl _), Nat.sub_self] at e2
      have e1' : q = t := Option.some.inj e1
      have e2' : r = x := Option.some.inj e2
      subst e1' e2'
      rw [upd_ne nq, upd_same]
  · rcases List.mem_append.mp m with m | m
    · exact h.b t m
    · rw [List.mem_singleton.mp m]
      exact bq
/-- one of them changed -/
theorem RmsAt.set {H : Hp} {B : Addr → Prop} {o : Addr} {ts : List Addr} {rs : List (List Int)} (h : RmsAt H B o ts rs) {i : Nat} {t : Addr} (e : ts[i]? = some t) (r : List Int) :
    RmsAt (upd H t (.lst (r.map V.int))) B o ts (rs.set i r) := by
  have nt : t ≠ o := fun z => h.no (z ▸ List.mem_of_getElem? e)
  refine ⟨?_, h.bo, h.nd, h.no, ?_, fun j u x e1 e2 => ?_, h.b⟩
  · rw [upd_ne nt.symm]
    exact h.top
  · rw [List.length_set]
    exact h.len
  · by_cases hj : j = i
    · subst hj
      have e' : u = t := Option.some.inj (e1.symm.trans e)
      subst e'
      rw [upd_same]
      have hl := at_lt e1
      rw [h.len] at hl
      rw [List.getElem?_set_self hl] at e2
      have : r = x := Option.some.inj e2
      rw [this]
    · rw [List.getElem?_set_ne (fun z => hj z.symm)] at e2
      have hut : u ≠ t := fun z => by
        subst z
        exact hj (nd_ix h.nd e1 e)
      rw [upd_ne hut]
      exact h.at' j u x e1 e2
theorem RmsAt.newTop {H H' : Hp} {B B' : Addr → Prop} {o : Addr} {ts : List Addr} {rs : List (List Int)} (h : RmsAt H B o ts rs) (k : ∀ b u, (b = o ∨ b ∈ ts) → H b = some u → H' b = some u) (kb : ∀ b, (b = o ∨ b ∈ ts) → B' b) : RmsAt H' B' o ts rs :=
  ⟨k _ _ (.inl rfl) h.top, kb _ (.inl rfl), h.nd, h.no, h.len, fun i t r e f => k _ _ (.inr (List.mem_of_getElem? e)) (h.at' i t r e f), fun t m => kb t (.inr m)⟩
/-! ### the dict of patience -/
def pks (gs : List (Int × Int)) : List (L2.Key × V) := gs.map fun g => (Sum.inl g.1, V.int g.2)
theorem pks_len (gs : List (Int × Int)) : (pks gs).length = gs.length := List.length_map _
theorem pks_keys (gs : List (Int × Int)) : (pks gs).map (·.1) = (gs.map (·.1)).map Sum.inl := by
  unfold pks
  rw [List.map_map, List.map_map]
  rfl
theorem pks_snoc (gs : List (Int × Int)) (g : Int × Int) : pks (gs ++ [g]) = pks gs ++ [(Sum.inl g.1, V.int g.2)] := List.map_append
theorem pks_none {gs : List (Int × Int)} {a : Int} (h : a ∉ gs.map (·.1)) : valV (pks gs) (Sum.inl a) = none := by
  induction gs with
  | nil => rfl
  | cons g gs ih =>
    have h' : ¬ (a = g.1 ∨ a ∈ gs.map (·.1)) := fun z => h (by rw [List.map_cons]; exact List.mem_cons.mpr z)
    have n : ¬ (Sum.inl g.1 : L2.Key) = Sum.inl a := fun z => h' (.inl (Sum.inl.inj z).symm)
    show valV ((Sum.inl g.1, V.int g.2) :: pks gs) (Sum.inl a) = none
    rw [valV_neg n]
    exact ih fun z => h' (.inr z)
theorem pks_some : ∀ {gs : List (Int × Int)} {g : Int × Int}, (gs.map (·.1)).Nodup → g ∈ gs → valV (pks gs) (Sum.inl g.1) = some (.int g.2)
  | x :: gs, g, nd, h => by
    have nd' : (x.1 :: gs.map (·.1)).Nodup := nd
    obtain ⟨n1, n2⟩ := List.nodup_cons.mp nd'
    show valV ((Sum.inl x.1, V.int x.2) :: pks gs) (Sum.inl g.1) = some (.int g.2)
    rcases List.mem_cons.mp h with e | h
    · subst e
      rw [valV_pos rfl]
    · have n : ¬ (Sum.inl x.1 : L2.Key) = Sum.inl g.1 := fun z => n1 (by
        rw [Sum.inl.inj z]
        exact List.mem_map.mpr ⟨g, h, rfl⟩)
      rw [valV_neg n]
      exact pks_some n2 h
theorem putK_snoc {gs : List (Int × Int)} {g : Int × Int} (h : g.1 ∉ gs.map (·.1)) : putK (pks gs) (Sum.inl g.1) (V.int g.2) = pks (gs ++ [g]) := by
  rw [putK_new _ (pks_none h), pks_snoc]
theorem Fit.take_no {gs : List (Int × Int)} (f : Fit gs) {i : Nat} {g : Int × Int} (h : gs[i]? = some g) : g.1 ∉ (gs.take i).map (·.1) := by
  intro m
  have e : gs = gs.take i ++ g :: gs.drop (i + 1) := by
    have hl := at_lt h
    have e2 : gs[i] = g := by
      rw [List.getElem?_eq_getElem hl] at h
      exact Option.some.inj h
    rw [← e2, List.getElem_cons_drop, List.take_append_drop]
  have nd := f.nd
  rw [e, List.map_append, List.nodup_append] at nd
  exact nd.2.2 _ m g.1 (by rw [List.map_cons]; exact List.mem_cons_self) rfl
/-! ### rules by a written part that is named (for what stands in a comprehension) -/
section
variable {X : Cx}
theorem lenK (K : PySem.W.Frag) (e : X.K = K := by rfl) : CallR X (.builtin "len") (fun xs H Q => ∃ p ys, xs = [.ref p] ∧ (SqL K H p ys ∨ SqT K H p ys) ∧ Q (.int ys.length) H) := by
  subst e
  exact call_len_seq
theorem ixlK (K : PySem.W.Frag) (e : X.K = K := by rfl) : IxR X (rIxL K) := by
  subst e
  exact ix_list
theorem ixtK (K : PySem.W.Frag) (e : X.K = K := by rfl) : IxR X (rIxT K) := by
  subst e
  exact ix_tup
theorem sllK (K : PySem.W.Frag) (e : X.K = K := by rfl) : SlR X (rSlL K) := by
  subst e
  exact sl_list
theorem eqDK (K : PySem.W.Frag) (hu : X.A.units + 64 < cLine) (e : X.K = K := by rfl) : OpR X (compareOp .Eq) (rEqD K) := by
  subst e
  exact op_eqD hu
theorem neDK (K : PySem.W.Frag) (hu : X.A.units + 64 < cLine) (e : X.K = K := by rfl) : OpR X (compareOp .NotEq) (rNeD K) := by
  subst e
  exact op_neD hu
theorem isiK (K : PySem.W.Frag) (e : X.K = K := by rfl) : CallR X (.builtin "isinstance") (rIsi K) := by
  subst e
  exact call_isi
theorem sumK (K : PySem.W.Frag) (hc : X.calm = true) (e : X.K = K := by rfl) : CallR X (.builtin "sum") (rSum K) := by
  subst e
  exact cr_sum hc
theorem inK (K : PySem.W.Frag) (e : X.K = K := by rfl) : OpR X (compareOp .In) (rIn K false) := by
  subst e
  exact op_in_seq
theorem notInK (K : PySem.W.Frag) (e : X.K = K := by rfl) : OpR X (compareOp .NotIn) (rIn K true) := by
  subst e
  exact op_notIn_seq
theorem listOfK (K : PySem.W.Frag) (e : X.K = K := by rfl) : CallR X (.type "list") (fun xs H Q => ∃ p ys, xs = [.ref p] ∧ (SqL K H p ys ∨ SqT K H p ys) ∧ ∀ l, H l = none → Q (.ref l) (upd H l (.lst ys))) := by
  subst e
  exact call_list_of
theorem pgTupK {es : List Expr} {k : Nat} {t : TGs} {pos : Pos} (K : PySem.W.Frag) (n : Nat) (hc : X.calm = true) (h : PGs X es t)
    (hn : (assignEach es X.env).length = n := by rfl) (hst : (assignEach es X.env).findIdx? (·.1) = none := by rfl) (e : X.K = K := by rfl) : PG X (.Tuple es k pos) (gTup K n t) := by
  subst e
  exact pg_tup hc h hn hst
theorem bmK {T : String} {name : Str} {id : String} {o e : Expr} {es : List Expr} {to : TE} {t : TA} {apos cpos : Pos} {r : V → List V → Hp → VK → Prop} (K : PySem.W.Frag) (pa : PlainAttrs T) (slot : Slot T name id) (hty : typeOf (.builtin id) = pure (.type "method_descriptor")) (hm : MtR X id r) (ho : PE X o to) (ha : PA X (e :: es) t)
    (hbase : attributeBase o name X.env (eval o X.env) = eval o X.env := by rfl)
    (hfew : ((backTo cpos (starEach (e :: es) X.env)).all (fun x => !x.1) && (backToKw cpos (keywordEach [] X.env)).all (fun x => x.1.isSome)
      && decide ((e :: es).length + ([] : List Keyword).length + (if ([] : List Keyword).isEmpty then 0 else 1) < 30)) = true := by rfl)
    (hline : (apos.endLine == cpos.line) = true := by rfl) (hs : starEach (e :: es) X.env = (false, eval e X.env) :: starEach es X.env := by rfl) (hplain : (backTo cpos (starEach es X.env)).any (·.1) = false := by rfl) (eK : X.K = K := by rfl) :
    PE X (.Call (.Attribute o name apos) (e :: es) [] cpos) (tBM K T r to t) := by
  subst eK
  exact pe_bm pa slot hty hm ho ha hbase hfew hline hs hplain
end
/-! ### cuts: what holds between two parts of a body -/
section
variable {σ : L2.St} {H : Hp} {D : Ends} {c : TT} {t u tb : TS}
theorem while_to (W : Nat → L2.St → Hp → Prop) (E : L2.St → Hp → Prop) (h0 : ∃ m, W m σ H) (hd : ∀ σ H, E σ H → D.nx σ H)
    (hs : ∀ X : L2.St → Hp → Prop, (∀ σ H, E σ H → X σ H) → ∀ m σ H, W m σ H → c σ H fun b H1 => if b = true then ∃ N : L2.St → Hp → Prop, (∀ σ' H', N σ' H' → ∃ m', m' < m ∧ W m' σ' H') ∧ tb { D with nx := N, ct := N, bk := X } σ H1 else X σ H1) : tWhile c tb D σ H := ⟨W, h0, hs D.nx hd⟩
theorem seq_to (E : L2.St → Hp → Prop) (h1 : ∀ X : L2.St → Hp → Prop, (∀ σ H, E σ H → X σ H) → t { D with nx := X } σ H) (h2 : ∀ σ H, E σ H → u D σ H) : tSeq t u D σ H := h1 (u D) h2
theorem seq_set {i : Nat} {v : V} (h : u D (σ.set i (some v)) H) : tSeq (tAsg (tC v) (gName i)) u D σ H := h
theorem st_to (E : L2.St → Hp → Prop) (h1 : ∀ X : L2.St → Hp → Prop, (∀ σ H, E σ H → X σ H) → t { D with nx := X } σ H) (h2 : ∀ σ H, E σ H → D.nx σ H) : t D σ H := h1 D.nx h2
end
theorem ixN_of {n j : Nat} (hj : j < n) : ixN n (j : Int) = some j := by
  unfold ixN
  rw [if_pos (by omega), if_pos (by omega), Int.toNat_natCast]
theorem seq_ix {n j : Nat} (hj : j < n) : seqIndex? (j : Int) n = some j := (ixN_seq (ixN_of hj)).1
theorem at_pick {xs : List V} {r : Int} (h0 : 0 ≤ r) (h1 : r < xs.length) : ∃ v, atI xs r = some v ∧ v ∈ xs := by
  obtain ⟨k, rfl⟩ : ∃ k : Nat, r = k := ⟨r.toNat, by omega⟩
  obtain ⟨v, e⟩ := at_some (show k < xs.length by omega)
  exact ⟨v, atI_nat e, List.mem_of_getElem? e⟩
theorem erase_perm {α : Type} : ∀ {l : List α} {k : Nat} {x : α}, l[k]? = some x → (x :: l.eraseIdx k).Perm l
  | [], _, _, h => by simp at h
  | a :: l, 0, x, h => by
    obtain rfl : a = x := Option.some.inj h
    exact List.Perm.refl _
  | a :: l, k + 1, x, h => by
    have ih := erase_perm (l := l) (k := k) (x := x) (by simpa using h)
    exact (List.Perm.swap a x (l.eraseIdx k)).trans (ih.cons a)
/-! ### data -/
def dInts (ns : List Int) : PyData := .list (ns.map .int)
def dGs (gs : List (Int × Int)) : PyData := .list (gs.map fun g => .tuple [.int g.1, .int g.2])
def dRows (rs : List (List Int)) : PyData := .list (rs.map dInts)
theorem canAll : ∀ {xs : List PyData}, (∀ x ∈ xs, x.canLay0 = true) → PyData.canLayAll0 xs = true
  | [], _ => by simp [PyData.canLayAll0]
  | x :: xs, h => by
    rw [PyData.canLayAll0, h x List.mem_cons_self, canAll fun y hy => h y (List.mem_cons_of_mem _ hy)]
    rfl
theorem depAll {n : Nat} : ∀ {xs : List PyData}, (∀ x ∈ xs, x.depth ≤ n) → PyData.depthAll xs ≤ n
  | [], _ => by simp [PyData.depthAll]
  | x :: xs, h => by
    rw [PyData.depthAll]
    exact Nat.max_le.mpr ⟨h x List.mem_cons_self, depAll fun y hy => h y (List.mem_cons_of_mem _ hy)⟩
structure Oks (n : Nat) (d : PyData) : Prop where
  can : d.canLay0 = true
  dep : d.depth ≤ n
theorem Oks.int (i : Int) : Oks 0 (.int i) := ⟨by simp [PyData.canLay0], by simp [PyData.depth]⟩
theorem Oks.mono {n m : Nat} {d : PyData} (h : Oks n d) (k : n ≤ m) : Oks m d := ⟨h.can, Nat.le_trans h.dep k⟩
theorem Oks.lst {n : Nat} {xs : List PyData} (h : ∀ x ∈ xs, Oks n x) : Oks (n + 1) (.list xs) := ⟨by rw [PyData.canLay0]; exact canAll fun x m => (h x m).can, by rw [PyData.depth]; exact Nat.succ_le_succ (depAll fun x m => (h x m).dep)⟩
theorem Oks.tup {n : Nat} {xs : List PyData} (h : ∀ x ∈ xs, Oks n x) : Oks (n + 1) (.tuple xs) := ⟨by rw [PyData.canLay0]; exact canAll fun x m => (h x m).can, by rw [PyData.depth]; exact Nat.succ_le_succ (depAll fun x m => (h x m).dep)⟩
theorem Oks.ints (ns : List Int) : Oks 1 (dInts ns) := .lst fun x m => by
  obtain ⟨n, _, rfl⟩ := List.mem_map.mp m
  exact .int n
theorem Oks.gs (gs : List (Int × Int)) : Oks 2 (dGs gs) := .lst fun x m => by
  obtain ⟨g, _, rfl⟩ := List.mem_map.mp m
  refine .tup fun y hy => ?_
  rcases List.mem_cons.mp hy with rfl | hy
  · exact .int _
  · rw [List.mem_singleton.mp hy]
    exact .int _
theorem Oks.rows (rs : List (List Int)) : Oks 2 (dRows rs) := .lst fun x m => by
  obtain ⟨r, _, rfl⟩ := List.mem_map.mp m
  exact .ints r
theorem Oks.shaped {n : Nat} {d : PyData} (h : Oks n d) (k : n ≤ 64 := by decide) : SeqAt.shaped d = true := by
  unfold SeqAt.shaped
  rw [h.can, decide_eq_true (Nat.le_trans h.dep k)]
  rfl
theorem Oks.eqv {n : Nat} {d : PyData} (h : Oks n d) : PyData.eqv d d = true := SeqAt.eqv_refl d h.can
theorem dp_ints {K : PySem.W.Frag} {H : Hp} {ns : List Int} : DpAll K H (ns.map V.int) (ns.map .int) := by
  induction ns with
  | nil => exact .nil
  | cons n ns ih => exact .cons (.int n) ih
theorem Dp.ints {K : PySem.W.Frag} {H : Hp} {a : Addr} {ns : List Int} (h : H a = some (.lst (ns.map V.int))) : Dp K H (.ref a) (dInts ns) := .lst (SqL.of h) dp_ints
theorem dpAll_of {K : PySem.W.Frag} {H : Hp} : ∀ {vs : List V} {ds : List PyData}, vs.length = ds.length → (∀ (i : Nat) (v : V) (d : PyData), vs[i]? = some v → ds[i]? = some d → Dp K H v d) → DpAll K H vs ds
  | [], [], _, _ => .nil
  | v :: vs, d :: ds, hl, h => .cons (h 0 v d rfl rfl) (dpAll_of (by simpa using hl) fun i v d e f => h (i + 1) v d (by simpa using e) (by simpa using f))
  | [], _ :: _, hl, _ => by simp at hl
  | _ :: _, [], hl, _ => by simp at hl
theorem GsAt.dp {K : PySem.W.Frag} {H : Hp} {B : Addr → Prop} {a : Addr} {ts : List Addr} {gs : List (Int × Int)} (h : GsAt H B a ts gs) : Dp K H (.ref a) (dGs gs) := by
  refine .lst h.seq (dpAll_of (by rw [List.length_map, List.length_map, h.len]) fun i v d e f => ?_)
  obtain ⟨t, g, rfl, eg, et⟩ := h.get e
  rw [List.getElem?_map, eg] at f
  obtain rfl := Option.some.inj f
  exact .tup (SqT.of et) (.cons (.int _) (.cons (.int _) .nil))
theorem RmsAt.dp {K : PySem.W.Frag} {H : Hp} {B : Addr → Prop} {a : Addr} {ts : List Addr} {rs : List (List Int)} (h : RmsAt H B a ts rs) : Dp K H (.ref a) (dRows rs) := by
  refine .lst h.seq (dpAll_of (by rw [List.length_map, List.length_map, h.len]) fun i v d e f => ?_)
  obtain ⟨t, r, rfl, _, er, et⟩ := h.get e
  rw [List.getElem?_map, er] at f
  obtain rfl := Option.some.inj f
  exact Dp.ints et
theorem eqv_nil (gs : List Int) : PyData.eqv (dInts gs) (dInts []) = gs.isEmpty := by
  cases gs with
  | nil => rfl
  | cons x r => rfl
theorem relTy (n : String) : RelV (.ty n) (.type n) := rfl
theorem FnOk.or {P : Program} {w : World} {K : PySem.W.Frag} {mg : Str → Option Value} {base : Heap} {CX : CXT} {k : Nat} {f : Addr} {fd : FuncData} {ps : List Str} {sp sp' : Sp} (F : FnOk P w K mg base CX k f fd ps sp) (F' : FnOk P w K mg base CX k f fd ps sp') :
    FnOk P w K mg base CX k f fd ps (fun vs H Q E => sp vs H Q E ∨ sp' vs H Q E) :=
  ⟨fun vs H Q E h => h.elim (F.len vs H Q E) (F'.len vs H Q E), fun A outer s H args us vs Q E hr e0 hb r h => h.elim (F.run A outer s H args us vs Q E hr e0 hb r) (F'.run A outer s H args us vs Q E hr e0 hb r)⟩
/-! ### built-ins by their names -/
structure Bi (mg : Str → Option Value) : Prop where
  len : mg "len" = none
  range : mg "range" = none
  enumerate : mg "enumerate" = none
  sorted : mg "sorted" = none
  sum : mg "sum" = none
  min : mg "min" = none
  max : mg "max" = none
  isinstance : mg "isinstance" = none
  zip : mg "zip" = none
  list_ : mg "list" = none
  tuple_ : mg "tuple" = none
  int_ : mg "int" = none
  bool_ : mg "bool" = none
  str_ : mg "str" = none
  abs : mg "abs" = none
  repr : mg "repr" = none
  dict_ : mg "dict" = none
  any : mg "any" = none
  all : mg "all" = none
  set_ : mg "set" = none
  reversed : mg "reversed" = none
  ValueError_ : mg "ValueError" = none
  divmod : mg "divmod" = none
end El
namespace El
open PySem PySem.Spec PyProof.Rows L2
/-- how many live in each -/
def lens (rs : List (List Int)) : List Int := rs.map fun r => (r.length : Int)
theorem lens_length (rs : List (List Int)) : (lens rs).length = rs.length := List.length_map _
theorem lens_at {rs : List (List Int)} {i : Nat} {r : List Int} (h : rs[i]? = some r) : (lens rs)[i]? = some (r.length : Int) := by
  unfold lens
  rw [List.getElem?_map, h]
  rfl
theorem cut_to (xs : List V) (j : Nat) : cutV xs none (some (j : Int)) = xs.take j := by
  unfold cutV
  rw [HT.sIx_none, HT.sIx_nat]
  show (List.drop 0 xs).take (min j xs.length - 0) = _
  rw [List.drop_zero, Nat.sub_zero, ← List.take_eq_take_min]
/-- the pair that stands at a value -/
def prOf (H : Hp) : V → Int × Int
  | .ref t => match H t with
    | some (.tup [.int i, .int j]) => (i, j)
    | _ => (0, 0)
  | _ => (0, 0)
theorem prOf_is {H : Hp} {t : Addr} {g : Int × Int} (h : H t = some (.tup [.int g.1, .int g.2])) : prOf H (.ref t) = g := by
  show (match H t with
    | some (.tup [.int i, .int j]) => (i, j)
    | _ => (0, 0)) = g
  rw [h]
theorem GsAt.prs {H : Hp} {B : Addr → Prop} {a : Addr} {ts : List Addr} {gs : List (Int × Int)} (h : GsAt H B a ts gs) : (ts.map V.ref).map (prOf H) = gs := by
  refine List.ext_getElem? fun i => ?_
  rw [List.getElem?_map]
  cases e : (ts.map V.ref)[i]? with
  | none =>
    have hl : (ts.map V.ref).length ≤ i := List.getElem?_eq_none_iff.mp e
    rw [List.length_map, h.len] at hl
    rw [List.getElem?_eq_none_iff.mpr hl]
    rfl
  | some x =>
    obtain ⟨t, g, rfl, eg, et⟩ := h.get e
    rw [eg]
    show some (prOf H (.ref t)) = some g
    rw [prOf_is et]
theorem GsAt.mem {H : Hp} {B : Addr → Prop} {a : Addr} {ts : List Addr} {gs : List (Int × Int)} (h : GsAt H B a ts gs) : ∀ x ∈ ts.map V.ref, ∃ t, x = V.ref t ∧ H t = some (.tup [.int (prOf H x).1, .int (prOf H x).2]) := fun x m => by
  obtain ⟨i, e⟩ := List.mem_iff_getElem?.mp m
  obtain ⟨t, g, rfl, eg, et⟩ := h.get e
  refine ⟨t, rfl, ?_⟩
  rw [prOf_is et]
  exact et
theorem sorted_prs {k : V → Int × Int} {ys xs : List V} {gs : List (Int × Int)} (f : Fit gs) (hx : xs.map k = gs) (hs : SrtO.Srtd (ltP k) ys) (hb : SrtO.Stb (ltP k) ys xs) : ys.reverse.map k = byAge gs := by
  refine byAge_of f ?_ ?_
  · rw [← hx]
    exact ((List.reverse_perm ys).trans hb.perm).map k
  · rw [List.map_reverse, List.pairwise_reverse, List.pairwise_map]
    refine hs.imp fun {a b} h => ?_
    have h' : SrtO.lexB (k b) (k a) = false := h
    rw [SrtO.lexB_no] at h'
    omega
theorem cut_1 (xs : List V) : cutV xs (some 1) none = xs.drop 1 := by
  unfold cutV
  rw [show HT.sIx xs.length 0 (some 1) = min 1 xs.length from HT.sIx_nat xs.length 0 1, HT.sIx_none]
  cases xs with
  | nil => rfl
  | cons x r =>
    rw [show min 1 (x :: r).length = 1 by
      rw [List.length_cons]
      omega]
    show (List.take ((x :: r).length - 1) r) = r
    rw [List.length_cons, Nat.add_sub_cancel]
    exact List.take_length
theorem lens_falls {gs : List (Int × Int)} (f : Fit gs) {i : Nat} {x y : Int} (h1 : (lens (settle gs))[i]? = some x) (h2 : ((lens (settle gs)).drop 1)[i]? = some y) : ¬ x < y := by
  rw [List.getElem?_drop] at h2
  unfold lens at h1 h2
  rw [List.getElem?_map] at h1 h2
  have hp := settleL_falls (byAge gs) f.byAge.pos
  cases e1 : (settle gs)[i]? with
  | none => rw [e1] at h1; cases h1
  | some r =>
    cases e2 : (settle gs)[1 + i]? with
    | none => rw [e2] at h2; cases h2
    | some s =>
      rw [e1] at h1
      rw [e2] at h2
      obtain rfl : (r.length : Int) = x := Option.some.inj h1
      obtain rfl : (s.length : Int) = y := Option.some.inj h2
      obtain ⟨l1, q1⟩ := List.getElem?_eq_some_iff.mp (show (settleL (byAge gs))[i]? = some r from e1)
      obtain ⟨l2, q2⟩ := List.getElem?_eq_some_iff.mp (show (settleL (byAge gs))[1 + i]? = some s from e2)
      have := List.pairwise_iff_getElem.mp hp i (1 + i) l1 l2 (by omega)
      rw [q1, q2] at this
      omega
theorem dget_pks {H : Hp} {d : Addr} {gs : List (Int × Int)} {g : Int × Int} (h : H d = some (.dK (pks gs))) (f : Fit gs) (m : g ∈ gs) : DGet H d (.int g.1) (some (.int g.2)) := by
  have q := DGet.k (k := Sum.inl g.1) h
  rw [pks_some f.nd m] at q
  exact q
theorem log_lt {m : Int} {k : Nat} (h0 : 0 < m) (h : m < 2 ^ k) : m.natAbs.log2 < k := by
  obtain ⟨j, rfl⟩ : ∃ j : Nat, m = j := ⟨m.toNat, by omega⟩
  have h' : j < 2 ^ k := by exact_mod_cast h
  rw [Int.natAbs_natCast]
  exact (Nat.log2_lt (by omega)).mpr h'
theorem GsAt.mix {H : Hp} {B B' : Addr → Prop} {a m : Addr} {ts : List Addr} {gs : List (Int × Int)} {ys : List V} (h : GsAt H B a ts gs) (e : H m = some (.lst ys)) (bm : B' m) (hb : ∀ b, B b → B' b) (p : ys.Perm (ts.map V.ref)) :
    ∃ ts' gs', GsAt H B' m ts' gs' ∧ gs'.Perm gs := by
  have hm : ∀ y ∈ ys, ∃ t, y = V.ref t ∧ t ∈ ts := fun y hy => by
    obtain ⟨t, ht, rfl⟩ := List.mem_map.mp (p.mem_iff.mp hy)
    exact ⟨t, rfl, ht⟩
  obtain ⟨us, rfl, hu⟩ : ∃ us : List Addr, ys = us.map V.ref ∧ ∀ u ∈ us, u ∈ ts := by
    clear p e
    induction ys with
    | nil => exact ⟨[], rfl, fun u hu => absurd hu (by simp)⟩
    | cons y ys ih =>
      obtain ⟨t, rfl, ht⟩ := hm y List.mem_cons_self
      obtain ⟨us, rfl, hu⟩ := ih fun z hz => hm z (List.mem_cons_of_mem _ hz)
      exact ⟨t :: us, rfl, fun u h => by
        rcases List.mem_cons.mp h with rfl | h
        · exact ht
        · exact hu u h⟩
  refine ⟨us, (us.map V.ref).map (prOf H), ⟨e, bm, by rw [List.length_map, List.length_map], fun i t g e1 e2 => ?_, fun t ht => hb t (h.b t (hu t ht))⟩, ?_⟩
  · rw [List.getElem?_map, List.getElem?_map, e1] at e2
    have e2' : prOf H (.ref t) = g := Option.some.inj e2
    obtain ⟨j, ej⟩ := List.mem_iff_getElem?.mp (hu t (List.mem_of_getElem? e1))
    obtain ⟨t', g', e3, eg, et⟩ := h.get (i := j) (x := .ref t) (by rw [List.getElem?_map, ej]; rfl)
    injection e3 with e3
    subst e3
    rw [prOf_is et] at e2'
    rw [← e2']
    exact et
  · have := p.map (prOf H)
    rw [h.prs] at this
    exact this
/-- put in anywhere -/
theorem GsAt.ins {H : Hp} {B : Addr → Prop} {a : Addr} {ts : List Addr} {gs : List (Int × Int)} {ys : List V} (h : GsAt H B a ts gs) (hn : a ∉ ts) {q : Addr} {g : Int × Int} (e : H q = some (.tup [.int g.1, .int g.2])) (bq : B q) (p : ys.Perm (ts.map V.ref ++ [.ref q])) :
    ∃ ts' gs', GsAt (upd H a (.lst ys)) B a ts' gs' ∧ gs'.Perm (gs ++ [g]) ∧ a ∉ ts' ∧ ys = ts'.map V.ref := by
  have nq : q ≠ a := fun z => by
    rw [z, h.top] at e
    cases e
  have hm : ∀ y ∈ ys, ∃ t, y = V.ref t ∧ t ∈ ts ++ [q] := fun y hy => by
    rcases List.mem_append.mp (p.mem_iff.mp hy) with m | m
    · obtain ⟨t, ht, rfl⟩ := List.mem_map.mp m
      exact ⟨t, rfl, List.mem_append_left _ ht⟩
    · exact ⟨q, List.mem_singleton.mp m, List.mem_append_right _ (List.mem_singleton.mpr rfl)⟩
  obtain ⟨us, rfl, hu⟩ : ∃ us : List Addr, ys = us.map V.ref ∧ ∀ u ∈ us, u ∈ ts ++ [q] := by
    clear p
    induction ys with
    | nil => exact ⟨[], rfl, fun u hu => absurd hu (by simp)⟩
    | cons y ys ih =>
      obtain ⟨t, rfl, ht⟩ := hm y List.mem_cons_self
      obtain ⟨us, rfl, hu⟩ := ih fun z hz => hm z (List.mem_cons_of_mem _ hz)
      exact ⟨t :: us, rfl, fun u h => by
        rcases List.mem_cons.mp h with rfl | h
        · exact ht
        · exact hu u h⟩
  have ha : ∀ u ∈ us, u ≠ a ∧ B u ∧ ∃ x : Int × Int, H u = some (.tup [.int x.1, .int x.2]) := fun u m => by
    rcases List.mem_append.mp (hu u m) with m | m
    · obtain ⟨j, ej⟩ := List.mem_iff_getElem?.mp m
      obtain ⟨t', g', e3, eg, et⟩ := h.get (i := j) (x := .ref u) (by rw [List.getElem?_map, ej]; rfl)
      injection e3 with e3
      subst e3
      exact ⟨fun z => hn (z ▸ m), h.b u m, g', et⟩
    · rw [List.mem_singleton.mp m]
      exact ⟨nq, bq, g, e⟩
  refine ⟨us, (us.map V.ref).map (prOf H), ⟨upd_same, h.ba, by rw [List.length_map, List.length_map], fun i t x e1 e2 => ?_, fun t m => (ha t m).2.1⟩, ?_, fun m => (ha a m).1 rfl, rfl⟩
  · rw [List.getElem?_map, List.getElem?_map, e1] at e2
    have e2' : prOf H (.ref t) = x := Option.some.inj e2
    obtain ⟨n1, _, y, ey⟩ := ha t (List.mem_of_getElem? e1)
    rw [prOf_is ey] at e2'
    subst e2'
    rw [upd_ne n1]
    exact ey
  · have := p.map (prOf H)
    rw [List.map_append, h.prs] at this
    rw [show [V.ref q].map (prOf H) = [g] by show [prOf H (.ref q)] = [g]; rw [prOf_is e]] at this
    exact this
theorem GsAt.cat {H : Hp} {B : Addr → Prop} {a l : Addr} {ts : List Addr} {gs : List (Int × Int)} (h : GsAt H B a ts gs) {q : Addr} {g : Int × Int} (e : H q = some (.tup [.int g.1, .int g.2])) (el : H l = some (.lst (ts.map V.ref ++ [.ref q]))) :
    GsAt H (fun _ => True) l (ts ++ [q]) (gs ++ [g]) := by
  refine ⟨by rw [List.map_append]; exact el, trivial, by rw [List.length_append, List.length_append, h.len]; rfl, fun i t x e1 e2 => ?_, fun _ _ => trivial⟩
  by_cases hi : i < ts.length
  · rw [List.getElem?_append_left hi] at e1
    rw [List.getElem?_append_left (by rw [← h.len]; exact hi)] at e2
    exact h.at' i t x e1 e2
  · have hi' : i = ts.length := by
      have := at_lt e1
      rw [List.length_append, List.length_singleton] at this
      omega
    subst hi'
    rw [List.getElem?_append_right (Nat.le_refl _), Nat.sub_self] at e1
    rw [h.len, List.getElem?_append_right (Nat.le_refl _), Nat.sub_self] at e2
    obtain rfl : q = t := Option.some.inj e1
    obtain rfl : g = x := Option.some.inj e2
    exact e
theorem inV_ints (x : Int) (ns : List Int) : inV (.int x) (ns.map V.int) = decide (x ∈ ns) := by
  unfold inV
  rw [List.any_map]
  induction ns with
  | nil => rfl
  | cons n ns ih =>
    rw [List.any_cons, ih]
    have e : ((fun y => eqV y (V.int x)) ∘ V.int) n = decide (x = n) := by
      show eqV (.int n) (.int x) = decide (x = n)
      have e2 : eqV (.int n) (.int x) = decide (n = x) := by
        unfold eqV
        first | rfl | simp
      rw [e2]
      by_cases h : n = x
      · subst h; simp
      · rw [decide_eq_false h, decide_eq_false (fun z => h z.symm)]
    rw [e]
    by_cases h : x = n
    · subst h
      simp
    · rw [decide_eq_false h, Bool.false_or]
      by_cases h2 : x ∈ ns
      · rw [decide_eq_true h2, decide_eq_true (List.mem_cons_of_mem _ h2)]
      · rw [decide_eq_false h2, decide_eq_false (fun z => (List.mem_cons.mp z).elim h h2)]
theorem flat_ints (ns : List Int) : (ns.map V.int).all flatV = true := by
  rw [List.all_map, List.all_eq_true]
  intro x _
  rfl
theorem eqvAll_ints : ∀ a b : List Int, PyData.eqvAll (a.map .int) (b.map .int) = decide (a = b)
  | [], [] => rfl
  | [], y :: b => by
    rw [decide_eq_false (by simp)]
    rfl
  | x :: a, [] => by
    rw [decide_eq_false (by simp)]
    rfl
  | x :: a, y :: b => by
    rw [List.map_cons, List.map_cons, PyData.eqvAll, eqvAll_ints a b]
    show ((x == y) && decide (a = b)) = _
    by_cases h : x = y
    · subst h
      by_cases h2 : a = b
      · subst h2
        simp
      · rw [decide_eq_false h2, decide_eq_false (fun z => h2 (List.cons.inj z).2)]
        simp
    · have : (x == y) = false := by simpa using h
      rw [this, decide_eq_false (fun z => h (List.cons.inj z).1)]
      rfl
theorem eqv_ints (a b : List Int) : PyData.eqv (dInts a) (dInts b) = decide (a = b) := by
  unfold dInts
  rw [PyData.eqv]
  exact eqvAll_ints a b
theorem cut_at (xs : List V) (k : Nat) : cutV xs (some (k : Int)) (some ((k : Int) + 1)) = (xs.drop k).take 1 := by
  unfold cutV
  rw [HT.sIx_nat, show (k : Int) + 1 = ((k + 1 : Nat) : Int) by omega, HT.sIx_nat]
  by_cases h : k < xs.length
  · rw [Nat.min_eq_left (by omega), Nat.min_eq_left (by omega), Nat.add_sub_cancel_left]
  · have h1 : min k xs.length = xs.length := by omega
    have h2 : min (k + 1) xs.length = xs.length := by omega
    rw [h1, h2, Nat.sub_self, List.take_zero, List.drop_of_length_le (show xs.length ≤ k by omega)]
    rfl
theorem drop_take1 (L : List Int) (k : Nat) : (L.drop k).take 1 = L[k]?.toList := by
  by_cases h : k < L.length
  · rw [List.getElem?_eq_getElem h, List.drop_eq_getElem_cons h]
    rfl
  · rw [List.getElem?_eq_none (by omega), List.drop_of_length_le (by omega)]
    rfl
end El
namespace El
open PySem PySem.Spec PyProof.Rows L2
section
variable {X : Cx}
/-- the walk over a list -/
theorem gathers_list {pins : List (Addr × Obj)} {σ : L2.St} {H : Hp} {s : Shared} {a : Addr} {xs : List V} (I : Inv X pins σ H s) (h : SqL X.K H a xs) : xs.length ≤ sizeLine ∧ Gathers X s (.ref a) xs := by
  have ⟨us, r, ⟨o, n, at_a, is_list, _, data⟩, few⟩ := I.list h
  refine ⟨few, fun R go => wpAny_collect_seq a (.inl rfl) at_a is_list data (fun h' grown => ?_) ?_⟩
  · rw [List.toList_toArray]
    exact go us h' s.toks r grown
  · rw [List.size_toArray]
    exact r.length ▸ few
/-- a value that is an object's name, seen as ours -/
def asOurs : Value → V
  | .ref a => .ref a
  | _ => .non
/-- sorted(xs, reverse=b) of a list of pairs of ints -/
def rSortedPK (K : PySem.W.Frag) (b : Bool) : List V → List V → Hp → VK → Prop := fun vs zs H Q => ∃ (a : Addr) (xs : List V) (k : V → Int × Int), vs = [V.ref a] ∧ zs = [.bl b] ∧ SqL K H a xs ∧ (∀ x ∈ xs, ∃ t, x = V.ref t ∧ H t = some (.tup [.int (k x).1, .int (k x).2])) ∧
  ∀ ys p, SrtO.Srtd (ltP k) ys → ys.Perm xs → H p = none → Q (.ref p) (upd H p (.lst (if b = true then ys.reverse else ys)))
theorem cr_sortedPK {b : Bool} (_ : X.calm = true) : CallRK X (.builtin "sorted") [Str.ofString "reverse"] (rSortedPK X.K b) := by
  rintro pins s σ H _ _ us ws Q I one by_kw ⟨a, xs, k, rfl, rfl, here, pairs, q⟩
  obtain ⟨v, w, rfl, rfl, rfl, rfl⟩ : ∃ v w, us = [v] ∧ ws = [w] ∧ v = .ref a ∧ w = .bool b := by
    cases one with | cons e1 t1 => cases t1; cases by_kw with | cons e2 t2 => cases t2; exact ⟨_, _, rfl, rfl, e1, e2⟩
  have ⟨few, walk⟩ := gathers_list I here
  have known : ∀ {x : V} {u : Value}, x ∈ xs → RelV x u → asOurs u = x := fun {x u} m e => by
    have ⟨t, ex, _⟩ := pairs x m
    subst ex
    exact congrArg asOurs e
  refine sorted_gathered I few walk (SrtO.swo_lex fun u => k (asOurs u)) (fun us s' l two r J free => ?_) fun P l hP perm up free => ?_
  · refine SrtO.pairs_sortableO (k := fun u => k (asOurs u)) (Nat.lt_of_lt_of_le Nat.two_pos two) (fun u m => ?_) fun o at_l => ?_
    · obtain ⟨P, hP, rfl, rfl⟩ := partners_of r
      have ⟨⟨x, u⟩, mp, eu⟩ := List.mem_map.mp m
      subst eu
      have mx := List.mem_map_of_mem (f := Prod.fst) mp
      have ⟨t, ex, ht⟩ := pairs x mx
      have apart : t ≠ l := fun e => by rw [e, free] at ht; cases ht
      have ⟨_, vs, rv, o, at_t, is_tup, n, data⟩ := J.hok t _ ((upd_ne apart).trans ht)
      rw [known mx (hP _ mp)]
      cases rv with | cons e1 rv => cases rv with | cons e2 rv => cases rv; exact e1.elim fun t1 e1 => e2.elim fun t2 e2 => ⟨t, o, t1, t2, n, by have := hP _ mp; rw [show (x, u).1 = V.ref t from ex] at this; exact this, at_t, is_tup, by rw [data, e1, e2]⟩
    · have ⟨_, vs, e, _, there⟩ := J.hok l _ upd_same
      rw [there] at at_l
      cases at_l
      have differ : Value.type "list" ≠ Value.type "tuple" := by decide
      exact differ
  · have sorts : SrtO.Srtd (ltP k) (P.map Prod.fst) := by
      rw [SrtO.Srtd, List.pairwise_map] at up ⊢
      refine up.imp_of_mem fun {p p'} m m' h => ?_
      have on := fun {p : V × Value} (m : p ∈ P) => known (perm.mem_iff.mp (List.mem_map_of_mem (f := Prod.fst) m)) (hP p m)
      rw [on m, on m'] at h
      exact h
    exact q _ l sorts perm free
/-- sorted by age and patience, turned round: from the eldest on -/
theorem sorted_down {k : V → Int × Int} {ys xs : List V} {gs : List (Int × Int)} (f : Fit gs) (hx : xs.map k = gs) (hs : SrtO.Srtd (ltP k) ys) (hb : ys.Perm xs) : ys.reverse.map k = byAge gs := by
  refine byAge_of f ?_ ?_
  · rw [← hx]
    exact ((List.reverse_perm ys).trans hb).map k
  · rw [List.map_reverse, List.pairwise_reverse, List.pairwise_map]
    refine hs.imp fun {a b} h => ?_
    have h' : SrtO.lexB (k b) (k a) = false := h
    rw [SrtO.lexB_no] at h'
    omega
end
end El
namespace El
open PySem PySem.Spec PyProof.Rows L2
section
variable {X : Cx}
/-- len of a set of ints -/
theorem call_lenSI : CallR X (.builtin "len") (fun xs H Q => ∃ (a : Addr) (S : Int → Bool) (n : Nat), xs = [V.ref a] ∧ H a = some (SetO X.w a S n) ∧ n ≤ 100000 ∧ Q (.int n) H) := by
  intro pins s σ H xs us Q I r h
  obtain ⟨a, S, n, rfl, ha, hn, q⟩ := h
  rw [Vals.ref1 r]
  obtain ⟨o, es, ep, t, ho, hex, hd, _, _, _, hf, he⟩ := (setO_get I ha).setOf (P := X.prog)
  refine call_len_set ho hex hd hf (by rw [he]; exact Int.lt_of_le_of_lt (show (n : Int) ≤ 100000 by omega) (by decide)) ⟨.int n, H, I.tok _, ⟨_, by rw [he]⟩, q⟩
end
theorem piListK {X : Cx} {tg l : Expr} {tl : TE} (K : PySem.W.Frag) (hl : PE X l tl) (e : X.K = K := by rfl) : PI X tg l (iList K tl) := by
  subst e
  exact pi_list hl
/-- the outer walk of a comprehension with two fors, and the inner one -/
theorem out_it {J : It} {n : Nat} {G : Hp → Prop} {Y : Nat → Hp → V → Hp → Prop} (w : Walk J n G Y) {Qd : Hp → Prop} {H0 : Hp} {bd : (Hp → Prop) → V → Hp → Prop} (Pv : Nat → Hp → Prop) (h0 : Pv 0 H0) (hG : ∀ i H, i ≤ n → Pv i H → G H)
    (hs : ∀ i x H H', i < n → Pv i H → Y i H x H' → bd (Pv (i + 1)) x H') (hd : ∀ H, Pv n H → Qd H) :
    ∃ W : Nat → Nat → Hp → Prop, (∃ m, W 0 m H0) ∧ ∀ i m H, W i m H → (J.stop i H ∧ Qd H) ∨ (J.go i H ∧ ∃ Nx : Hp → Prop, (∀ H', Nx H' → ∃ m', m' < m ∧ W (i + 1) m' H') ∧ ∀ x H', J.yld i H x H' → bd Nx x H') := by
  refine ⟨fun i m H => m = n - i ∧ i ≤ n ∧ Pv i H, ⟨n, by simp, Nat.zero_le _, h0⟩, ?_⟩
  rintro i m H ⟨rfl, hi, p⟩
  have q := hG i H hi p
  by_cases hlt : i < n
  · exact .inr ⟨w.goes i H hlt q, Pv (i + 1), fun H' p' => ⟨n - (i + 1), by omega, rfl, hlt, p'⟩, fun x H' y => hs i x H H' hlt p (w.yields i H x H' hlt q y)⟩
  · have e : i = n := by omega
    subst e
    exact .inl ⟨w.stops H q, hd H p⟩
theorem cut_from (xs : List V) (j : Nat) : cutV xs (some (j : Int)) none = xs.drop j := by
  unfold cutV
  rw [HT.sIx_none, HT.sIx_nat]
  show (List.drop (min j xs.length) xs).take (xs.length - min j xs.length) = _
  by_cases h : j ≤ xs.length
  · rw [Nat.min_eq_left h, List.take_of_length_le (by rw [List.length_drop]; omega)]
  · rw [Nat.min_eq_right (by omega), List.drop_of_length_le (Nat.le_refl _), List.drop_of_length_le (show xs.length ≤ j by omega), List.take_nil]
/-- a list of lists of ints, read alone -/
structure RdAt (H : Hp) (o : Addr) (ts : List Addr) (rs : List (List Int)) : Prop where
  top : H o = some (.lst (ts.map V.ref))
  len : ts.length = rs.length
  at' : ∀ (i : Nat) (t : Addr) (r : List Int), ts[i]? = some t → rs[i]? = some r → H t = some (.lst (r.map V.int))
theorem RdAt.same {H H' : Hp} {a : Addr} {ts : List Addr} {rs : List (List Int)} (h : RdAt H a ts rs) (k : Same H H') : RdAt H' a ts rs :=
  ⟨k _ _ h.top, h.len, fun i t g e f => k _ _ (h.at' i t g e f)⟩
theorem RdAt.seq {K : PySem.W.Frag} {H : Hp} {a : Addr} {ts : List Addr} {rs : List (List Int)} (h : RdAt H a ts rs) : SqL K H a (ts.map V.ref) := SqL.of h.top
theorem RmsAt.rd {H : Hp} {B : Addr → Prop} {a : Addr} {ts : List Addr} {rs : List (List Int)} (h : RmsAt H B a ts rs) : RdAt H a ts rs := ⟨h.top, h.len, h.at'⟩
theorem RdAt.get {H : Hp} {a : Addr} {ts : List Addr} {rs : List (List Int)} (h : RdAt H a ts rs) {i : Nat} {x : V} (e : (ts.map V.ref)[i]? = some x) : ∃ t r, x = .ref t ∧ ts[i]? = some t ∧ rs[i]? = some r ∧ H t = some (.lst (r.map V.int)) := by
  obtain ⟨t, e1, rfl⟩ := refs_at e
  have hi := at_lt e1
  rw [h.len] at hi
  obtain ⟨g, e2⟩ := at_some hi
  exact ⟨t, g, rfl, e1, e2, h.at' i t g e1 e2⟩
theorem pks_get {gs : List (Int × Int)} (nd : (gs.map (·.1)).Nodup) {a : Int} (m : a ∈ gs.map (·.1)) : valV (pks gs) (Sum.inl a) = some (.int (pof gs a)) := by
  obtain ⟨g, hg, rfl⟩ := List.mem_map.mp m
  rw [pks_some nd hg, pof_is nd hg]
theorem dget_pof {H : Hp} {d : Addr} {gs : List (Int × Int)} (h : H d = some (.dK (pks gs))) (nd : (gs.map (·.1)).Nodup) {a : Int} (m : a ∈ gs.map (·.1)) : DGet H d (.int a) (some (.int (pof gs a))) := by
  have z := DGet.k (k := Sum.inl a) h
  rw [pks_get nd m] at z
  exact z
theorem take_snoc_flat {rs : List (List Int)} {i : Nat} {r : List Int} (e : rs[i]? = some r) : (rs.take (i + 1)).flatten = (rs.take i).flatten ++ r := by
  rw [take_snoc e, List.flatten_append, List.flatten_cons, List.flatten_nil, List.append_nil]
theorem flat_split {rs : List (List Int)} {i j : Nat} {r : List Int} {a : Int} (nd : rs.flatten.Nodup) (e : rs[i]? = some r) (e2 : r[j]? = some a) : a ∉ (rs.take i).flatten ++ r.take j := by
  have h1 : rs.flatten = (rs.take i).flatten ++ (r ++ (rs.drop (i + 1)).flatten) := by
    have hi := at_lt e
    have h2 : rs = rs.take i ++ r :: rs.drop (i + 1) := by
      have := List.getElem_cons_drop (as := rs) (i := i) hi
      rw [List.getElem?_eq_getElem hi] at e
      rw [Option.some.inj e] at this
      rw [this, List.take_append_drop]
    rw [congrArg List.flatten h2, List.flatten_append, List.flatten_cons]
  have h3 : r = r.take j ++ a :: r.drop (j + 1) := by
    have hj := at_lt e2
    have := List.getElem_cons_drop (as := r) (i := j) hj
    rw [List.getElem?_eq_getElem hj] at e2
    rw [Option.some.inj e2] at this
    rw [this, List.take_append_drop]
  rw [h1] at nd
  generalize (rs.take i).flatten = x at nd ⊢
  generalize (rs.drop (i + 1)).flatten = y at nd
  rw [h3] at nd
  obtain ⟨_, n2, n3⟩ := List.nodup_append.mp nd
  intro m
  rcases List.mem_append.mp m with m | m
  · exact n3 a m a (List.mem_append_left _ (List.mem_append_right _ List.mem_cons_self)) rfl
  · obtain ⟨n4, _, _⟩ := List.nodup_append.mp n2
    obtain ⟨_, _, n7⟩ := List.nodup_append.mp n4
    exact n7 a m a List.mem_cons_self rfl
theorem flat_mem {rs : List (List Int)} {i j : Nat} {r : List Int} {a : Int} (e : rs[i]? = some r) (e2 : r[j]? = some a) : a ∈ rs.flatten :=
  List.mem_flatten.mpr ⟨r, List.mem_of_getElem? e, List.mem_of_getElem? e2⟩
end El
namespace El
open PySem PySem.Spec PyProof.Rows L2
section
variable {X : Cx}
theorem ptTruthK {a : Expr} {ta : TE} (K : PySem.W.Frag) (ha : PE X a ta) (he : ∀ whole, isTrue a X.env whole = (do let v ← whole; standAt a.pos; holding [v] (truthy v))) (e : X.K = K := by rfl) :
    PT X a (tTru K ta) := by
  subst e
  exact pt_truth ha he
/-! ### xs[::s], s 1 or -1 -/
def tStepL (K : PySem.W.Frag) (te ts : TE) : TE := fun σ H Q => te σ H fun x H1 => ts σ H1 fun y H2 => ∃ c, y = .int c ∧ ∃ a xs, x = .ref a ∧ (c = 1 ∨ c = -1) ∧ SqL K H2 a xs ∧ ∀ p, H2 p = none → Q (.ref p) (upd H2 p (.lst (if c = 1 then xs else xs.reverse)))
/-- what such a cut picks -/
theorem pick_way (us : List Value) {c : Int} (h : c = 1 ∨ c = -1) : slicePick us.toArray none none (some c) = (if c = 1 then us else us.reverse).toArray := by
  rcases h with rfl | rfl
  · show slicePick us.toArray none none none = _
    rw [slicePick_cut, HT.sIx_none, HT.sIx_none, List.drop_zero, Nat.sub_zero, List.take_length]
    rfl
  · exact PySem.W.krv_pick us.toArray
/-- a cut lies there that names its step alone -/
def StepAt (s : Shared) (i : Value) (c : Int) : Prop := ∃ p u, i = .ref p ∧ s.heap.IsSliceOf p .none .none (.int c u)
theorem step_made {st : Expr} {ts : TE} {p : Pos} {pins : List (Addr × Obj)} {σ : L2.St} {H : Hp} {s : Shared} {R : Value → Shared → Prop} {D : Int → Hp → Prop} (hs : PE X st ts) (I : Inv X pins σ H s)
    (h : ts σ H fun y H' => ∃ c, y = .int c ∧ D c H') (go : ∀ c H' i s', Inv X pins σ H' s' → StepAt s' i c → D c H' → R i s') : wpAny (model X.prog X.w) X.A (eval (.Slice none none (some st) p) X.env) R X.xe s := by
  refine wpAny_Slice (wpAny_pure (wpAny_pure (thn (hs.run pins s σ H _ I h) ?_)))
  rintro _ s' ⟨_, H', J, e, c, rfl, d⟩
  obtain ⟨u, rfl⟩ : ∃ u, _ = Value.int c u := e
  exact go c H' _ _ (J.kept (t' := s'.toks) fun _ _ => Heap.get?_push_of_some _) ⟨_, u, rfl, .new ..⟩ d
theorem list_cut {pins : List (Addr × Obj)} {σ : L2.St} {H : Hp} {s : Shared} {Q : VK} {a : Addr} {xs : List V} {i : Value} {c : Int} (I : Inv X pins σ H s) (here : SqL X.K H a xs) (cut : StepAt s i c) (h : c = 1 ∨ c = -1)
    (q : ∀ p, H p = none → Q (.ref p) (upd H p (.lst (if c = 1 then xs else xs.reverse)))) : wpAny (model X.prog X.w) X.A (getItem (.ref a) i) (EP X pins σ Q) X.xe s := by
  have ⟨us, r, at_a, few⟩ := I.list here
  have ⟨_, _, e, at_i⟩ := cut
  subst e
  have fits : us.toArray.size ≤ sizeLine := Nat.le_trans (Nat.le_of_eq (us.size_toArray.trans r.length.symm)) few
  have turned : Vals (if c = 1 then xs else xs.reverse) (if c = 1 then us else us.reverse) := by
    split
    · exact r
    · exact r.reverse
  have same : (if c = 1 then xs else xs.reverse).length = xs.length := by
    split
    · rfl
    · exact xs.length_reverse
  refine wpAny_getItem_list_slice at_a.isList at_i .none .none (.int c _) (fun z => by rcases h with rfl | rfl <;> cases z) ?_ fits
  rw [pick_way us h]
  have J := I.laid (a := s.heap.objs.size) (o := .lst (if c = 1 then xs else xs.reverse)) (t' := s.toks) (fun _ _ => Heap.get?_push_of_some _) (Nat.le_refl _) ⟨same ▸ few, _, 0, turned, Heap.get?_push_size _ rfl⟩
  exact ⟨.ref _, _, J, rfl, q _ (I.hok.fresh (Nat.le_refl _))⟩
theorem pe_stepL {e st : Expr} {te ts : TE} {p3 pos : Pos} (he : PE X e te) (hs : PE X st ts) : PE X (.Subscript e (.Slice none none (some st) p3) pos) (tStepL X.K te ts) where
  run pins s σ H Q I h := by
    refine Subscript_ (thn (he.run pins s σ H _ I h) ?_)
    rintro v s1 ⟨x, H1, J1, r, more⟩
    refine step_made hs J1 more ?_
    rintro c H2 i s2 J2 cut ⟨a, xs, rfl, way, here, q⟩
    cases r
    have ⟨_, _, at_a, _⟩ := J2.list here
    exact tail_any (ops := [.ref a, i]) at_a.isList.typeIs PySem.slot_list_getitem.lookup (list_cut J2 here cut way q) (by have ⟨_, _, e, _⟩ := cut; subst e; with_unfolding_all rfl)
end
theorem mergeK_pks {gs : List (Int × Int)} (nd : (gs.map (·.1)).Nodup) : mergeK [] (pks gs) = pks gs := by
  suffices h : ∀ (n : Nat), n ≤ gs.length → mergeK [] (pks (gs.take n)) = pks (gs.take n) by
    have := h gs.length (Nat.le_refl _)
    rw [take_full] at this
    exact this
  intro n
  induction n with
  | zero =>
    intro _
    rw [List.take_zero]
    rfl
  | succ n ih =>
    intro hn
    obtain ⟨g, eg⟩ := at_some hn
    have ht : (gs.take n).map (·.1) = (gs.map (·.1)).take n := List.map_take
    have no : g.1 ∉ (gs.take n).map (·.1) := fun m => by
      rw [ht] at m
      have e : (gs.map (·.1))[n]? = some g.1 := by rw [List.getElem?_map, eg]; rfl
      obtain ⟨i, hi⟩ := List.mem_iff_getElem?.mp m
      rw [List.getElem?_take] at hi
      split at hi
      · have := nd_ix nd hi e
        omega
      · cases hi
    rw [take_snoc eg]
    unfold mergeK at ih ⊢
    rw [pks_snoc, List.foldl_append, ih (by omega)]
    show putK (pks (gs.take n)) (Sum.inl g.1) (V.int g.2) = _
    rw [putK_snoc no, pks_snoc]
theorem GsAt.paired {K : PySem.W.Frag} {H : Hp} {B : Addr → Prop} {a : Addr} {ts : List Addr} {gs : List (Int × Int)} (h : GsAt H B a ts gs) : Paired (fun p kv => SqT K H p [kV kv.1, kv.2]) ts (pks gs) := by
  have hl := h.len
  have ha := h.at'
  clear h
  induction ts generalizing gs with
  | nil =>
    cases gs with
    | nil => exact .nil
    | cons g gs => simp at hl
  | cons t ts ih =>
    cases gs with
    | nil => simp at hl
    | cons g gs =>
      refine .cons (SqT.of (ha 0 t g rfl rfl)) (ih (gs := gs) (by simpa using hl) fun i t' g' e1 e2 => ha (i + 1) t' g' (by simpa using e1) (by simpa using e2))
theorem RdAt.of {H : Hp} {a : Addr} {ts : List Addr} {rs : List (List Int)} (h : RdAt H a ts rs) {i : Nat} {r : List Int} (e : rs[i]? = some r) : ∃ t, ts[i]? = some t ∧ H t = some (.lst (r.map V.int)) := by
  have hi := at_lt e
  rw [← h.len] at hi
  obtain ⟨t, e2⟩ := at_some hi
  exact ⟨t, e2, h.at' i t r e2 e⟩
theorem flat_in {rs : List (List Int)} {r : List Int} (m : r ∈ rs) : r.length ≤ rs.flatten.length := room_le_flat rs r m
theorem full_snoc {rs : List (List Int)} {i : Nat} {r : List Int} (e : rs[i]? = some r) : lensD (rs.take (i + 1)) = if r = [] then lensD (rs.take i) else lensD (rs.take i) ++ [(r.length : Int)] := by
  unfold lensD full
  rw [take_snoc e, List.filter_append]
  cases r with
  | nil => rw [List.filter_cons_of_neg (by simp), List.filter_nil, List.append_nil, if_pos rfl]
  | cons x r => rw [List.filter_cons_of_pos (by simp), List.filter_nil, List.map_append, if_neg (by simp)]; rfl
theorem lensD_len (rs : List (List Int)) : (lensD rs).length ≤ rs.length := by
  unfold lensD full
  rw [List.length_map]
  exact List.length_filter_le _ _
end El
namespace El
open PySem PySem.Spec PyProof.Rows L2
theorem map_erase {α β : Type} (f : α → β) : ∀ (l : List α) (k : Nat), (l.map f).eraseIdx k = (l.eraseIdx k).map f
  | [], _ => rfl
  | a :: l, 0 => rfl
  | a :: l, k + 1 => by
    show f a :: (l.map f).eraseIdx k = f a :: (l.eraseIdx k).map f
    rw [map_erase f l k]
theorem RdAt.keepOn {H H' : Hp} {a : Addr} {ts : List Addr} {rs : List (List Int)} (h : RdAt H a ts rs) (k : ∀ b u, (b = a ∨ b ∈ ts) → H b = some u → H' b = some u) : RdAt H' a ts rs :=
  ⟨k _ _ (.inl rfl) h.top, h.len, fun i t r e f => k _ _ (.inr (List.mem_of_getElem? e)) (h.at' i t r e f)⟩
theorem RdAt.pop {H : Hp} {o : Addr} {ts : List Addr} {rs : List (List Int)} (h : RdAt H o ts rs) (hn : o ∉ ts) (k : Nat) : RdAt (upd H o (.lst ((ts.map V.ref).eraseIdx k))) o (ts.eraseIdx k) (rs.eraseIdx k) := by
  refine ⟨by rw [upd_same, map_erase], ?_, fun i t r e1 e2 => ?_⟩
  · rw [List.length_eraseIdx, List.length_eraseIdx, h.len]
  · have nt : t ≠ o := fun z => hn (z ▸ List.mem_of_mem_eraseIdx (List.mem_of_getElem? e1))
    rw [upd_ne nt]
    rw [List.getElem?_eraseIdx] at e1 e2
    split at e1
    · rename_i hi
      rw [if_pos hi] at e2
      exact h.at' _ _ _ e1 e2
    · rename_i hi
      rw [if_neg hi] at e2
      exact h.at' _ _ _ e1 e2
theorem RdAt.cat {H : Hp} {o1 o2 c : Addr} {ts1 ts2 : List Addr} {rs1 rs2 : List (List Int)} (h1 : RdAt H o1 ts1 rs1) (h2 : RdAt H o2 ts2 rs2) (hc : H c = none) :
    RdAt (upd H c (.lst (ts1.map V.ref ++ ts2.map V.ref))) c (ts1 ++ ts2) (rs1 ++ rs2) := by
  refine ⟨by rw [upd_same, List.map_append], by rw [List.length_append, List.length_append, h1.len, h2.len], fun i t r e1 e2 => ?_⟩
  by_cases hi : i < ts1.length
  · rw [List.getElem?_append_left hi] at e1
    rw [List.getElem?_append_left (by rw [← h1.len]; exact hi)] at e2
    exact same_new hc _ _ (h1.at' i t r e1 e2)
  · rw [List.getElem?_append_right (by omega)] at e1
    rw [List.getElem?_append_right (by rw [← h1.len]; omega), ← h1.len] at e2
    exact same_new hc _ _ (h2.at' _ t r e1 e2)
theorem RdAt.there {H : Hp} {o : Addr} {ts : List Addr} {rs : List (List Int)} (h : RdAt H o ts rs) : ∀ t ∈ ts, ∃ x, H t = some x := fun t m => by
  obtain ⟨i, e⟩ := List.mem_iff_getElem?.mp m
  have hl := at_lt e
  rw [h.len] at hl
  obtain ⟨r, er⟩ := at_some hl
  exact ⟨_, h.at' i t r e er⟩
theorem flat_snoc (rs : List (List Int)) (r : List Int) : (rs ++ [r]).flatten = rs.flatten ++ r := by
  rw [List.flatten_append, List.flatten_cons, List.flatten_nil, List.append_nil]
theorem flat_erase {rs : List (List Int)} {k : Nat} {r : List Int} (e : rs[k]? = some r) : (r ++ (rs.eraseIdx k).flatten).Perm rs.flatten := (erase_perm e).flatten
theorem flat_nils (n : Nat) : (List.replicate n ([] : List Int)).flatten = [] := by
  induction n with
  | zero => rfl
  | succ n ih => rw [List.replicate_succ, List.flatten_cons, ih]; rfl
end El
namespace El
theorem flat_set : ∀ {rs : List (List Int)} {i : Nat} {r : List Int} (a : Int), rs[i]? = some r → (rs.set i (r ++ [a])).flatten.Perm (a :: rs.flatten)
  | [], _, _, _, e => by simp at e
  | s :: rs, 0, r, a, e => by
    obtain rfl : s = r := Option.some.inj e
    show ((s ++ [a]) :: rs).flatten.Perm _
    rw [List.flatten_cons, List.flatten_cons, List.append_assoc]
    exact List.perm_middle
  | s :: rs, i + 1, r, a, e => by
    show (s :: rs.set i (r ++ [a])).flatten.Perm _
    rw [List.flatten_cons, List.flatten_cons]
    exact ((flat_set a (by simpa using e)).append_left s).trans List.perm_middle
/-- the k-th one fuller, as its parts -/
theorem parts_set {α : Type} {rs : List α} {k : Nat} {r x : α} (e : rs[k]? = some r) : rs.take k ++ [x] ++ rs.drop (k + 1) = rs.set k x := by
  have hk := (List.getElem?_eq_some_iff.mp e).1
  rw [List.set_eq_take_append_cons_drop, if_pos hk, List.append_assoc]
  rfl
def fct : Nat → Nat
  | 0 => 1
  | n + 1 => fct n * (n + 1)
theorem fct_le : ∀ {i : Nat}, i ≤ 6 → fct i ≤ 720
  | 0, _ => by decide
  | 1, _ => by decide
  | 2, _ => by decide
  | 3, _ => by decide
  | 4, _ => by decide
  | 5, _ => by decide
  | 6, _ => by decide
  | n + 7, h => absurd h (by omega)
end El
namespace El
theorem flat_pop : ∀ {rs : List (List Int)} {i k : Nat} {r : List Int} {x : Int}, rs[i]? = some r → r[k]? = some x → (x :: (rs.set i (r.eraseIdx k)).flatten).Perm rs.flatten
  | [], _, _, _, _, e, _ => by simp at e
  | s :: rs, 0, k, r, x, e, e2 => by
    obtain rfl : s = r := Option.some.inj e
    show (x :: (s.eraseIdx k :: rs).flatten).Perm _
    rw [List.flatten_cons, List.flatten_cons]
    exact (erase_perm e2).append_right rs.flatten
  | s :: rs, i + 1, k, r, x, e, e2 => by
    show (x :: (s :: rs.set i (r.eraseIdx k)).flatten).Perm _
    rw [List.flatten_cons, List.flatten_cons]
    exact List.perm_middle.symm.trans ((flat_pop (by simpa using e) e2).append_left s)
end El
namespace El
open PySem PySem.Spec PyProof.Rows L2
/-- [f(x) for x in L], ints to ints -/
theorem lc_ints {K : PySem.W.Frag} {a D : Addr} {L : List Int} {i : Nat} {te : TE} {vs : List Nat} {σ : L2.St} {H1 : Hp} {Qd : Hp → Prop} (f : Int → Int) (hL : H1 a = some (.lst (L.map V.int))) (hD : H1 D = none) (hl : L.length ≤ 1000)
    (he : ∀ (k : Nat) (z : Int) (H' : Hp), L[k]? = some z → Same H1 H' → ∀ Q : VK, Q (.int (f z)) H' → te ((wipe σ vs).set i (some (.int z))) H' Q) (hw : ∀ z : Int, wipe ((wipe σ vs).set i (some (.int z))) vs = wipe σ vs)
    (hd : ∀ H2, Same H1 H2 → H2 D = some (.lst ((L.map f).map V.int)) → Qd H2) :
    ∃ W : Nat → Nat → Hp → Prop, (∃ m, W 0 m (upd H1 D (.lst []))) ∧ ∀ k m H, W k m H →
      ((Itl K a).stop k H ∧ Qd H) ∨ ((Itl K a).go k H ∧ ∃ Nx : Hp → Prop, (∀ H', Nx H' → ∃ m', m' < m ∧ W (k + 1) m' H') ∧ ∀ x H', (Itl K a).yld k H x H' → gName i x (wipe σ vs) H' fun σ2 H2 => wipe σ2 vs = wipe σ vs ∧ tYes σ2 H2 fun b H3 =>
        if b = true then te σ2 H3 fun y H4 => ∃ acc, H4 D = some (.lst acc) ∧ acc.length < sizeLine ∧ Nx (upd H4 D (.lst (acc ++ [y]))) else Nx H3) := by
  refine lc_it (walk_list (xs := L.map V.int)) (fun k H2 => Same H1 H2 ∧ H2 D = some (.lst (((L.take k).map f).map V.int))) ⟨same_new hD, upd_same⟩ (fun k H2 _ hW => ?_) (fun k x H2 H3 hk hW hY => ?_) (fun H2 hW => ?_)
  · exact SqL.of (hW.1 _ _ hL)
  · obtain ⟨sm, e⟩ := hW
    obtain ⟨rfl, hx⟩ := hY
    obtain ⟨z, ez, rfl⟩ := ints_at hx
    refine ⟨hw z, he k z H3 ez sm _ ⟨_, e, ils (by rw [List.length_map, List.length_map, List.length_take]; omega), Same.mut sm hD, ?_⟩⟩
    rw [upd_same, take_snoc ez, List.map_append, List.map_append]
    rfl
  · obtain ⟨sm, e⟩ := hW
    rw [List.length_map, take_full] at e
    exact hd H2 sm e
/-- [f(room) for room in rs], lists of ints to ints -/
theorem lc_rows {K : PySem.W.Frag} {a D : Addr} {us : List Addr} {rs : List (List Int)} {i : Nat} {te : TE} {vs : List Nat} {σ : L2.St} {H1 : Hp} {Qd : Hp → Prop} (f : List Int → Int) (hR : RdAt H1 a us rs) (hD : H1 D = none) (hl : rs.length ≤ 1000)
    (he : ∀ (t : Addr) (r : List Int) (H' : Hp), r ∈ rs → H' t = some (.lst (r.map V.int)) → ∀ Q : VK, Q (.int (f r)) H' → te ((wipe σ vs).set i (some (.ref t))) H' Q) (hw : ∀ t : Addr, wipe ((wipe σ vs).set i (some (.ref t))) vs = wipe σ vs)
    (hd : ∀ H2, Same H1 H2 → H2 D = some (.lst ((rs.map f).map V.int)) → Qd H2) :
    ∃ W : Nat → Nat → Hp → Prop, (∃ m, W 0 m (upd H1 D (.lst []))) ∧ ∀ k m H, W k m H →
      ((Itl K a).stop k H ∧ Qd H) ∨ ((Itl K a).go k H ∧ ∃ Nx : Hp → Prop, (∀ H', Nx H' → ∃ m', m' < m ∧ W (k + 1) m' H') ∧ ∀ x H', (Itl K a).yld k H x H' → gName i x (wipe σ vs) H' fun σ2 H2 => wipe σ2 vs = wipe σ vs ∧ tYes σ2 H2 fun b H3 =>
        if b = true then te σ2 H3 fun y H4 => ∃ acc, H4 D = some (.lst acc) ∧ acc.length < sizeLine ∧ Nx (upd H4 D (.lst (acc ++ [y]))) else Nx H3) := by
  refine lc_it (walk_list (xs := us.map V.ref)) (fun k H2 => Same H1 H2 ∧ H2 D = some (.lst (((rs.take k).map f).map V.int))) ⟨same_new hD, upd_same⟩ (fun k H2 _ hW => ?_) (fun k x H2 H3 hk hW hY => ?_) (fun H2 hW => ?_)
  · exact (hR.same hW.1).seq
  · obtain ⟨sm, e⟩ := hW
    obtain ⟨rfl, hx⟩ := hY
    obtain ⟨t, r, rfl, _, er, et⟩ := (hR.same sm).get hx
    refine ⟨hw t, he t r H3 (List.mem_of_getElem? er) et _ ⟨_, e, ils (by rw [List.length_map, List.length_map, List.length_take]; omega), Same.mut sm hD, ?_⟩⟩
    rw [upd_same, take_snoc er, List.map_append, List.map_append]
    rfl
  · obtain ⟨sm, e⟩ := hW
    rw [List.length_map, hR.len, take_full] at e
    exact hd H2 sm e
end El
namespace El
open PySem PySem.Spec PyProof.Rows L2
/-- [f(a, b) for a, b in gs], pairs of ints to ints -/
theorem lc_prs {K : PySem.W.Frag} {B : Addr → Prop} {a D : Addr} {ts : List Addr} {gs : List (Int × Int)} {i j : Nat} {te : TE} {vs : List Nat} {σ : L2.St} {H1 : Hp} {Qd : Hp → Prop} (f : Int × Int → Int) (hG : GsAt H1 B a ts gs) (hD : H1 D = none) (hl : gs.length ≤ 1000)
    (he : ∀ (z : Int × Int) (H' : Hp), z ∈ gs → Same H1 H' → ∀ Q : VK, Q (.int (f z)) H' → te (((wipe σ vs).set i (some (.int z.1))).set j (some (.int z.2))) H' Q) (hw : ∀ z : Int × Int, wipe (((wipe σ vs).set i (some (.int z.1))).set j (some (.int z.2))) vs = wipe σ vs)
    (hd : ∀ H2, Same H1 H2 → H2 D = some (.lst ((gs.map f).map V.int)) → Qd H2) :
    ∃ W : Nat → Nat → Hp → Prop, (∃ m, W 0 m (upd H1 D (.lst []))) ∧ ∀ k m H, W k m H →
      ((Itl K a).stop k H ∧ Qd H) ∨ ((Itl K a).go k H ∧ ∃ Nx : Hp → Prop, (∀ H', Nx H' → ∃ m', m' < m ∧ W (k + 1) m' H') ∧ ∀ x H', (Itl K a).yld k H x H' → gTup K 2 (gCons (gName i) (gCons (gName j) gNil)) x (wipe σ vs) H' fun σ2 H2 => wipe σ2 vs = wipe σ vs ∧ tYes σ2 H2 fun b H3 =>
        if b = true then te σ2 H3 fun y H4 => ∃ acc, H4 D = some (.lst acc) ∧ acc.length < sizeLine ∧ Nx (upd H4 D (.lst (acc ++ [y]))) else Nx H3) := by
  refine lc_it (walk_list (xs := ts.map V.ref)) (fun k H2 => Same H1 H2 ∧ H2 D = some (.lst (((gs.take k).map f).map V.int))) ⟨same_new hD, upd_same⟩ (fun k H2 _ hW => ?_) (fun k x H2 H3 hk hW hY => ?_) (fun H2 hW => ?_)
  · exact (hG.same hW.1).seq
  · obtain ⟨sm, e⟩ := hW
    obtain ⟨rfl, hx⟩ := hY
    obtain ⟨t, z, rfl, ez, et⟩ := (hG.same sm).get hx
    refine ⟨t, _, rfl, SqT.of et, rfl, .int z.1, _, rfl, .int z.2, _, rfl, rfl, ?_⟩
    refine ⟨hw z, he z H3 (List.mem_of_getElem? ez) sm _ ⟨_, e, ils (by rw [List.length_map, List.length_map, List.length_take]; omega), Same.mut sm hD, ?_⟩⟩
    rw [upd_same, take_snoc ez, List.map_append, List.map_append]
    rfl
  · obtain ⟨sm, e⟩ := hW
    rw [List.length_map, hG.len, take_full] at e
    exact hd H2 sm e
theorem GsAt.top' {H : Hp} {B : Addr → Prop} {a : Addr} {ts : List Addr} {gs : List (Int × Int)} (h : GsAt H B a ts gs) {b : Addr} (e : H b = some (.lst (ts.map V.ref))) : GsAt H (fun _ => True) b ts gs := ⟨e, trivial, h.len, h.at', fun _ _ => trivial⟩
/-- a pair of a list of pairs, by its place -/
theorem GsAt.at_ {H : Hp} {B : Addr → Prop} {a : Addr} {ts : List Addr} {gs : List (Int × Int)} (h : GsAt H B a ts gs) {i : Nat} {g : Int × Int} (e : gs[i]? = some g) : ∃ t, (ts.map V.ref)[i]? = some (.ref t) ∧ H t = some (.tup [.int g.1, .int g.2]) := by
  have hl := at_lt e
  rw [← h.len] at hl
  obtain ⟨t, e2⟩ := at_some hl
  exact ⟨t, by rw [List.getElem?_map, e2]; rfl, h.at' i t g e2 e⟩
theorem pick2 {P : Int → Prop} {a b r : Int} (h0 : 0 ≤ r) (h1 : r < 2) (pa : P a) (pb : P b) : ∃ v : Int, atI [V.int a, .int b] r = some (.int v) ∧ P v := by
  obtain ⟨v, hv, mv⟩ := at_pick (xs := [V.int a, .int b]) h0 h1
  rcases List.mem_cons.mp mv with rfl | mv
  · exact ⟨_, hv, pa⟩
  · obtain rfl := List.mem_singleton.mp mv
    exact ⟨_, hv, pb⟩
theorem pick3 {P : Int → Prop} {a b c r : Int} (h0 : 0 ≤ r) (h1 : r < 3) (pa : P a) (pb : P b) (pc : P c) : ∃ v : Int, atI [V.int a, .int b, .int c] r = some (.int v) ∧ P v := by
  obtain ⟨v, hv, mv⟩ := at_pick (xs := [V.int a, .int b, .int c]) h0 h1
  rcases List.mem_cons.mp mv with rfl | mv
  · exact ⟨_, hv, pa⟩
  rcases List.mem_cons.mp mv with rfl | mv
  · exact ⟨_, hv, pb⟩
  · obtain rfl := List.mem_singleton.mp mv
    exact ⟨_, hv, pc⟩
theorem pick4 {P : Int → Prop} {a b c d r : Int} (h0 : 0 ≤ r) (h1 : r < 4) (pa : P a) (pb : P b) (pc : P c) (pd : P d) : ∃ v : Int, atI [V.int a, .int b, .int c, .int d] r = some (.int v) ∧ P v := by
  obtain ⟨v, hv, mv⟩ := at_pick (xs := [V.int a, .int b, .int c, .int d]) h0 h1
  rcases List.mem_cons.mp mv with rfl | mv
  · exact ⟨_, hv, pa⟩
  rcases List.mem_cons.mp mv with rfl | mv
  · exact ⟨_, hv, pb⟩
  rcases List.mem_cons.mp mv with rfl | mv
  · exact ⟨_, hv, pc⟩
  · obtain rfl := List.mem_singleton.mp mv
    exact ⟨_, hv, pd⟩
theorem pickL {P : Int → Prop} {L : List Int} {r : Int} (h0 : 0 ≤ r) (h1 : r < L.length) (p : ∀ x ∈ L, P x) : ∃ v : Int, atI (L.map V.int) r = some (.int v) ∧ P v := by
  obtain ⟨v, hv, mv⟩ := at_pick (xs := L.map V.int) h0 (by rw [List.length_map]; exact h1)
  obtain ⟨x, mx, rfl⟩ := List.mem_map.mp mv
  exact ⟨x, hv, p x mx⟩
/-- pairs that stand at these, whatever list tells them -/
structure Prs (H : Hp) (ts : List Addr) (gs : List (Int × Int)) : Prop where
  len : ts.length = gs.length
  at' : ∀ (i : Nat) (t : Addr) (g : Int × Int), ts[i]? = some t → gs[i]? = some g → H t = some (.tup [.int g.1, .int g.2])
theorem GsAt.pr {H : Hp} {B : Addr → Prop} {a : Addr} {ts : List Addr} {gs : List (Int × Int)} (h : GsAt H B a ts gs) : Prs H ts gs := ⟨h.len, h.at'⟩
theorem Prs.gs {H : Hp} {a : Addr} {ts : List Addr} {gs : List (Int × Int)} (h : Prs H ts gs) (e : H a = some (.lst (ts.map V.ref))) : GsAt H (fun _ => True) a ts gs := ⟨e, trivial, h.len, h.at', fun _ _ => trivial⟩
theorem Prs.same {H H' : Hp} {ts : List Addr} {gs : List (Int × Int)} (h : Prs H ts gs) (k : Same H H') : Prs H' ts gs := ⟨h.len, fun i t g e f => k _ _ (h.at' i t g e f)⟩
theorem Prs.nil {H : Hp} : Prs H [] [] := ⟨rfl, fun i t g e _ => by simp at e⟩
theorem Prs.cons {H : Hp} {t : Addr} {g : Int × Int} {ts : List Addr} {gs : List (Int × Int)} (e : H t = some (.tup [.int g.1, .int g.2])) (h : Prs H ts gs) : Prs H (t :: ts) (g :: gs) := by
  refine ⟨by rw [List.length_cons, List.length_cons, h.len], fun i u x e1 e2 => ?_⟩
  cases i with
  | zero =>
    obtain rfl : t = u := Option.some.inj e1
    obtain rfl : g = x := Option.some.inj e2
    exact e
  | succ i => exact h.at' i u x (by simpa using e1) (by simpa using e2)
theorem Prs.cat {H : Hp} {ts us : List Addr} {gs hs : List (Int × Int)} (h : Prs H ts gs) (k : Prs H us hs) : Prs H (ts ++ us) (gs ++ hs) := by
  refine ⟨by rw [List.length_append, List.length_append, h.len, k.len], fun i t r e1 e2 => ?_⟩
  by_cases hi : i < ts.length
  · rw [List.getElem?_append_left hi] at e1
    rw [List.getElem?_append_left (by rw [← h.len]; exact hi)] at e2
    exact h.at' i t r e1 e2
  · rw [List.getElem?_append_right (by omega)] at e1
    rw [List.getElem?_append_right (by rw [← h.len]; omega), ← h.len] at e2
    exact k.at' _ t r e1 e2
theorem Prs.take {H : Hp} {ts : List Addr} {gs : List (Int × Int)} (h : Prs H ts gs) (n : Nat) : Prs H (ts.take n) (gs.take n) := by
  refine ⟨by rw [List.length_take, List.length_take, h.len], fun i t r e1 e2 => ?_⟩
  rw [List.getElem?_take] at e1 e2
  split at e1
  · rename_i hi
    rw [if_pos hi] at e2
    exact h.at' i t r e1 e2
  · cases e1
theorem Prs.drop {H : Hp} {ts : List Addr} {gs : List (Int × Int)} (h : Prs H ts gs) (n : Nat) : Prs H (ts.drop n) (gs.drop n) := by
  refine ⟨by rw [List.length_drop, List.length_drop, h.len], fun i t r e1 e2 => ?_⟩
  rw [List.getElem?_drop] at e1 e2
  exact h.at' _ t r e1 e2
theorem cutFrom (xs : List V) (j : Nat) : cutV xs (some (j : Int)) none = xs.drop j := by
  unfold cutV
  rw [HT.sIx_none, HT.sIx_nat]
  show (List.drop (min j xs.length) xs).take (xs.length - min j xs.length) = _
  by_cases h : j ≤ xs.length
  · rw [Nat.min_eq_left h, List.take_of_length_le (by rw [List.length_drop]; omega)]
  · rw [Nat.min_eq_right (by omega), List.drop_of_length_le (Nat.le_refl _), List.drop_of_length_le (show xs.length ≤ j by omega), List.take_nil]
theorem iteX {c : Bool} {A B : Prop} (hc : c = false) (h : B) : if c = true then A else B := by
  rw [hc]
  exact iteF h
theorem nd_self (x : V) : (!decide (x = x)) = false := by rw [decide_eq_true rfl]; rfl
theorem log2_lt {x : Int} {k : Nat} (h0 : 0 ≤ x) (h1 : x < 2 ^ k) (hk : 0 < k) : x.natAbs.log2 < k := by
  by_cases h4 : x.natAbs = 0
  · rw [h4]; exact Nat.lt_of_le_of_lt (by decide) hk
  · refine (Nat.log2_lt h4).mpr ?_
    have : ((x.natAbs : Nat) : Int) < ((2 ^ k : Nat) : Int) := by
      rw [show ((x.natAbs : Nat) : Int) = x by omega]
      exact_mod_cast h1
    exact_mod_cast this
theorem part_at {gs : List (Int × Int)} {i : Nat} {g : Int × Int} (e : gs[i]? = some g) : gs = gs.take i ++ [g] ++ gs.drop (i + 1) := by
  have hi := at_lt e
  have h2 := List.getElem_cons_drop (as := gs) (i := i) hi
  rw [List.getElem?_eq_getElem hi] at e
  rw [Option.some.inj e] at h2
  rw [List.append_assoc]
  show gs = gs.take i ++ (g :: gs.drop (i + 1))
  rw [h2, List.take_append_drop]
theorem rg0 {i : Nat} {x : V} (h : x = V.int (0 + (i : Int))) : x = V.int (i : Int) := by
  rw [h, Int.zero_add]
end El
namespace El
open PySem PySem.Spec PyProof.Rows L2
/-! ### raising, where it is kept that the exception's context is None -/
theorem takes0N {X : Cx} : L2N.Takes X (fun _ _ _ _ => False) := fun _ _ y => by
  obtain ⟨_, _, _, _, _, _, _, _, _, _, _, _, _, _, _, _, no⟩ := y
  exact no.elim
section
variable {P : Program} {w : World} {K : PySem.W.Frag} {mg : Str → Option Value} {base : Heap}
/-- a def that may raise so -/
theorem okN {x qual : Str} {st : Stmt} {f : Addr} {fd : FuncData} {N ps : List Str} {k : Nat} {sp : Sp} (F : Fun K x qual st f fd) (S : FnScope N ps (defScope st)) (len : ∀ vs H Q E, sp vs H Q E → vs.length = ps.length)
    (body : ∀ (cdv : Value) (A : Around) (outer : List Env) (s : Shared) (H : Hp) (vs : List V) (Q : VK) (E : XK), Room k (A.deeper (envOfC qual (defScope st) s.heap.objs.size f cdv)) → sp vs H Q E →
      ∃ t, PSs (cxOf (L2N.CX P w) P w K mg base N qual (defScope st) f cdv A outer s H E) (defBody st) t ∧ t { nx := fun _ H' => Q .non H', rt := Q } (start N vs) H) : FnOk P w K mg base (L2N.CX P w) (k + 1) f fd ps sp := by
  obtain ⟨oc, od, kV, doc, pm, an, cdv, ct, osl, rfl, look, code⟩ := F.ex
  exact fn_of look code S len (body cdv)
end
section
variable {X : Cx} {C fI : Addr} {k : Nat} {fd : FuncData} {ps : List Str} {sp : Sp} {x : Str} {e : Expr} {es : List Expr} {ta : TA} {p pos : Pos}
/-- C(e, ..): a new exception, nothing behind it -/
theorem pmkN (T : OexC X.K C) (iC : PySem.W.findIn X.K (.ref C) "__init__" = some (some (.ref fI))) (tI : PySem.W.typeIn X.K (.ref fI) = some (.type "function")) (G : FnOk X.prog X.w X.K X.mg X.base CX0 k fI fd ps sp) (hr : Room (k + 1) X.A) (b : Binds X.K fd ps []) (hg : Gl X x) (hm : X.mg x = some (.ref C))
    (ha : PA X (e :: es) ta) (hdb : (x == ("__debug__" : Str)) = false := by decide) (he : starEach (e :: es) X.env = (false, eval e X.env) :: starEach es X.env := by rfl) (hpl : (backTo pos (starEach es X.env)).any (·.1) = false := by rfl) :
    L2N.PMk X (.Call (.Name x p) (e :: es) [] pos) (tMkO C sp [] ta) := by
  intro pins s σ H Q I asks
  obtain ⟨nm, q, N, bl, bm, sn, sub, ab, col, dd, k0, k1, k2, k3, k5, cls, hbm⟩ := T.cls
  apply wpAny_Call_Name_kw
  apply ld_glob I hg hm _ hdb
  refine PySem.W.callWith_K (h₀ := X.base) I.ok.mod.kin T.kC (wpAny_mono (ha.run pos pins s σ H _ I asks) (fun us s1 got => ?_) fun _ _ err => err) he hpl
  obtain ⟨vs, H1, I1, rv, few, q1⟩ := got
  refine ⟨I1.kIn, ?_⟩
  show wpAny _ _ (call (.ref C) us) _ _ _
  have clsN := I1.kIn _ _ cls
  have n1 : H1 (s1.heap.objs.size + 1) = none := I1.hok.fresh (Nat.le_succ _)
  have told := q1 _ n1
  have up : ∀ b o, s1.heap.get? b = some o → ((s1.heap.push (PySem.W.kdv_tup us)).push (PySem.HandSPX.excO C s1.heap.objs.size)).get? b = some o := fun _ _ z => Heap.get?_push_of_some _ (Heap.get?_push_of_some _ z)
  have new : ((s1.heap.push (PySem.W.kdv_tup us)).push (PySem.HandSPX.excO C s1.heap.objs.size)).get? (s1.heap.objs.size + 1) = some (PySem.HandSPX.excO C s1.heap.objs.size) := by heap_get
  have I2 : Inv X pins σ (upd H1 (s1.heap.objs.size + 1) (exo (s1.heap.objs.size + 1) C none)) { s1 with heap := (s1.heap.push (PySem.W.kdv_tup us)).push (PySem.HandSPX.excO C s1.heap.objs.size) } :=
    I1.laid (t' := s1.toks) (a := s1.heap.objs.size + 1) (o := exo (s1.heap.objs.size + 1) C none) up (Nat.le_succ _) (exo_ok new)
  rw [List.append_nil] at told
  have rAll : Vals (V.ref (s1.heap.objs.size + 1) :: vs) (Value.ref (s1.heap.objs.size + 1) :: us) := .cons rfl rv
  have ln : (Value.ref (s1.heap.objs.size + 1) :: us).length = ps.length := rAll.length.symm.trans (G.len _ _ _ _ told)
  have bound := b { s1 with heap := (s1.heap.push (PySem.W.kdv_tup us)).push (PySem.HandSPX.excO C s1.heap.objs.size) } (Value.ref (s1.heap.objs.size + 1) :: us) I2.kIn (by rw [List.append_nil]; exact ln)
  rw [List.append_nil] at bound
  have small : us.length ≤ sizeLine := by
    rw [← Paired.length rv]
    exact ile (Nat.le_trans few (by decide))
  refine wpAny_call (PySem.HandSPX.call_own F.excBase_ValueError (fun Y => PySem.HandSPX.refsVE_contains Y bm hbm) clsN (PySem.W.looks_findIn I1.kIn iC) (fun me => PySem.W.bind_fn I1.kIn me tI) small ?_)
  refine codeAny_mono (G.run _ X.stack _ _ ⟨Value.ref (s1.heap.objs.size + 1) :: us, []⟩ _ _ _ (fun _ _ _ => False) (hr.make C us []) (I2.env0.make C us []) bound rAll told) fun r s2 done => ?_
  match r, done with
  | .ok (.ret y), done =>
    obtain ⟨v2, H2, os2, bare2, un2, hok2, ry, ey, d, fs, ea, ed, nd, q2⟩ := done
    subst ey
    obtain ⟨hp2, g2, d2, t2, os3⟩ := s2
    obtain ⟨hp1, g1, d1, t1, os1⟩ := s1
    obtain ⟨t0, G2, J, kG, ge, hoe, na⟩ := mk_end0 (d2 := d2) (t2 := t2) I1 (Nat.le_succ _) up un2 hok2 os2 bare2 ea ed nd
    exact ⟨ry, _, _, _, ⟨G2, g2, d2, t2, os3⟩, _, .ref C, some d, rfl, J, kG, ge, hoe, ⟨rfl, rfl, fun fv z => by cases z; rfl⟩, rfl, rfl, na, rfl, bare2, raises_own T.exC T.tyC, q2⟩
  | .error er, done => exact pass0 pins σ _ _ er s2 I2 done
end
end El
namespace El
open PySem PySem.Spec PyProof.Rows L2
/-! ### the program's own errors: InnError over ValueError, and those over InnError, each with what -/
/-- a def that may raise, as callers see it -/
structure DfX (P : Program) (w : World) (K : PySem.W.Frag) (mg : Str → Option Value) (base : Heap) (k : Nat) (x : Str) (ps : List Str) (st : Stmt) (sp : Sp) : Prop where
  ex : ∃ (f : Addr) (fd : FuncData), Fun K x x st f fd ∧ mg x = some (.ref f) ∧ FnOk P w K mg base (L2N.CX P w) k f fd ps sp ∧ Binds K fd ps []
theorem At.dfx {P : Program} {w : World} {K : PySem.W.Frag} {mg : Str → Option Value} {base : Heap} {k : Nat} {x : Str} {ps : List Str} {st : Stmt} {sp : Sp} (A : At K mg x ps st)
    (h : ∀ f fd, Fun K x x st f fd → FnOk P w K mg base (L2N.CX P w) k f fd ps sp) : DfX P w K mg base k x ps st sp := by
  obtain ⟨f, fd, F, m, b⟩ := A.ex
  exact ⟨f, fd, F, m, h f fd F, b⟩
section
variable {X : Cx} {k : Nat} {x : Str} {ps : List Str} {st : Stmt} {sp : Sp} {p pos : Pos} {e : Expr} {es : List Expr} {kws : List Keyword} {t tk : TA} {W : WX}
/-- f(..) of such a def, what it raises as W tells -/
theorem pe_dfS (D : DfX X.prog X.w X.K X.mg X.base k x ps st sp) (tk : L2N.Takes X W) (hr : Room k X.A) (hg : Gl X x) (ha : PA X (e :: es) t) (hdb : (x == ("__debug__" : Str)) = false := by decide)
    (he : starEach (e :: es) X.env = (false, eval e X.env) :: starEach es X.env := by rfl) (hpl : (backTo pos (starEach es X.env)).any (·.1) = false := by rfl) : PE X (.Call (.Name x p) (e :: es) [] pos) (tCallS sp (WE W) t) := by
  obtain ⟨f, fd, F, m, G, b⟩ := D.ex
  exact pe_callS G hr hg m F.kp b (fun σ => L2N.passAt tk σ) ha hdb he hpl
/-- f(..) of such a def where nothing is raised -/
theorem pe_dfN (D : DfX X.prog X.w X.K X.mg X.base k x ps st sp) (hr : Room k X.A) (hg : Gl X x) (ha : PA X (e :: es) t) (hdb : (x == ("__debug__" : Str)) = false := by decide)
    (he : starEach (e :: es) X.env = (false, eval e X.env) :: starEach es X.env := by rfl) (hpl : (backTo pos (starEach es X.env)).any (·.1) = false := by rfl) : PE X (.Call (.Name x p) (e :: es) [] pos) (tCall sp [] E0 t) := by
  obtain ⟨f, fd, F, m, G, b⟩ := D.ex
  refine pe_call G hr hg m F.kp b .nil (fun pins σ H s v s' I c => ?_) ha hdb he hpl
  obtain ⟨_, _, _, _, _, _, _, _, _, _, _, _, z⟩ := c
  exact z.elim
def tCallWS (n : Nat) (sp : Sp) (W : WX) (g : List V → List V) (tk : TA) : TE := fun σ H Q => tk σ H fun zs H2 => zs.length = n ∧ sp (g zs) H2 Q (fun cls d H => W cls d σ H)
end
/-! ### InnError.__init__(self, ..) -/
structure InnC (K : PySem.W.Frag) (mg : Str → Option Value) (C0 : Addr) : Prop where
  g : mg "InnError" = some (.ref C0)
  rd : PySem.W.readsIn K C0 (.type "type") = true
  ga : PySem.W.specialIn K (.ref C0) "__getattribute__" = some (some (.builtin "type.__getattribute__"))
  i : PySem.W.findCls K (.ref C0) (.type "type") "__init__" = some (.val (.builtin "ValueError.__init__"))
section
variable {X : Cx} {C0 : Addr} {e : Expr} {es : List Expr} {ta : TA} {p1 p2 pos : Pos}
theorem pe_ownI {pl : Sem Bool} (T : InnC X.K X.mg C0) (ha : PA X (e :: es) ta) (hg : Gl X "InnError" := by rfl)
    (hev : eval (.Call (.Attribute (.Name "InnError" p1) "__init__" p2) (e :: es) [] pos) X.env = (do
      let v0 ← eval (.Name "InnError" p1) X.env
      standAt p2.atName
      let (fn, one) ← holding [v0] (getMethod v0 "__init__" pl)
      callWith pos fn one (backTo pos (starEach (e :: es) X.env)) (backToKw pos (keywordEach [] X.env))) := by rfl)
    (hse : starEach (e :: es) X.env = (false, eval e X.env) :: starEach es X.env := by rfl) (hpl : (backTo pos (starEach es X.env)).any (·.1) = false := by rfl) :
    PE X (.Call (.Attribute (.Name "InnError" p1) "__init__" p2) (e :: es) [] pos) (tVeI X.K ta) := by
  refine ⟨fun pins s σ H Q I h => PySem.W.methodCall_KW (ld_glob I hg T.g ?_) hev⟩
  refine PySem.W.method_cls I.kIn T.ga (PySem.W.cls_value I.kIn T.rd T.i rfl ?_)
  show wpAny _ _ (callWith pos (Value.builtin "ValueError.__init__") [] (backTo pos (starEach (e :: es) X.env)) []) _ _ { s with toks := s.toks + 1 }
  refine PyProof.Rows.callWith_method1 (thn (ha.run pos pins _ σ H _ (I.tok _) h) fun us s1 hh => ?_) hse hpl
  obtain ⟨vs, H1, I1, r1, a, C, ws, rfl, hl, T1, ea, q⟩ := hh
  cases r1 with
  | @cons _ u0 _ ur ra rw' =>
    cases ra
    have hz : ur.length ≤ sizeLine := by
      rw [← Paired.length rw']
      exact ile (Nat.le_trans hl (by decide))
    exact oinit_ok T1 I1 ea hz fun s' J => ⟨.non, H1, J, rfl, q⟩
end
/-! ### what the top says of such a class, x its name -/
structure Own (K : PySem.W.Frag) (mg : Str → Option Value) (x : Str) (C fI : Addr) : Prop where
  g : mg x = some (.ref C)
  o : OexC K C
  xf : XfC K C
  no : PySem.W.findIn K (.ref C) "what" = some none
  iC : PySem.W.findIn K (.ref C) "__init__" = some (some (.ref fI))
  tI : PySem.W.typeIn K (.ref fI) = some (.type "function")
  cl : (PySem.W.clsIn K C).isSome = true
  ac : PySem.W.findIn K (.ref C) "__class__" = some (some (.builtin "object.__class__"))
  mo : PySem.W.mroIn K C (.type "object") = some true
/-- what isinstance leans on -/
structure IsX (K : PySem.W.Frag) : Prop where
  hn : PySem.W.specialIn K (.builtin "object.__class__") "__get__" = some (some (.builtin "getset_descriptor.__get__"))
  ht : PySem.W.takesIn K (.builtin "object.__class__") = some true
/-- isinstance(e, c), e the exception that the suite holds, with its dict at d -/
def rIsD (K : PySem.W.Frag) (D a : Addr) : List V → Hp → VK → Prop := fun xs H Q => ∃ (c : V) (cv : Value) (b : Bool), xs = [.ref a, c] ∧ (∀ u, RelV c u → u = cv) ∧ PySem.W.kitOne K (.ref D) cv = some b ∧ Q (.bl b) H
/-- isinstance(e, (c1, ..)) -/
def rIsT (K : PySem.W.Frag) (D a : Addr) : List V → Hp → VK → Prop := fun xs H Q => ∃ (t : Addr) (cs : List V) (cvs : List Value) (b : Bool), xs = [.ref a, .ref t] ∧ SqT K H t cs ∧ (∀ us, Vals cs us → us = cvs) ∧ PySem.W.kitAny K (.ref D) cvs = some b ∧ Q (.bl b) H
section
variable {X : Cx} {a D : Addr} {d : Option Addr} {oe : Obj} {pn : List (Addr × Obj)} {fI : Addr} {x : Str}
theorem own_inst {pins : List (Addr × Obj)} {σ : L2.St} {H : Hp} {s : Shared} {dd : Addr} {fs : List (Str × V)} (hz : Zc (.ref D) (some dd) oe) (hf : ∃ vs, oe.data = .fields vs) (I : Inv (X.suite a ((a, oe) :: pn)) pins σ H s) (ed : H dd = some (.xd fs)) :
    ∃ od, PySem.W.InstAt s.heap a oe D (some od) := by
  obtain ⟨ha, _⟩ := I.pin (a, oe) (List.mem_append_left _ List.mem_cons_self)
  obtain ⟨vs, hd⟩ := hf
  obtain ⟨mA, hns, _⟩ := (show ObjOk X.prog X.w H s.heap dd (.xd fs) from I.hok dd _ ed)
  obtain ⟨od, ho, _⟩ := lookIn_ns hns
  exact ⟨od, ha, hz.1, by unfold PySem.W.notCls; rw [hd] <;> rfl, by rw [hz.2]; exact ho⟩
theorem own_kit {K : PySem.W.Frag} {mg : Str → Option Value} {od : Option Obj} (T : Own K mg x D fI) (J : IsX K) : PySem.W.KitX K (.ref a) (.ref D) (fun h => PySem.W.InstAt h a oe D od) :=
  PySem.W.kitx_exc T.cl T.xf.ga T.xf.gg T.xf.exC T.ac J.hn J.ht T.mo
theorem call_isD {dd : Addr} (T : Own X.K X.mg x D fI) (J : IsX X.K) (hz : Zc (.ref D) (some dd) oe) (hf : ∃ vs, oe.data = .fields vs) :
    CallR (X.suite a ((a, oe) :: pn)) (.builtin "isinstance") (fun xs H Q => (∃ fs, H dd = some (.xd fs)) ∧ (rIsD X.K D a xs H Q ∨ rIsT X.K D a xs H Q)) := by
  intro pins s σ H xs us Q I r h
  obtain ⟨⟨fs, ed⟩, h⟩ := h
  obtain ⟨od, hI⟩ := own_inst hz hf I ed
  rcases h with ⟨c, cv, b, rfl, hcv, e, q⟩ | ⟨t, cs, cvs, b, rfl, hs, hcs, e, q⟩
  · cases r with
    | cons rx rr =>
      cases rr with
      | cons rt rr =>
        cases rr
        cases rx
        obtain rfl := hcv _ rt
        exact PySem.W.kia_one (own_kit T J) I.kIn hI e (fun z => nomatch z) fun tk => ⟨.bl b, H, I.kept (t' := tk) fun _ _ z => z, rfl, q⟩
  · cases r with
    | cons rx rr =>
      cases rr with
      | cons rt rr =>
        cases rr
        cases rx
        cases rt
        obtain ⟨its, rv, ⟨o, ho, hc, n, hd⟩, _⟩ := I.tuple hs
        obtain rfl := hcs _ rv
        obtain ⟨oc, od', oda, osl⟩ := o
        dsimp only at hc hd
        subst hc hd
        exact PySem.W.kia_tup (own_kit T J) I.kIn hI ho e (fun z => nomatch z) fun tk => ⟨.bl b, H, I.kept (t' := tk) fun _ _ z => z, rfl, q⟩
end
/-- the heap behind C(v): all as it was, the dict alone beside -/
theorem mk_heap {H : Hp} {a d : Addr} {x z : HO} {y u : HO} (ha : H a = none) (hd : d ≠ a) : upd (del (upd (upd (upd H a x) d y) a z) a) d u = upd H d u := by
  funext b
  by_cases h1 : b = d
  · rw [h1, upd_same, upd_same]
  · rw [upd_ne h1, upd_ne h1]
    by_cases h2 : b = a
    · rw [h2, del_same, ha]
    · rw [del_ne h2, upd_ne h2, upd_ne h1, upd_ne h2]
/-- an except clause's class -/
theorem te_of {K : PySem.W.Frag} {C0 C : Addr} (h1 : PySem.W.subIn K (.ref C0) (.type "BaseException") = some true) (hd : PySem.W.hasDictIn K C0 = true) (ht : PySem.W.typeIn K (.ref C0) = some (.type "type")) (h4 : PySem.W.subIn K (.ref C) (.ref C0) = some true) : PySem.W.exmOne K (.ref C) (.ref C0) = some true := PySem.W.exm_ref h1 hd ht h4
/-! ### in a suite: the exception's class known at the reading alone -/
def rIsAny (K : PySem.W.Frag) (mg : Str → Option Value) (a : Addr) (cls : Value) (d : Option Addr) : List V → Hp → VK → Prop := fun xs H Q => ∃ (x : Str) (D fI dd : Addr), cls = .ref D ∧ d = some dd ∧ Own K mg x D fI ∧ IsX K ∧ (∃ fs, H dd = some (.xd fs)) ∧ (rIsD K D a xs H Q ∨ rIsT K D a xs H Q)
def tXfAny (K : PySem.W.Frag) (a : Addr) (cls : Value) (d : Option Addr) (f : Str) (te : TE) : TE := fun σ H Q => ∃ C, XfC K C ∧ PySem.W.findIn K (.ref C) f = some none ∧ tXf a cls d C f te σ H Q
section
variable {X : Cx} {a : Addr} {cls : Value} {d : Option Addr} {oe : Obj} {pn : List (Addr × Obj)}
theorem isAnyK (K : PySem.W.Frag) (mg : Str → Option Value) (hz : Zc cls d oe) (hf : ∃ vs, oe.data = .fields vs) (e : X.K = K := by rfl) (e2 : X.mg = mg := by rfl) : CallR (X.suite a ((a, oe) :: pn)) (.builtin "isinstance") (rIsAny K mg a cls d) := by
  subst e
  subst e2
  intro pins s σ H xs us Q I r h
  obtain ⟨x, D, fI, dd, rfl, rfl, T, J, h1, h2⟩ := h
  exact call_isD T J hz hf pins s σ H xs us Q I r ⟨h1, h2⟩
theorem pe_xfA {e : Expr} {te : TE} {pos : Pos} {n : Str} (K : PySem.W.Frag) (hz : Zc cls d oe) (hf : ∃ vs, oe.data = .fields vs) (he : PE (X.suite a ((a, oe) :: pn)) e te) (eK : X.K = K := by rfl) (hb : attributeBase e n X.env (eval e X.env) = eval e X.env := by rfl) :
    PE (X.suite a ((a, oe) :: pn)) (.Attribute e n pos) (tXfAny K a cls d n te) := by
  subst eK
  refine ⟨fun pins s σ H Q I h => ?_⟩
  obtain ⟨C, T, hno, h⟩ := h
  exact (pe_xf (C := C) T hno hz hf he hb).run pins s σ H Q I h
end
/-- xs.count(y), xs of flat things -/
def rCountF (K : PySem.W.Frag) : V → List V → Hp → VK → Prop := fun x xs H Q => ∃ (a : Addr) (ys : List V) (y : V), x = .ref a ∧ xs = [y] ∧ SqL K H a ys ∧ flatV y = true ∧ ys.all flatV = true ∧ Q (.int ((ys.countP fun z => eqV z y : Nat) : Int)) H
theorem countU {y : V} : ∀ {ys : List V} {its : List Value}, Vals ys its → ys.all flatV = true → its.countP (eqU y) = ys.countP fun z => eqV z y
  | _, _, .nil, _ => rfl
  | _, _, .cons (a := z) (b := u) (l₁ := zs) r t, h => by
    have h' : (flatV z && zs.all flatV) = true := h
    obtain ⟨h1, h2⟩ := Bool.and_eq_true_iff.mp h'
    rw [List.countP_cons, List.countP_cons, countU t h2, eqU_of r h1]
section
variable {X : Cx}
theorem mtCountK (K : PySem.W.Frag) (e : X.K = K := by rfl) : MtR X "list.count" (rCountF K) := by
  subst e
  intro pins s σ H x xs v us Q I rx rxs h
  obtain ⟨a, ys, y, rfl, rfl, hs, fy, fys, q⟩ := h
  cases rx
  obtain ⟨u, rfl, ru⟩ := rxs.one
  obtain ⟨its, rv, ⟨⟨cl, dd, da, sl⟩, n, ho, hc, hdn, hd⟩, hlen⟩ := I.list hs
  dsimp only at hc hd
  subst hc hd
  refine call_meets PySem.F.slot_list_count ⟨_, ho, rfl⟩ PySem.F.entry_list_count (PySem.F.args_list_count_2 _ _) (SeqAt.list_countAt a its.toArray n dd sl u (eqU y)) ⟨ho, fun u' hu' => mem_eqAt ru fy rv fys u' (by simpa using hu'), ?_⟩
  have ec : its.toArray.toList.countP (eqU y) = ys.countP fun z => eqV z y := countU rv fys
  refine ⟨.int ((ys.countP fun z => eqV z y : Nat) : Int), H, I.tok _, ⟨s.toks, ?_⟩, q⟩
  rw [← ec]
theorem mtIndexK (K : PySem.W.Frag) (e : X.K = K := by rfl) : MtR X "list.index" (rIndex K) := by
  subst e
  exact mt_index
end
/-! ### the errors' own __init__ -/
/-- what repr takes here -/
def Rdb (v : V) : Prop := (∃ i : Int, v = .int i ∧ i.natAbs < 10 ^ 200) ∨ ∃ y : Str, v = .str y ∧ (reprText y).length ≤ 100000
theorem text_len {i : Int} (h : i.natAbs < 10 ^ 200) : (Str.ofString (toString i)).length ≤ 201 := by
  by_cases h0 : 0 ≤ i
  · exact Nat.le_succ_of_le (PyProof.Rows.toString_length_le h0 (by decide) (by
      have : ((i.natAbs : Nat) : Int) < ((10 ^ 200 : Nat) : Int) := by exact_mod_cast h
      rw [show ((i.natAbs : Nat) : Int) = i by omega] at this
      exact_mod_cast this))
  · have e := PyProof.Rows.len_text_negI (n := i) (by omega)
    have h2 := PyProof.Rows.toString_length_le (v := 0 - i) (k := 200) (by omega) (by decide) (by
      have : ((i.natAbs : Nat) : Int) < ((10 ^ 200 : Nat) : Int) := by exact_mod_cast h
      rw [show ((i.natAbs : Nat) : Int) = 0 - i by omega] at this
      exact_mod_cast this)
    omega
def sp_init (K : PySem.W.Frag) : Sp := fun vs H Q _ => ∃ (a C : Addr) (v : V), vs = [.ref a, v] ∧ OexC K C ∧ PySem.W.findIn K (.ref C) "what" = some none ∧ H a = some (exo a C none) ∧ Rdb v ∧
  ∀ d, H d = none → d ≠ a → Q .non (upd (upd H d (exd d [(("what" : Str), v)])) a (exo a C (some d)))
/-- such a class with its __init__ -/
structure OwnD (P : Program) (w : World) (K : PySem.W.Frag) (mg : Str → Option Value) (base : Heap) (x : Str) (C : Addr) : Prop where
  ex : ∃ (fI : Addr) (fd : FuncData), Own K mg x C fI ∧ FnOk P w K mg base CX0 1 fI fd ["self", "what"] (sp_init K) ∧ Binds K fd ["self", "what"] []
theorem OwnD.own {P : Program} {w : World} {K : PySem.W.Frag} {mg : Str → Option Value} {base : Heap} {x : Str} {C : Addr} (O : OwnD P w K mg base x C) : ∃ fI, Own K mg x C fI := by
  obtain ⟨fI, _, T, _⟩ := O.ex
  exact ⟨fI, T⟩
theorem OwnD.g {P : Program} {w : World} {K : PySem.W.Frag} {mg : Str → Option Value} {base : Heap} {x : Str} {C : Addr} (O : OwnD P w K mg base x C) : mg x = some (.ref C) := by
  obtain ⟨fI, T⟩ := O.own
  exact T.g
section
variable {X : Cx} {C : Addr} {x : Str} {e : Expr} {es : List Expr} {ta : TA} {W : WX} {p pos pos2 : Pos}
theorem pa_on {σ : L2.St} {H : Hp} {R : List V → Hp → Prop} (ha : PA X es ta) (h : ta σ H R) : PA X es (fun σ' H' Q' => σ' = σ ∧ H' = H ∧ ∀ vs H1, R vs H1 → Q' vs H1) := by
  refine ⟨fun pos pins s σ' H' Q' I h2 => ?_⟩
  obtain ⟨rfl, rfl, h2⟩ := h2
  exact thn (ha.run pos pins s σ' H' R I h) fun us s1 ⟨vs, H1, I1, r1, q⟩ => ⟨vs, H1, I1, r1, h2 vs H1 q⟩
/-- raise C(e) -/
def tRaiseOwn (C : Addr) (W : WX) (ta : TA) : TS := fun _ σ H => ta σ H fun vs H1 => ∃ v, vs = [v] ∧ Rdb v ∧ ∀ d, H1 d = none → W (.ref C) (some d) σ (upd H1 d (.xd [(("what" : Str), v)]))
theorem ps_raiseOwn (O : OwnD X.prog X.w X.K X.mg X.base x C) (hr : Room 2 X.A) (hc : X.calm = true) (tk : L2N.Takes X W) (ha : PA X [e] ta) (hg : Gl X x) (hdb : (x == ("__debug__" : Str)) = false := by decide)
    (he : starEach [e] X.env = (false, eval e X.env) :: starEach [] X.env := by rfl) (hpl : (backTo pos (starEach [] X.env)).any (·.1) = false := by rfl) :
    PS X (.Raise (some (.Call (.Name x p) [e] [] pos)) none pos2) (tRaiseOwn C W ta) := by
  obtain ⟨fI, fd, T, F, b⟩ := O.ex
  refine ⟨fun pins s σ H D I h => ?_⟩
  refine (L2N.ps_raise hc tk (pmkN T.o T.iC T.tI F hr b hg T.g (pa_on ha h) hdb he hpl)).run pins s σ H D I ⟨rfl, rfl, fun vs H1 ⟨v, ev, rv, q⟩ => ?_⟩
  subst ev
  refine ⟨by show 1 ≤ 1000; decide, fun a na => ⟨a, C, v, rfl, T.o, T.no, upd_same, rv, fun d nd da => ⟨rfl, d, _, upd_same, by rw [upd_ne da, upd_same], ?_, ?_⟩⟩⟩
  · rw [upd_ne da] at nd
    exact nd
  · rw [mk_heap na da]
    exact q d (by rw [upd_ne da] at nd; exact nd)
end
theorem valsRefs : ∀ {l : List Addr} {us : List Value}, Vals (l.map V.ref) us → us = l.map Value.ref
  | [], _, .nil => rfl
  | a :: l, _, .cons r t => by
    obtain rfl : _ = Value.ref a := r
    rw [List.map_cons, valsRefs t]
theorem relRef (a : Addr) : RelV (.ref a) (.ref a) := rfl
theorem bootVE : bootBuiltins "ValueError" = some (.type "ValueError") := by decide +kernel
theorem own_mro (C0 : Addr) : PySem.HandSPX.refsVE [.ref C0, .type "ValueError", .type "Exception", .type "BaseException", .type "object"] = true := by
  show PySem.HandSPX.refsVE [.type "ValueError", .type "Exception", .type "BaseException", .type "object"] = true
  decide +kernel
theorem kit_self {K : PySem.W.Frag} (C : Addr) : PySem.W.kitOne K (.ref C) (.ref C) = some true := by
  unfold PySem.W.kitOne
  rw [if_pos (beq_self_eq_true _)]
theorem kit_no {K : PySem.W.Frag} {C D : Addr} (h : PySem.W.subIn K (.ref C) (.ref D) = some false) (hc : PySem.W.isClsIn K D = true) (ht : PySem.W.typeIn K (.ref D) = some (.type "type")) (ne : C ≠ D) : PySem.W.kitOne K (.ref C) (.ref D) = some false := by
  unfold PySem.W.kitOne
  rw [if_neg (fun z => ne (Value.ref.inj (eq_of_beq z)))]
  have h1 : (PySem.W.clsIn K D).isSome = true := hc
  show (if ((PySem.W.clsIn K D).isSome && PySem.W.typeIn K (.ref D) == some (.type "type")) = true then PySem.W.subIn K (.ref C) (.ref D) else none) = _
  rw [if_pos (by rw [h1, ht]; rfl)]
  exact h
theorem kit_ve {K : PySem.W.Frag} {C : Addr} (h : PySem.W.subIn K (.ref C) (.type "ValueError") = some true) : PySem.W.kitOne K (.ref C) (.type "ValueError") = some true := by
  unfold PySem.W.kitOne
  have hne : ¬ (Value.ref C == Value.type "ValueError") = true := fun z => nomatch (eq_of_beq z)
  rw [if_neg hne]
  show (if PySem.W.kitMeta "ValueError" = true then PySem.W.subIn K (.ref C) (.type "ValueError") else none) = _
  rw [if_pos (by decide +kernel)]
  exact h
theorem kit_none {K : PySem.W.Frag} {t : Value} : ∀ {l : List Value}, (∀ c ∈ l, PySem.W.kitOne K t c = some false) → PySem.W.kitAny K t l = some false
  | [], _ => rfl
  | c :: l, h => by
    unfold PySem.W.kitAny
    rw [h c List.mem_cons_self]
    exact kit_none fun d m => h d (List.mem_cons_of_mem _ m)
end El
namespace El
open PySem PySem.Spec PyProof.Rows L2
/-! ### a def that refuses some things and answers others: both promises put together -/
theorem Df.orx {P : Program} {w : World} {K : PySem.W.Frag} {mg : Str → Option Value} {base : Heap} {j k : Nat} {x : Str} {ps : List Str} {st : Stmt} {sp1 sp2 : Sp} (G : Df P w K mg base j x ps st sp1) (B : DfX P w K mg base k x ps st sp2) (h : j ≤ k) :
    DfX P w K mg base k x ps st (fun vs H Q E => sp1 vs H Q E0 ∨ sp2 vs H Q E) := by
  obtain ⟨f, fd, F, m, G1, b⟩ := G.ex
  obtain ⟨f', fd', F', m', B1, _⟩ := B.ex
  obtain rfl : f = f' := Value.ref.inj (Option.some.inj (m.symm.trans m'))
  have efd : fd = fd' := by
    obtain ⟨_, _, _, _, _, _, _, _, _, rfl, l1, _⟩ := F.ex
    obtain ⟨_, _, _, _, _, _, _, _, _, rfl, l2, _⟩ := F'.ex
    exact Data.func.inj (Obj.mk.inj (Option.some.inj (l1.symm.trans l2))).2.2.1
  subst efd
  refine ⟨f, fd, F, m, ⟨fun vs H Q E hs => hs.elim (G1.len vs H Q E0) (B1.len vs H Q E), fun A outer s H args us vs Q E room ent bound vals want => ?_⟩, b⟩
  rcases want with want | want
  · refine codeAny_mono (G1.run A outer s H args us vs Q E0 (room.mono h) ent bound vals want) fun r s2 told => ?_
    match r, told with
    | .ok (.ret _), told => exact told
    | .error _, told => exact told.elim
  · exact B1.run A outer s H args us vs Q E room ent bound vals want
theorem Df.up {P : Program} {w : World} {K : PySem.W.Frag} {mg : Str → Option Value} {base : Heap} {j k : Nat} {x : Str} {ps : List Str} {st : Stmt} {sp : Sp} (G : Df P w K mg base j x ps st sp) (h : j ≤ k) : Df P w K mg base k x ps st sp := by
  obtain ⟨f, fd, F, m, G1, b⟩ := G.ex
  exact ⟨f, fd, F, m, G1.mono h, b⟩
theorem DfX.up {P : Program} {w : World} {K : PySem.W.Frag} {mg : Str → Option Value} {base : Heap} {j k : Nat} {x : Str} {ps : List Str} {st : Stmt} {sp : Sp} (G : DfX P w K mg base j x ps st sp) (h : j ≤ k) : DfX P w K mg base k x ps st sp := by
  obtain ⟨f, fd, F, m, G1, b⟩ := G.ex
  exact ⟨f, fd, F, m, G1.mono h, b⟩
/-! ### errors whose value is a number, a text, None or a pair of numbers -/
def RdW (H : Hp) (v : V) : Prop := Rdb v ∨ v = .non ∨ ∃ (t : Addr) (i j : Int), v = .ref t ∧ H t = some (.tup [.int i, .int j]) ∧ i.natAbs < 10 ^ 200 ∧ j.natAbs < 10 ^ 200
theorem RdW.same {H H' : Hp} {v : V} (h : RdW H v) (k : Same H H') : RdW H' v := by
  rcases h with h | h | ⟨t, i, j, e, et, hi, hj⟩
  · exact .inl h
  · exact .inr (.inl h)
  · exact .inr (.inr ⟨t, i, j, e, k _ _ et, hi, hj⟩)
theorem two_pair (a b : Str) : (tupleText [a, b]).length = a.length + b.length + 4 := by
  have h := join_length_add [a, b] (List.cons_ne_nil _ _)
  rw [piled_cons, piled_cons, piled_nil] at h
  have o : ("(" : Str).length = 1 := by decide +kernel
  have c : (((if [a, b].length == 1 then ",)" else ")" : String) : Str)).length = 1 := by
    show ((")" : String) : Str).length = 1
    decide +kernel
  unfold tupleText
  rw [Str.length_append, Str.length_append, o, c]
  omega
theorem bits_of {i : Int} (h : i.natAbs < 10 ^ 200) : i.natAbs.log2 < 1920 := by
  by_cases h0 : i.natAbs = 0
  · rw [h0]
    decide
  · exact Nat.lt_trans ((Nat.log2_lt h0).mpr (Nat.lt_trans h (by decide +kernel : 10 ^ 200 < 2 ^ 700))) (by decide)
/-- {x!r}: some text, not too long -/
def tFmtW (te : TE) : TE := fun σ H Q => te σ H fun x H1 => RdW H1 x ∧ ∀ m : Str, m.length ≤ 100000 → Q (.str m) H1
section
variable {X : Cx}
theorem pe_fmtW {e : Expr} {te : TE} {pos : Pos} {k : Nat} (hr : Room k X.A) (he : PE X e te) : PE X (.FormattedValue e 114 none pos) (tFmtW te) := by
  constructor
  intro pins s σ H Q inv asks
  apply wpAny_FormattedValue_repr
  refine wpAny_mono (he.run pins s σ H _ inv asks) (fun v s1 got => ?_) fun _ _ err => err
  obtain ⟨x, H1, I1, r1, hw, q⟩ := got
  have hs : (100000 : Nat) ≤ sizeLine := by decide
  have told : ∀ (m : Str) (u t' : Tok), m.length ≤ 100000 → EP X pins σ Q (.str m u) { s1 with toks := t' } := fun m u t' hm => ⟨.str m, H1, I1.tok _, ⟨u, rfl⟩, q m hm⟩
  rcases hw with (⟨i, rfl, hi⟩ | ⟨y, rfl, hy⟩) | rfl | ⟨t, i, j, rfl, et, hi, hj⟩
  · obtain ⟨t, rfl⟩ := r1
    have hl : (Str.ofString (toString i)).length ≤ 100000 := Nat.le_trans (text_len hi) (by decide)
    exact pyReprObj_int (bits_of hi) (wpAny_formatField_str (told _ _ _ hl) (told _ _ _ hl) (int_text_fits (bits_of hi)))
  · obtain ⟨t, rfl⟩ := r1
    have hz := Nat.le_trans hy hs
    exact pyReprObj_str (wpAny_formatField_str (told _ _ _ hy) (told _ _ _ hy) hz) hz
  · cases r1
    have hl : (("None" : String) : Str).length ≤ 100000 := by decide +kernel
    exact pyReprObj_none (wpAny_formatField_str (told _ _ _ hl) (told _ _ _ hl) (Nat.le_trans hl hs))
  · cases r1
    obtain ⟨its, rv, ⟨o, ho, hcl, n, hd⟩, _⟩ := I1.tuple (SqT.of (K := X.K) et)
    obtain ⟨u1, u2, rfl, r1, r2⟩ := vals2 rv
    obtain ⟨k1, rfl⟩ := r1
    obtain ⟨k2, rfl⟩ := r2
    have hu := hr.units
    have hT : ReprAll X.prog X.w [Value.int i k1, Value.int j k2] [Str.ofString (toString i), Str.ofString (toString j)] := .cons (ReprIs.int k1 (bits_of hi)) (.cons (ReprIs.int k2 (bits_of hj)) .nil)
    have hz : (tupleText [Str.ofString (toString i), Str.ofString (toString j)]).length ≤ 500 := by
      rw [two_pair]
      have := text_len hi
      have := text_len hj
      omega
    refine wpAny_pyReprObj_slot (by omega) ⟨o, ho, hcl⟩ F.slot_tuple_repr (fmt_tuple_repr ho hcl hd hT (Nat.le_trans hz (by decide)) fun m u tk hm => ⟨m, u, rfl, ?_⟩)
    have hl : m.length ≤ 100000 := by omega
    exact wpAny_formatField_str (told _ _ _ hl) (told _ _ _ hl) (Nat.le_trans hl hs)
end
def sp_initW (K : PySem.W.Frag) : Sp := fun vs H Q _ => ∃ (a C : Addr) (v : V), vs = [.ref a, v] ∧ OexC K C ∧ PySem.W.findIn K (.ref C) "what" = some none ∧ H a = some (exo a C none) ∧ RdW H v ∧
  ∀ d, H d = none → d ≠ a → Q .non (upd (upd H d (exd d [(("what" : Str), v)])) a (exo a C (some d)))
structure OwnW (P : Program) (w : World) (K : PySem.W.Frag) (mg : Str → Option Value) (base : Heap) (x : Str) (C : Addr) : Prop where
  ex : ∃ (fI : Addr) (fd : FuncData), Own K mg x C fI ∧ FnOk P w K mg base CX0 1 fI fd ["self", "what"] (sp_initW K) ∧ Binds K fd ["self", "what"] []
theorem OwnW.own {P : Program} {w : World} {K : PySem.W.Frag} {mg : Str → Option Value} {base : Heap} {x : Str} {C : Addr} (O : OwnW P w K mg base x C) : ∃ fI, Own K mg x C fI := by
  obtain ⟨fI, _, T, _⟩ := O.ex
  exact ⟨fI, T⟩
section
variable {X : Cx} {C : Addr} {x : Str} {e : Expr} {ta : TA} {W : WX} {p pos pos2 : Pos}
/-- raise C(e) -/
def tRaiseW (C : Addr) (W : WX) (ta : TA) : TS := fun _ σ H => ta σ H fun vs H1 => ∃ v, vs = [v] ∧ RdW H1 v ∧ ∀ d, H1 d = none → W (.ref C) (some d) σ (upd H1 d (.xd [(("what" : Str), v)]))
theorem ps_raiseW (O : OwnW X.prog X.w X.K X.mg X.base x C) (hr : Room 2 X.A) (hc : X.calm = true) (tk : L2N.Takes X W) (ha : PA X [e] ta) (hg : Gl X x) (hdb : (x == ("__debug__" : Str)) = false := by decide)
    (he : starEach [e] X.env = (false, eval e X.env) :: starEach [] X.env := by rfl) (hpl : (backTo pos (starEach [] X.env)).any (·.1) = false := by rfl) :
    PS X (.Raise (some (.Call (.Name x p) [e] [] pos)) none pos2) (tRaiseW C W ta) := by
  obtain ⟨fI, fd, T, F, b⟩ := O.ex
  refine ⟨fun pins s σ H D I h => ?_⟩
  refine (L2N.ps_raise hc tk (pmkN T.o T.iC T.tI F hr b hg T.g (pa_on ha h) hdb he hpl)).run pins s σ H D I ⟨rfl, rfl, fun vs H1 ⟨v, ev, rv, q⟩ => ?_⟩
  subst ev
  refine ⟨by show 1 ≤ 1000; decide, fun a na => ⟨a, C, v, rfl, T.o, T.no, upd_same, rv.same (same_new na), fun d nd da => ⟨rfl, d, _, upd_same, by rw [upd_ne da, upd_same], ?_, ?_⟩⟩⟩
  · rw [upd_ne da] at nd
    exact nd
  · rw [mk_heap na da]
    exact q d (by rw [upd_ne da] at nd; exact nd)
end
end El
namespace El
open PySem PySem.Spec PyProof.Rows L2
/-! ### an exception that is kept behind its suite -/
def Exc (a : Addr) (cls : Value) (d : Option Addr) : HO := .ext fun h => ∃ (oe : Obj) (vs : Array Value), h.get? a = some oe ∧ Zc cls d oe ∧ oe.data = .fields vs
/-- what is asked of an exception that comes: it is of the class c, and the suite lets go on, the exception noted -/
def wKept (K : PySem.W.Frag) (c : Value) (i : Nat) (ts : Addr → Value → Option Addr → TS) (D : Ends) : WX := fun cls d σ H =>
  PySem.W.exmOne K cls c = some true ∧ ∀ a, H a = none → ts a cls d { nx := fun σ' H' => D.nx (σ'.set i none) (upd H' a (Exc a cls d)), rt := fun _ _ => False, bk := fun _ _ => False, ct := fun _ _ => False } (σ.set i (some (.ref a))) H
section
variable {X : Cx} {pins : List (Addr × Obj)} {σ : L2.St} {H : Hp} {s : Shared}
/-- one more pin -/
theorem pin_more (I : Inv X pins σ H s) {p : Addr × Obj} (e : s.heap.get? p.1 = some p.2) (n : H p.1 = none) (nl : p.1 ≠ X.env.locals) (nf : p.1 ∉ X.fs) (nc : ∀ v, p.2.data ≠ .cell v) : Inv X (p :: pins) σ H s :=
  I.pins_of fun q m => (List.mem_cons.mp m).elim (fun z => by subst z; exact ⟨e, n, nl, nf, nc⟩) fun z => I.pin q (List.mem_append_right _ z)
/-- a pinned exception is noted -/
theorem note_exc {a : Addr} {oe : Obj} {vs : Array Value} {cls : Value} {d : Option Addr} (I : Inv X ((a, oe) :: pins) σ H s) (hz : Zc cls d oe) (hd : oe.data = .fields vs) (new : ∀ o, X.s_0.heap.get? a = some o → X.H_0 a ≠ none) (apart : ∀ p ∈ X.pn ++ pins, p.1 ≠ a) :
    Inv X pins σ (upd H a (Exc a cls d)) s := by
  obtain ⟨ea, na, nl, nf, nc⟩ := I.pin (a, oe) (List.mem_append_right _ List.mem_cons_self)
  have other : ∀ {b : Addr}, b ≠ a → upd H a (Exc a cls d) b = H b := fun z => upd_ne z
  have dead : ∀ {b : Addr} {u : HO}, H b = some u → b ≠ a := fun e z => by
    rw [z, na] at e
    cases e
  have cells : ∀ y c, X.env.cells.lookup y = some c → c ≠ a := fun y c e1 z => by
    obtain ⟨v, o, e2, e3⟩ := I.cell y c e1
    rw [z, ea] at e2
    exact nc v (by rw [Option.some.inj e2]; exact e3)
  refine { ok := I.ok, os := I.os, bare := I.bare, loc := I.loc, cell := I.cell, len := I.len, base := ⟨I.base.keep, I.base.slot, fun b o e1 e2 e3 => ?_, I.base.there, fun b xs e1 => ?_, fun b o u e1 => ?_, fun b ps e1 => ?_⟩, free := ?_, freeC := fun y c e1 => ?_, pin := fun p m => ?_, hok := fun b u e1 => ?_ }
  · rw [other fun z => new o (z ▸ e1) (z ▸ e2)]
    exact I.base.free b o e1 e2 e3
  · have e2 := I.base.tups b xs e1
    rw [other (dead e2)]
    exact e2
  · have e2 := I.base.frzs b o u e1
    rw [other (dead e2)]
    exact e2
  · obtain ⟨more, e2⟩ := I.base.tbls b ps e1
    exact ⟨more, by rw [other (dead e2)]; exact e2⟩
  · rw [other nl.symm]
    exact I.free
  · rw [other (cells y c e1)]
    exact I.freeC y c e1
  · obtain ⟨p1, p2, p3, p4, p5⟩ := I.pin p ((List.mem_append.mp m).elim (fun z => List.mem_append_left _ z) fun z => List.mem_append_right _ (List.mem_cons_of_mem _ z))
    exact ⟨p1, by rw [other (apart p m)]; exact p2, p3, p4, p5⟩
  · by_cases hb : b = a
    · subst hb
      obtain rfl : Exc b cls d = u := Option.some.inj (upd_same.symm.trans e1)
      exact ⟨⟨oe, vs, ea, hz, hd⟩, ⟨oe, ea⟩, fun h1 h2 ⟨o, v, q1, q2⟩ k => ⟨o, v, k o q1, q2⟩⟩
    · rw [other hb] at e1
      exact (I.hok b u e1).stay (fun _ _ _ q => q) (fun _ q => by rw [other (dead q)]; exact q) fun _ _ q => by rw [other (dead q)]; exact q
end
section
variable {X : Cx} {x n : Str} {c : Value} {i : Nat} {body suite : List Stmt} {b₀ : Stmt} {np pos pos' : Pos} {tb : WX → TS} {ts : Addr → Value → Option Addr → TS}
/-- try: .. except x as n: .., the exception alive behind it -/
theorem ps_try_kept (hs : X.stack = X.env :: X.outer) (hf : X.env.frame = some X.env.locals) (hN : X.N.Nodup) (hi : X.N[i]? = some n) (hln : X.env.kindOf n = some .local) (hc : Names X x c) (hx : X.ex = [])
    (hb : ∀ W pn xe, Takes (X.tr pn xe) W → PassesOwn (model X.prog X.w) X.A X.env xe → PSs (X.tr pn xe) body (tb W))
    (hsu : ∀ a oe cls d pn, Zc cls d oe → (∃ vs, oe.data = .fields vs) → PSs (X.suite a ((a, oe) :: pn)) (b₀ :: suite) (ts a cls d)) :
    PS X (.Try body [.ExceptHandler (some (.Name x np)) (some n) (b₀ :: suite) pos'] [] [] pos) (fun D σ H => tb (wKept X.K c i ts D) D σ H) := by
  constructor
  intro pins s σ H D I asks
  have ok := I.ok
  have frames : X.A.frames = some (X.env :: X.outer) := ok.frames.trans (congrArg some hs)
  apply wpAny_Try_except
  have run := (hb (wKept X.K c i ts D) (X.pn ++ pins) (fun e s₁ => wpAny (model X.prog X.w) X.A (noteFrame e X.env) (fun _ s₂ => wpAny (model X.prog X.w) X.A (setFlight e none) (fun _ s₃ => wpAny (model X.prog X.w) X.A (handleBy e X.env [.ExceptHandler (some (.Name x np)) (some n) (b₀ :: suite) pos']) (SP X pins D) X.xe s₃) X.xe s₂) X.xe s₁) ?air PassesOwn.looking).run [] s σ H D (I.toTry _) asks
  case air =>
    intro u s1 flown
    obtain ⟨a, ground, s0, pins0, σ1, H1, cls, d, rfl, inTry, stays, slots, sky, na, os, bare, hit, go⟩ := flown
    have J : Inv X pins σ1 H1 s0 := inTry.ofTry ok
    have gone : ground.get? a = none := by
      rcases sky with z | z | z
      · exact z.2.1
      · exact z.2.1
      · exact z.2.1
    have apart0 : ∀ {b : Addr} {o : Obj}, s0.heap.get? b = some o → b ∉ frs X.stack → b ≠ a := fun e nb z => by
      have := stays _ _ e nb
      rw [z, gone] at this
      cases this
    have offStack : ∀ {b : Addr}, b ≠ X.env.locals → b ∉ X.fs → b ∉ frs X.stack := fun n1 n2 m => by
      rw [hs] at m
      obtain ⟨e, me, he⟩ := List.mem_filterMap.mp m
      rcases List.mem_cons.mp me with rfl | me
      · rw [hf] at he
        exact n1 (Option.some.inj he).symm
      · exact n2 (List.mem_filterMap.mpr ⟨e, me, he⟩)
    rw [hs] at sky
    change wpAny _ X.A (noteFrame (Value.ref a) X.env) _ _ s1
    apply Sky.land Zc.steady frames hf sky
    intro h3 fly3 slots3
    have J3 : Inv X pins σ1 H1 { s1 with heap := h3 } := J.landed stays fly3.1 (slots.trans slots3) os bare
    obtain ⟨o3, v3, e3, z3, d3⟩ := fly3.there
    have notFrame : ∀ {h : Heap} {o : Obj} {v : Array Value}, h.FunFrames ground (X.env :: X.outer) → h.get? a = some o → o.data = .fields v → a ∉ frs (X.env :: X.outer) := fun ff e dd m => by
      obtain ⟨_, o', e', no⟩ := ff.mem m
      obtain rfl := Option.some.inj (e.symm.trans e')
      exact no _ dd
    have off := notFrame fly3.2.2.1 e3 d3
    have nl : a ≠ X.env.locals := fun z => off (List.mem_filterMap.mpr ⟨X.env, List.mem_cons_self, by rw [hf, z]⟩)
    have nf : a ∉ X.fs := fun m => by
      obtain ⟨e, me, q⟩ := List.mem_filterMap.mp m
      exact off (List.mem_filterMap.mpr ⟨e, List.mem_cons_of_mem _ me, q⟩)
    have inSuite := J3.suite e3 d3 na nl nf
    have new : ∀ o, X.s_0.heap.get? a = some o → X.H_0 a ≠ none := fun o e0 h0 => by
      have := J.base.keep a o e0 h0 nf (by rw [hx]; exact List.not_mem_nil)
      exact apart0 this (offStack nl nf) rfl
    have apart : ∀ p ∈ X.pn ++ pins, p.1 ≠ a := fun p m => by
      obtain ⟨p1, _, p3, p4, _⟩ := J.pin p m
      exact apart0 p1 (offStack p3 p4)
    apply wpAny_handleBy_cons (codeAny_handlers_test ?asked) (by intro q; cases q)
    have kind : PySem.W.Looks (model X.prog X.w) h3 (typeOf (.ref a)) cls := fun A Q E s k q => wpAny_typeOf_ref (k _ _ e3) (by rw [z3.1]; exact q)
    have fits := PySem.W.exm_one (M := model X.prog X.w) J3.kIn kind hit
    have named : ∀ {Q E : Value → Shared → Prop}, Q c { s1 with heap := h3 } → wpAny (model X.prog X.w) (X.A.mark (some (.ref a))) (eval (.Name x np) X.env) Q E { s1 with heap := h3 } := fun {Q E} q => by
      obtain ⟨glob, plain, here | ⟨absent, boot, notName⟩⟩ := hc
      · exact ld_glob (X := X.suite a ((a, o3) :: (X.pn ++ pins))) inSuite glob here q plain
      · exact ld_blt (X := X.suite a ((a, o3) :: (X.pn ++ pins))) inSuite glob absent boot q notName plain
    apply named
    apply fits.here
    apply codeAny_handlers_suite_as
    apply HandSPX.lands_againZ fly3
    intro h4 fly4 slots4
    have J4 : Inv X pins σ1 H1 { s1 with heap := h4 } := J.landed stays fly4.1 ((slots.trans slots3).trans slots4) os bare
    obtain ⟨o4, v4, e4, z4, d4⟩ := fly4.there
    have start4 := J4.suite e4 d4 na nl nf
    apply store_ok (X := X.suite a ((a, o4) :: (X.pn ++ pins))) (v := .ref a) start4 hN hi (.inl hln) rfl ?_ (.inr hln)
    intro s5 I5
    refine wpAny_mono ((hsu a o4 cls d (X.pn ++ pins) z4 ⟨_, d4⟩).run [] s5 _ H1 _ I5 (go a na)) (fun flow s6 told => ?_) fun _ _ no => no.elim
    cases flow with
    | next =>
      obtain ⟨σ6, H6, I6, q6⟩ := told
      have P6 := I6.pin (a, o4) (List.mem_append_left _ List.mem_cons_self)
      exact gone_ok (pin_more (I6.unsuite ok) P6.1 P6.2.1 nl nf P6.2.2.2.2) hN hi hln fun s7 I7 => ⟨_, _, note_exc I7 z4 d4 new apart, q6⟩
    | brk =>
      obtain ⟨_, _, _, no⟩ := told
      exact no.elim
    | cont =>
      obtain ⟨_, _, _, no⟩ := told
      exact no.elim
    | ret u =>
      obtain ⟨_, _, _, _, _, no⟩ := told
      exact no.elim
  refine wpAny_mono run (fun flow s1 told => ?_) fun _ _ err => err
  cases flow with
  | next =>
    obtain ⟨σ1, H1, I1, q1⟩ := told
    exact wpAny_execs_nil ⟨σ1, H1, I1.ofTry ok, q1⟩
  | brk =>
    obtain ⟨σ1, H1, I1, q1⟩ := told
    exact ⟨σ1, H1, I1.ofTry ok, q1⟩
  | cont =>
    obtain ⟨σ1, H1, I1, q1⟩ := told
    exact ⟨σ1, H1, I1.ofTry ok, q1⟩
  | ret u =>
    obtain ⟨v, σ1, H1, I1, r1, q1⟩ := told
    exact ⟨v, σ1, H1, I1.ofTry ok, r1, q1⟩
end
end El
namespace El
open PySem PySem.Spec PyProof.Rows L2
/-! ### such an exception asked: its class, its value -/
/-- of the class at D, its dict at dd with the value v in it -/
structure ExcAt (K : PySem.W.Frag) (mg : Str → Option Value) (H : Hp) (a D : Addr) (v : V) : Prop where
  ex : ∃ (x : Str) (fI dd : Addr), H a = some (Exc a (.ref D) (some dd)) ∧ H dd = some (.xd [(("what" : Str), v)]) ∧ Own K mg x D fI
theorem ExcAt.keep {K : PySem.W.Frag} {mg : Str → Option Value} {H H' : Hp} {a D : Addr} {v : V} (h : ExcAt K mg H a D v) (k : Same H H') : ExcAt K mg H' a D v :=
  let ⟨x, fI, dd, e, ed, O⟩ := h.ex
  ⟨x, fI, dd, k _ _ e, k _ _ ed, O⟩
section
variable {X : Cx} {pins : List (Addr × Obj)} {σ : L2.St} {H : Hp} {s : Shared}
theorem exc_inst {a D dd : Addr} {fs : List (Str × V)} (I : Inv X pins σ H s) (e : H a = some (Exc a (.ref D) (some dd))) (ed : H dd = some (.xd fs)) :
    ∃ (oe : Obj) (od : Obj) (mA : Str → Option Value), PySem.W.InstAt s.heap a oe D (some od) ∧ (∀ f, RelO (fs.lookup f) (mA f)) ∧ ∀ f, PySem.W.lookIn f od = some (mA f) := by
  obtain ⟨⟨oe, vs, here, ⟨hc, hdict⟩, hdata⟩, _⟩ := (show ObjOk X.prog X.w H s.heap a (Exc a (.ref D) (some dd)) from I.hok a _ e)
  obtain ⟨mA, names, rel⟩ := (show ObjOk X.prog X.w H s.heap dd (.xd fs) from I.hok dd _ ed)
  obtain ⟨od, look, same⟩ := lookIn_ns names
  exact ⟨oe, od, mA, ⟨here, hc, by unfold PySem.W.notCls; rw [hdata] <;> rfl, by rw [hdict]; exact look⟩, rel, fun f => same f⟩
/-- isinstance(e, c), isinstance(e, (c1, ..)) -/
def rIsE (K : PySem.W.Frag) (mg : Str → Option Value) : List V → Hp → VK → Prop := fun xs H Q => ∃ (a D : Addr) (v : V), ExcAt K mg H a D v ∧ IsX K ∧ (rIsD K D a xs H Q ∨ rIsT K D a xs H Q)
theorem call_isE (K : PySem.W.Frag) (mg : Str → Option Value) (e : X.K = K := by rfl) (e2 : X.mg = mg := by rfl) : CallR X (.builtin "isinstance") (rIsE K mg) := by
  subst e e2
  intro pins s σ H xs us Q I rel asks
  obtain ⟨a, D, v, ⟨x, fI, dd, ea, ed, T⟩, J, asks⟩ := asks
  obtain ⟨oe, od, mA, here, _, _⟩ := exc_inst I ea ed
  have kit := own_kit (a := a) (oe := oe) (od := some od) T J
  rcases asks with ⟨c, cv, b, rfl, one, told, q⟩ | ⟨t, cs, cvs, b, rfl, tup, all, told, q⟩
  · obtain ⟨u1, u2, rfl, r1, r2⟩ := vals2 rel
    obtain rfl : u1 = Value.ref a := r1
    obtain rfl := one _ r2
    exact PySem.W.kia_one kit I.kIn here told (fun z => nomatch z) fun tk => ⟨.bl b, H, I.kept (t' := tk) fun _ _ z => z, rfl, q⟩
  · obtain ⟨u1, u2, rfl, r1, r2⟩ := vals2 rel
    obtain rfl : u1 = Value.ref a := r1
    obtain rfl : u2 = Value.ref t := r2
    obtain ⟨its, vals, ⟨⟨oc, od', oda, osl⟩, here2, hc, n, hd⟩, _⟩ := I.tuple tup
    obtain rfl := all _ vals
    dsimp only at hc hd
    subst hc hd
    exact PySem.W.kia_tup kit I.kIn here here2 told (fun z => nomatch z) fun tk => ⟨.bl b, H, I.kept (t' := tk) fun _ _ z => z, rfl, q⟩
/-- e.what -/
def tWhat (K : PySem.W.Frag) (mg : Str → Option Value) (te : TE) : TE := fun σ H Q => te σ H fun x H1 => ∃ (a D : Addr) (v : V), x = .ref a ∧ ExcAt K mg H1 a D v ∧ Q v H1
theorem pe_what {e : Expr} {te : TE} {pos : Pos} (K : PySem.W.Frag) (mg : Str → Option Value) (he : PE X e te) (eK : X.K = K := by rfl) (e2 : X.mg = mg := by rfl) (hb : attributeBase e "what" X.env (eval e X.env) = eval e X.env := by rfl) :
    PE X (.Attribute e "what" pos) (tWhat K mg te) := by
  subst eK e2
  constructor
  intro pins s σ H Q I asks
  apply attr_of hb
  refine wpAny_mono (he.run pins s σ H _ I asks) (fun u s1 got => ?_) fun _ _ err => err
  obtain ⟨x, H1, I1, rx, a, D, v, rfl, ⟨xn, fI, dd, ea, ed, T⟩, q⟩ := got
  obtain rfl : u = Value.ref a := rx
  obtain ⟨oe, od, mA, here, rel, same⟩ := exc_inst I1 ea ed
  obtain ⟨u, hu, ru⟩ := RelO.some_of (v := v) (o := mA ("what" : Str)) (by
    have := rel "what"
    exact this)
  exact HandSPX.exc_get I1.kIn here T.xf.ga T.xf.gg T.xf.exC (PySem.W.findObj_own T.xf.hdC T.no rfl (by rw [same, hu])) (handed_of ru) ⟨v, H1, I1.tok _, ru, q⟩
end
end El
namespace El
open PySem PySem.Spec PyProof.Rows L2
/-! ### an exception of the text's own, made and kept as a value -/
section
variable {X : Cx} {pins : List (Addr × Obj)} {σ : L2.St} {H : Hp} {s s1 : Shared}
/-- nothing but the heap, the system and the generators' bareness is asked of a state -/
theorem inv_other (I : Inv X pins σ H s) (hh : s1.heap = s.heap) (ho : s1.os = s.os) (hb : AllBare s1.gens) : Inv X pins σ H s1 := by
  obtain ⟨h, g, d, t, o⟩ := s
  obtain ⟨h1, g1, d1, t1, o1⟩ := s1
  obtain rfl : h1 = h := hh
  obtain rfl : o1 = o := ho
  exact ⟨I.ok, I.os, hb, I.base, I.loc, I.cell, I.free, I.freeC, I.pin, I.hok, I.len⟩
/-- what makes an exception, as a value -/
def tMade (t : L2.St → Hp → XK → Prop) : TE := fun σ H Q => t σ H fun cls d H' => ∀ a, H' a = none → Q (.ref a) (upd H' a (Exc a cls d))
theorem pe_made {e : Expr} {t : L2.St → Hp → XK → Prop} (hm : PMk X e t) : PE X e (tMade t) := by
  refine ⟨fun pins s σ H Q I h => wpAny_mono (hm pins s σ H _ I h) (fun u s' hu => ?_) fun _ _ z => z⟩
  obtain ⟨a, oe, vs, sI, H', cls, d, rfl, J, k, no, yes, zc, dd, _, na, ho, hb, _, q⟩ := hu
  have J2 : Inv X pins σ H' { s' with heap := sI.heap } := inv_other J rfl ho hb
  exact ⟨.ref a, _, J2.laidN (h' := s'.heap) (t' := s'.toks) k no na (show ObjOk X.prog X.w _ s'.heap a (Exc a cls d) from ⟨⟨oe, vs, yes, zc, dd⟩, ⟨oe, yes⟩, fun h1 h2 ⟨o, v, q1, q2⟩ kk => ⟨o, v, kk o q1, q2⟩⟩), rfl, q a na⟩
end
section
variable {X : Cx} {C : Addr} {x : Str} {e : Expr} {ta : TA} {p pos : Pos}
/-- C(e), C a class whose __init__ keeps what it is given -/
def tErr (K : PySem.W.Frag) (mg : Str → Option Value) (C : Addr) (ta : TA) : TE := fun σ H Q => ta σ H fun vs H1 => ∃ v, vs = [v] ∧ RdW H1 v ∧ ∀ (a : Addr) (H2 : Hp), Same H1 H2 → H1 a = none → ExcAt K mg H2 a C v → Q (.ref a) H2
theorem pe_err (K : PySem.W.Frag) (mg : Str → Option Value) (O : OwnW X.prog X.w X.K X.mg X.base x C) (hr : Room 2 X.A) (ha : PA X [e] ta) (hg : Gl X x) (eK : X.K = K := by rfl) (eM : X.mg = mg := by rfl) (hdb : (x == ("__debug__" : Str)) = false := by decide)
    (he : starEach [e] X.env = (false, eval e X.env) :: starEach [] X.env := by rfl) (hpl : (backTo pos (starEach [] X.env)).any (·.1) = false := by rfl) :
    PE X (.Call (.Name x p) [e] [] pos) (tErr K mg C ta) := by
  subst eK eM
  obtain ⟨fI, fd, T, F, b⟩ := O.ex
  refine ⟨fun pins s σ H Q I h => ?_⟩
  refine (pe_made (pmk_oex T.o T.iC T.tI F hr b .nil pass0 hg T.g (pa_on ha h) hdb he hpl)).run pins s σ H Q I ⟨rfl, rfl, fun vs H1 ⟨v, ev, rv, q⟩ => ?_⟩
  subst ev
  refine ⟨by show 1 ≤ 1000; decide, fun a na => ⟨a, C, v, rfl, T.o, T.no, upd_same, rv.same (same_new na), fun d nd da => ⟨rfl, d, _, upd_same, by rw [upd_ne da, upd_same], ?_, fun c nc => ?_⟩⟩⟩
  · rw [upd_ne da] at nd
    exact nd
  · rw [mk_heap na da] at nc ⊢
    have nd1 : H1 d = none := by
      rw [upd_ne da] at nd
      exact nd
    have s1 := same_new (o := .xd [(("what" : Str), v)]) nd1
    have s2 := same_new (o := Exc c (.ref C) (some d)) nc
    exact q c _ (s1.trans s2) (s1.free nc) ⟨x, fI, d, upd_same, s2 _ _ (show upd H1 d (.xd [(("what" : Str), v)]) d = _ from upd_same), T⟩
end
end El
namespace El
open PySem PySem.Spec PyProof.Rows L2 HotX
/-! ### a list's iterator at its end, where an exception is handled -/
section
variable {prog : Program} {w : World} {A : Around} {E : Value → Shared → Prop} {s : Shared} {x1 : Addr}
theorem stop_hot {α : Type} {Q : α → Shared → Prop} (hot : HotAt A x1 s.heap) (hE : ∀ (h : Heap) (a : Addr), (∀ b o, s.heap.get? b = some o → h.get? b = some o) → (∃ o, h.get? a = some o ∧ o.cls = .type "StopIteration") → E (.ref a) { s with heap := h }) :
    wpAny (model prog w) A (Builtin.SmallTypes.stopIteration : Sem α) Q E s := by
  obtain ⟨hp, g, d, t, os⟩ := s
  obtain ⟨hh, o1, vs1, e1, d1, c1⟩ := hot
  unfold Builtin.SmallTypes.stopIteration newExc newTuple
  wp_walk
  have up : ∀ {b o} (u v : Obj), hp.get? b = some o → ((hp.push u).push v).get? b = some o := fun _ _ e => Heap.get?_push_of_some _ (Heap.get?_push_of_some _ e)
  have old : x1 < (hp.push { cls := .type "tuple", data := .seq #[] }).objs.size := Heap.lt_size (Heap.get?_push_of_some _ e1)
  refine raiseNew_hot ⟨hh, o1, vs1, up _ _ e1, d1, c1⟩ (Nat.ne_of_lt old) (Heap.get?_push_size _ rfl) rfl (by simp only [Array.size_append]; exact Nat.lt_of_lt_of_le (by decide : 2 < 6) (Nat.le_add_right _ _)) (hE _ _ (fun b o e => ?_) ⟨_, Heap.get?_update_self _ (Heap.get?_push_size _ rfl) rfl, rfl⟩)
  have e2 := Heap.get?_push_of_some { cls := .type "tuple", data := .seq #[] } e
  rw [Heap.get?_update_other _ _ (Nat.ne_of_gt (Heap.lt_size e2))]
  exact up _ _ e
theorem next_end_hot {it l : Addr} {i : Nat} {items : Array Value} {Q : Option Value → Shared → Prop} (hot : HotAt A x1 s.heap) (hit : s.heap.IsListIter it l i) (hl : s.heap.IsList l items) (hx : items[i]? = none)
    (q : ∀ h, (∀ b o, b ≠ it → s.heap.get? b = some o → h.get? b = some o) → Q none { s with heap := h }) : wpAny (model prog w) A (pyNext (.ref it)) Q E s := by
  obtain ⟨o, ho, hc, hd⟩ := id hit
  obtain ⟨ol, hol, _, nl, hdl⟩ := hl
  have apart : x1 ≠ it := fun z => by
    obtain ⟨_, o1, vs1, e1, d1, c1⟩ := hot
    rw [z, ho] at e1
    obtain rfl : o = o1 := Option.some.inj e1
    rw [hd] at d1
    obtain rfl := Data.fields.inj d1
    cases c1
  unfold pyNext
  refine wpAny_bind (wpAny_attempt (wpAny_callSpecial?_slot (name := Str.ofString "__next__") hit.typeIs slot_listiter_next (wpAny_call_entry slot_listiter_next hit.typeIs entry_listiter_next ?_ (args_listiter_next _))))
  refine (?_ : wpAny _ _ (field (.ref it) 0 >>= _) _ _ s)
  refine wpAny_bind (wpAny_field ho hd (x := .ref l) rfl ?_)
  wp_walk
  rw [hd]
  wp_walk
  rw [hdl]
  refine wpAny_pure ?_
  have none_there : items[(i : Int).toNat]? = none := hx
  dsimp only
  rw [none_there]
  dsimp only
  refine wpAny_bind (wpAny_rule (wpAny_bind (wpAny_setField ho hd (by show 0 < 2; decide) ?_)))
  obtain ⟨hh, o1, vs1, e1, d1, c1⟩ := hot
  refine stop_hot (A := A.in1) (x1 := x1) ⟨hh, o1, vs1, ?_, d1, c1⟩ fun h a up ⟨ox, hox, hcx⟩ => ?_
  · show (s.heap.update it _).get? x1 = some o1
    rw [Heap.get?_update_other _ _ apart.symm]
    exact e1
  · refine wpAny_bind (wpAny_isInstance (T := "StopIteration") (b := true) ⟨ox, hox, hcx⟩ isSubtype_stop (wpAny_pure (q h fun b o nb e => up b o ?_)))
    show (s.heap.update it _).get? b = some o
    rw [Heap.get?_update_other _ _ nb.symm]
    exact e
end
end El
namespace El
open PySem PySem.Spec PyProof.Rows L2 HotX
/-! ### a tuple taken apart there -/
section
variable {prog : Program} {w : World} {A : Around} {E : Value → Shared → Prop} {s : Shared} {x1 : Addr}
theorem tup_end_hot {it t : Addr} {i : Nat} {items : Array Value} {Q : Option Value → Shared → Prop} (hot : HotAt A x1 s.heap) (hit : IsTupIter s.heap it t i) (ht : IsTup s.heap t items) (hx : items[i]? = none)
    (q : ∀ h, (∀ b o, b ≠ it → s.heap.get? b = some o → h.get? b = some o) → Q none { s with heap := h }) : wpAny (model prog w) A (pyNext (.ref it)) Q E s := by
  obtain ⟨o, ho, hc, hd⟩ := id hit
  obtain ⟨ot, hot', _, nt, hdt⟩ := ht
  have apart : x1 ≠ it := fun z => by
    obtain ⟨_, o1, vs1, e1, d1, c1⟩ := hot
    rw [z, ho] at e1
    obtain rfl : o = o1 := Option.some.inj e1
    rw [hd] at d1
    obtain rfl := Data.fields.inj d1
    cases c1
  unfold pyNext
  refine wpAny_bind (wpAny_attempt (wpAny_callSpecial?_slot (name := Str.ofString "__next__") hit.typeIs slot_tupleiter_next (wpAny_call_entry slot_tupleiter_next hit.typeIs entry_tupleiter_next ?_ (args_tupleiter_next _))))
  refine (?_ : wpAny _ _ (field (.ref it) 0 >>= _) _ _ s)
  refine wpAny_bind (wpAny_field ho hd (x := .ref t) rfl ?_)
  wp_walk
  rw [hd]
  wp_walk
  rw [hdt]
  refine wpAny_pure ?_
  have none_there : items[(i : Int).toNat]? = none := hx
  dsimp only
  rw [none_there]
  dsimp only
  refine wpAny_bind (wpAny_rule (wpAny_bind (wpAny_setField ho hd (by show 0 < 2; decide) ?_)))
  obtain ⟨hh, o1, vs1, e1, d1, c1⟩ := hot
  refine stop_hot (A := A.in1) (x1 := x1) ⟨hh, o1, vs1, ?_, d1, c1⟩ fun h a up ⟨ox, hox, hcx⟩ => ?_
  · show (s.heap.update it _).get? x1 = some o1
    rw [Heap.get?_update_other _ _ apart.symm]
    exact e1
  · refine wpAny_bind (wpAny_isInstance (T := "StopIteration") (b := true) ⟨ox, hox, hcx⟩ isSubtype_stop (wpAny_pure (q h fun b o nb e => up b o ?_)))
    show (s.heap.update it _).get? b = some o
    rw [Heap.get?_update_other _ _ nb.symm]
    exact e
theorem apart_hot {t : Addr} {items : Array Value} {targets : List (Bool × (Value → Sem Unit))} {Q : Unit → Shared → Prop} (hot : HotAt A x1 s.heap) (ht : IsTup s.heap t items) (hn : targets.length = items.size) (hs : targets.findIdx? (·.1) = none)
    (q : ∀ h, (∀ b o, s.heap.get? b = some o → h.get? b = some o) → wpAny (model prog w) A (assignInOrder (targets.map (·.2)) items.toList) Q E { s with heap := h }) : wpAny (model prog w) A (unpack (.ref t) targets) Q E s := by
  have old : t < s.heap.objs.size := let ⟨_, e, _⟩ := ht; Heap.lt_size e
  unfold unpack
  rw [hn, hs]
  refine wpAny_bind (wpAny_holding ?_)
  unfold unpackItems notIterableAtAll
  refine wpAny_bind (wpAny_bind (wpAny_specialOf ht.typeIs slot_tuple_iter.lookup (wpAny_pure ?_)))
  rw [if_neg (by decide)]
  refine wpAny_bind (wpAny_holding (iter_tuple ht (wpAny_bind (wpAny_holding (draw_tuple (Nat.ne_of_lt old) items.size 0 _ _ ⟨_, Heap.get?_push_size _ rfl, rfl, rfl⟩ (ht.push _) (by omega) fun h1 hit1 sb1 => ?_)))))
  have whole : (items.toList.drop 0).take (0 + items.size - 0) = items.toList := by
    rw [List.drop_zero]
    exact List.take_of_length_le (by simp)
  have whole' : (items.toList.drop 0).take items.size = items.toList := by
    rw [List.drop_zero]
    exact List.take_of_length_le (by simp)
  rw [whole', if_neg (by simp)]
  have kept : ∀ b o, s.heap.get? b = some o → h1.get? b = some o := fun b o e => (sb1.2 b (Nat.ne_of_lt (Heap.lt_size e))).trans (Heap.get?_push_of_some _ e)
  have ht1 : IsTup h1 t items := let ⟨o, e, r⟩ := ht; ⟨o, kept _ _ e, r⟩
  obtain ⟨hh, o1, vs1, e1, d1, c1⟩ := hot
  refine wpAny_bind (wpAny_holding (tup_end_hot (x1 := x1) ⟨hh, o1, vs1, kept _ _ e1, d1, c1⟩ hit1 ht1 (by simp) fun h2 k2 => ?_))
  rw [if_neg (by decide)]
  exact wpAny_pure (q h2 fun b o e => k2 b o (Nat.ne_of_lt (Heap.lt_size e)) (kept b o e))
end
end El
namespace El
open PySem PySem.Spec PyProof.Rows L2 HotX L2H
/-! ### [e for t in l if c] where an exception is handled -/
/-- the one that is handled stands, whatever else is so -/
def HotBlk (Y : Cx) : Prop := ∀ (pins : List (Addr × Obj)) (σ : L2.St) (H : Hp) (s : Shared), Inv Y pins σ H s → ∃ x1, HotAt Y.A x1 s.heap
theorem HotC.blk {X : Cx} (h : HotC X) : HotBlk X := fun _ _ _ _ I => h.at I
/-- a, b = a tuple, there -/
theorem pgTupH {X : Cx} {es : List Expr} {k : Nat} {t : TGs} {pos : Pos} (K : PySem.W.Frag) (n : Nat) (hot : HotBlk X) (h : PGs X es t) (hn : (assignEach es X.env).length = n := by rfl) (hst : (assignEach es X.env).findIdx? (·.1) = none := by rfl) (e : X.K = K := by rfl) :
    PG X (.Tuple es k pos) (gTup K n t) := by
  subst e
  constructor
  intro pins s σ H v u Q I r asks
  obtain ⟨a, xs, rfl, hq, ln, asks⟩ := asks
  obtain rfl : u = Value.ref a := r
  obtain ⟨its, rv, tup, _⟩ := I.tuple hq
  obtain ⟨x1, hx⟩ := hot pins σ H s I
  rw [assign_Tuple]
  refine wpAny_bind (wpAny_standAt (apart_hot hx tup ?_ hst fun h2 up => ?_))
  · rw [hn, ← ln, rv.length]
    rfl
  · exact h.run pins _ σ H xs _ Q (I.kept (t' := s.toks) up) rv asks
/-- what a turn over the list at a is to reach, D the new list -/
def RunL (K : PySem.W.Frag) (a D : Addr) (g : TG) (tt : TT) (te : TE) (vs : List Nat) (σ : L2.St) (W : Nat → Nat → Hp → Prop) (Qe : Hp → Prop) : Prop := ∀ k m H, W k m H →
  ((Itl K a).stop k H ∧ Qe H) ∨ ((Itl K a).go k H ∧ ∃ Nx : Hp → Prop, (∀ H', Nx H' → ∃ m', m' < m ∧ W (k + 1) m' H') ∧ ∀ x H', (Itl K a).yld k H x H' → g x (wipe σ vs) H' fun σ2 H2 => wipe σ2 vs = wipe σ vs ∧ tt σ2 H2 fun b H3 =>
    if b = true then te σ2 H3 fun y H4 => ∃ acc, H4 D = some (.lst acc) ∧ acc.length < sizeLine ∧ Nx (upd H4 D (.lst (acc ++ [y]))) else Nx H3)
section
variable {Y : Cx} {it a D x1 : Addr} {R : Result → Shared → Prop} {elt tg iter : Expr} {ifs : List Expr} {scope : Scope} {pos : Pos} {g : TG} {tt : TT} {te : TE} {vs : List Nat} {σ : L2.St} {W : Nat → Nat → Hp → Prop} {Qe : Hp → Prop}
/-- the iterator turned, all else as it was -/
theorem Inv.iterAt {σ1 : L2.St} {H : Hp} {s : Shared} {h : Heap} (I : Inv Y [] σ1 H s) (f : FpOk Y [] H it) (k : ∀ b o, b ≠ it → s.heap.get? b = some o → h.get? b = some o) : Inv Y [] σ1 H { s with heap := h } :=
  I.turned (t' := s.toks) k f.1 f.2.1 f.2.2.2.1 f.2.2.2.2.1 f.2.2.2.2.2
theorem loop_hot (hot : ∀ σ1 H s, Inv Y [] σ1 H s → HotAt Y.A x1 s.heap) (fy : ∀ H : Hp, H it = none → FpOk Y [] H it) (no : Y.xe = fun _ _ => False) (pg : PG Y tg g) (pt : PTs Y ifs tt) (pe : PE Y elt te) (run : RunL Y.K a D g tt te vs σ W Qe)
    (fin : ∀ H s, Inv Y [] (wipe σ vs) H s → H it = none → Qe H → R (.ok .next) s) {m k : Nat} {H : Hp} {s : Shared} (I : Inv Y [] (wipe σ vs) H s) (st : s.heap.IsListIter it a k) (n : H it = none) (w : W k m H) :
    codeAny (model Y.prog Y.w) Y.A (.compLoop (.ListComp elt [⟨tg, iter, ifs, 0⟩] scope pos) 0 (.ref it) (.ref D) Y.env) R s := by
  have quiet : ∀ {α : Type} {t : Sem α} {P Q : α → Shared → Prop} {E : Value → Shared → Prop} {s : Shared}, wpAny (model Y.prog Y.w) Y.A t P Y.xe s → (∀ u s1, P u s1 → Q u s1) → wpAny (model Y.prog Y.w) Y.A t Q E s := fun h q => wpAny_mono h q fun e s1 z => by
    rw [no] at z
    exact z.elim
  refine compLoop_any (fun j s' => ∃ k H', Inv Y [] (wipe σ vs) H' s' ∧ s'.heap.IsListIter it a k ∧ H' it = none ∧ W k j H') (fun j s' ⟨k, H', J, stj, nj, wj⟩ => ?_) m ⟨k, H, I, st, n, w⟩
  rcases run k j H' wj with ⟨⟨xs, hq, hx⟩, qe⟩ | ⟨⟨xs, x, hq, hx⟩, Nx, next, step⟩
  · obtain ⟨its, rv, pl, _⟩ := J.list hq
    have out : its.toArray[k]? = none := by
      rw [List.getElem?_toArray]
      exact List.getElem?_eq_none (by rw [← rv.length]; exact hx)
    exact next_end_hot (hot _ _ _ J) stj pl.isList out fun h kp => fin H' _ (Inv.iterAt J (fy _ nj) kp) nj qe
  · obtain ⟨its, rv, pl, _⟩ := J.list hq
    obtain ⟨u, eu, ru⟩ := rv.get hx
    refine wpAny_pyNext_list_item stj pl.isList (x := u) (by rw [List.getElem?_toArray]; exact eu) fun h sth sb => ?_
    have J1 := Inv.iterAt J (fy _ nj) fun b o nb e => (sb.2 b nb).trans e
    obtain ⟨oi, ei, ci, di⟩ := id sth
    refine go_of (s := { s' with heap := h }) ei ci di (by decide) ?_
    -- the iterator pinned while the turn runs
    have nc : ∀ v, oi.data ≠ .cell v := fun v z => by
      rw [di] at z
      cases z
    have J2 : Inv Y [(it, oi)] (wipe σ vs) H' { s' with heap := h } := J1.pins_of fun p hp => by
      rw [List.mem_singleton.mp hp]
      exact ⟨ei, nj, (fy _ nj).2.1, (fy _ nj).2.2.1, nc⟩
    refine quiet (pg.run _ _ _ _ x u _ J2 ru (step x H' ⟨rfl, fun ys hy => by rw [J.list_inj hy hq]; exact hx⟩)) fun _ s2 ⟨σ2, H2, I2, eσ, q2⟩ => ?_
    refine quiet (pt.run _ _ _ _ _ I2 q2) fun b s3 ⟨H3, I3, q3⟩ => ?_
    have again : ∀ {s4 : Shared} {H4 : Hp}, Inv Y [(it, oi)] σ2 H4 s4 → Nx H4 → ∃ j', j' < j ∧ ∃ k H', Inv Y [] (wipe σ vs) H' s4 ∧ s4.heap.IsListIter it a k ∧ H' it = none ∧ W k j' H' := fun {s4 H4} I4 nx => by
      obtain ⟨j', lt, w'⟩ := next H4 nx
      obtain ⟨e4, n4, _⟩ := I4.pin (it, oi) (List.mem_append_right _ (List.mem_singleton.mpr rfl))
      have ln : (wipe σ vs).length = σ2.length := by rw [← eσ, wipe_length]
      have I5 : Inv Y [] σ2 H4 s4 := I4.pins_of fun p hp => absurd hp (by simp)
      exact ⟨j', lt, k + 1, H4, I5.weak ln (fun i v e => (wipe_some (eσ ▸ e)).1), ⟨oi, e4, ci, di⟩, n4, w'⟩
    cases b with
    | false => exact again I3 q3
    | true =>
      refine quiet (pe.run _ _ _ _ _ I3 q3) fun y s4 ⟨yv, H4, I4, r4, acc, eD, lt, nx⟩ => ?_
      exact app_ok I4 eD lt r4 fun s5 I5 => again I5 nx
end
section
variable {X : Cx} {elt tg iter : Expr} {ifs : List Expr} {scope : Scope} {own : List (Str × Nat)} {pos : Pos} {g : TG} {tt : TT} {te te0 : TE}
theorem blk_run {pins : List (Addr × Obj)} {σ : L2.St} {H3 : Hp} {s3 : Shared} {Q : VK} {it a D : Addr} {m : Nat} {W : Nat → Nat → Hp → Prop} (hc : HotC X) (hN : X.N.Nodup) (ok : BlkOk X.N X.env.scope scope own) (hg : ∀ (s : Shared) (H : Hp) (C : Addr) (cl : List (Str × Addr)) (fp : List Addr), HotBlk (X.blk s H scope (compEnvC scope cl C X.env) fp) → PG (X.blk s H scope (compEnvC scope cl C X.env) fp) tg g)
    (ht : ∀ (s : Shared) (H : Hp) (C : Addr) (cl : List (Str × Addr)) (fp : List Addr), PTs (X.blk s H scope (compEnvC scope cl C X.env) fp) ifs tt) (he : ∀ (s : Shared) (H : Hp) (C : Addr) (cl : List (Str × Addr)) (fp : List Addr), PE (X.blk s H scope (compEnvC scope cl C X.env) fp) elt te)
    (I : Inv X pins σ H3 s3) (st : s3.heap.IsListIter it a 0) (f : FpOk X pins H3 it) (w0 : W 0 m H3) (run : RunL X.K a D g tt te (own.map (·.2)) σ W fun H => Q (.ref D) H) :
    codeAny (model X.prog X.w) X.A (.compStart (.ListComp elt [⟨tg, iter, ifs, 0⟩] scope pos) 0 (.ref it) (.ref D) (compEnvC scope (cellsFrom (s3.heap.objs.size + 1) scope.names (cloFrom X.env.cells scope.names [])) s3.heap.objs.size X.env))
      (compPost (model X.prog X.w) X.A X.xe none (EP X pins σ Q) (.ref D) s3.heap.objs.size) { s3 with heap := pushCells (s3.heap.push { cls := .type "dict", data := .dict #[] }) scope.names } := by
  obtain ⟨oi, ei, ci, di⟩ := id st
  have lit : it < s3.heap.objs.size := Heap.lt_size ei
  have I4 := block_start (fp := [it]) I ok hN fun b hb => by
    rw [List.mem_singleton.mp hb]
    exact ⟨f, lit⟩
  have st4 : (pushCells (s3.heap.push { cls := .type "dict", data := .dict #[] }) scope.names).IsListIter it a 0 := ⟨oi, pushCells_keeps _ _ _ _ (Heap.get?_push_of_some _ ei), ci, di⟩
  obtain ⟨ce, ece⟩ : ∃ ce, ce = compEnvC scope (cellsFrom (s3.heap.objs.size + 1) scope.names (cloFrom X.env.cells scope.names [])) s3.heap.objs.size X.env := ⟨_, rfl⟩
  have pg0 := hg s3 H3 s3.heap.objs.size (cellsFrom (s3.heap.objs.size + 1) scope.names (cloFrom X.env.cells scope.names [])) [it]
  have pt := ht s3 H3 s3.heap.objs.size (cellsFrom (s3.heap.objs.size + 1) scope.names (cloFrom X.env.cells scope.names [])) [it]
  have pe := he s3 H3 s3.heap.objs.size (cellsFrom (s3.heap.objs.size + 1) scope.names (cloFrom X.env.cells scope.names [])) [it]
  have cL : ce.locals = s3.heap.objs.size := by
    rw [ece]
    rfl
  rw [← ece] at I4 pg0 pt pe ⊢
  clear ece
  have mit : it ∈ (X.blk s3 H3 scope ce [it]).ex := List.mem_singleton.mpr rfl
  have fy : ∀ H : Hp, H it = none → FpOk (X.blk s3 H3 scope ce [it]) [] H it := fun H n => ⟨n, (I4.ok.exf it mit).1, I4.ok.exfs it mit, .inl mit, fun x c e => (I4.ok.exf it mit).2 x c e, fun p hp => absurd (show p ∈ ([] : List (Addr × Obj)) ++ [] from hp) (by simp)⟩
  obtain ⟨p, ⟨hh, v1, e1, c1⟩, hp⟩ := hc
  obtain ⟨gp, np, lp, fp, _⟩ := I.pin p (List.mem_append_left _ hp)
  have pit : p.1 ≠ it := f.2.2.2.2.2 p (List.mem_append_left _ hp)
  have hot : ∀ pins1 σ1 H s, Inv (X.blk s3 H3 scope ce [it]) pins1 σ1 H s → HotAt X.A p.1 s.heap := fun _ σ1 H s J =>
    ⟨hh, p.2, v1, J.base.keep p.1 p.2 gp np (fun hm => (List.mem_cons.mp (I.stkSub p.1 hm)).elim lp fp) (fun hm => pit (List.mem_singleton.mp hm)), e1, c1⟩
  have pg := pg0 fun p1 σ1 H s J => ⟨p.1, hot p1 σ1 H s J⟩
  have loop : codeAny (model X.prog X.w) X.A (.compLoop (.ListComp elt [⟨tg, iter, ifs, 0⟩] scope pos) 0 (.ref it) (.ref D) ce) (compPost (model X.prog X.w) X.A X.xe none (EP X pins σ Q) (.ref D) s3.heap.objs.size) { s3 with heap := pushCells (s3.heap.push { cls := .type "dict", data := .dict #[] }) scope.names } :=
    loop_hot (Y := X.blk s3 H3 scope ce [it]) (hot []) fy rfl pg pt pe run (fun H s J nit qe => ?_) I4 st4 f.1 w0
  · exact codeAny_compStart_list loop (wpAny_pyIter_listiter st4 loop)
  · -- back where the def stands
    have back : Inv X pins σ H s := I.call' (ch := [it]) J.os J.base J.hok J.bare fun b hb => by
      rw [List.mem_singleton.mp hb]
      exact ⟨f.2.2.2.1, f.2.1, f.2.2.2.2.1, f.2.2.2.2.2⟩
    obtain ⟨mC, nsC, _⟩ := J.loc
    have nC : H s3.heap.objs.size = none := by
      have z : H ce.locals = none := J.free
      rw [cL] at z
      exact z
    have nsC' : s.heap.Ns ce.locals mC := nsC
    rw [cL] at nsC'
    have fC := I.fpOk (Nat.le_refl _) nC
    exact ⟨mC, nsC', fun h sb => ⟨.ref D, H, back.turned (t' := s.toks) (fun b o nb e => (sb.2 b nb).trans e) fC.1 fC.2.1 fC.2.2.2.1 fC.2.2.2.2.1 fC.2.2.2.2.2, rfl, qe⟩⟩
theorem pe_lcH (hc : HotC X) (hN : X.N.Nodup) (hi : PE X iter te0) (ok : BlkOk X.N X.env.scope scope own) (hg : ∀ (s : Shared) (H : Hp) (C : Addr) (cl : List (Str × Addr)) (fp : List Addr), HotBlk (X.blk s H scope (compEnvC scope cl C X.env) fp) → PG (X.blk s H scope (compEnvC scope cl C X.env) fp) tg g)
    (ht : ∀ (s : Shared) (H : Hp) (C : Addr) (cl : List (Str × Addr)) (fp : List Addr), PTs (X.blk s H scope (compEnvC scope cl C X.env) fp) ifs tt) (he : ∀ (s : Shared) (H : Hp) (C : Addr) (cl : List (Str × Addr)) (fp : List Addr), PE (X.blk s H scope (compEnvC scope cl C X.env) fp) elt te)
    (hs : ∀ x, foldedSetIterable iter X.env x = pure x := by intro _; rfl) : PE X (.ListComp elt [⟨tg, iter, ifs, 0⟩] scope pos) (tLc (iList X.K te0) g tt te (own.map (·.2))) := by
  refine ⟨fun pins s σ H Q I h => ?_⟩
  have open_ : ∀ y ∈ scope.names, y.2 = .free → ∃ c, X.env.cells.lookup y.1 = some c := fun y hy e => (ok.free y hy e).elim (fun z => I.ok.has _ (.inl z)) fun z => I.ok.has _ (.inr z)
  rw [eval_ListComp]
  refine wpAny_comprehension_free (use := none) rfl hs (closure_ok open_) ok.kind (fun y hy e => (ok.uniq y hy).trans (by rw [e])) (wpAny_mono (hi.run pins s σ H _ I h) (fun v s1 told => ?_) fun _ _ z => z)
  obtain ⟨x, H1, I1, rx, a, rfl, ⟨xs, hq⟩, q⟩ := told
  obtain rfl : v = Value.ref a := rx
  obtain ⟨its, rv, pl, _⟩ := I1.list hq
  refine wpAny_pyIter_list pl.isList (wpAny_newObj_type (newEnv_comp ?_) (by show 0 ≤ sizeLine; decide))
  -- the iterator
  generalize eit : s1.heap.objs.size = it
  generalize eh2 : s1.heap.push { cls := .type "list_iterator", data := .fields #[.ref a, .int 0 0] } = h2
  have up2 : ∀ b o, s1.heap.get? b = some o → h2.get? b = some o := fun b o e => by
    rw [← eh2]
    exact Heap.get?_push_of_some _ e
  have st2 : h2.IsListIter it a 0 := by
    rw [← eh2, ← eit]
    exact ⟨_, Heap.get?_push_size _ rfl, rfl, rfl⟩
  have I2 : Inv X pins σ H1 { s1 with heap := h2 } := I1.kept (t' := s1.toks) up2
  have f2 : FpOk X pins H1 it := by
    rw [← eit]
    exact I1.fpOk (Nat.le_refl _) (I1.hok.fresh (Nat.le_refl _))
  have nD : H1 h2.objs.size = none := I2.hok.fresh (Nat.le_refl _)
  obtain ⟨W, ⟨m, w0⟩, run⟩ := q h2.objs.size nD
  have I3 : Inv X pins σ (upd H1 h2.objs.size (.lst [])) { s1 with heap := h2.push { cls := .type "list", data := .seq ([] : List Value).toArray } } :=
    I2.laid (t' := s1.toks) (fun b o e => Heap.get?_push_of_some _ e) (Nat.le_refl _) ⟨Nat.zero_le _, [], 0, .nil, Heap.get?_push_size _ rfl⟩
  have lit : it < h2.objs.size := let ⟨_, e, _⟩ := st2; Heap.lt_size e
  have st3 : (h2.push { cls := .type "list", data := .seq ([] : List Value).toArray }).IsListIter it a 0 := let ⟨o, e, r⟩ := st2; ⟨o, Heap.get?_push_of_some _ e, r⟩
  have f3 : FpOk X pins (upd H1 h2.objs.size (.lst [])) it := ⟨by rw [upd_ne (Nat.ne_of_lt lit)]; exact f2.1, f2.2⟩
  exact blk_run hc hN ok hg ht he I3 st3 f3 w0 run
end
end El
namespace El
open PySem PySem.Spec PyProof.Rows L2 HotX L2H
/-! ### a def called where an exception is handled: its promise is told which -/
abbrev ZSp := Addr → Value → Option Addr → Sp
abbrev NoX : XK := fun _ _ _ => False
structure FnZ (P : Program) (w : World) (K : PySem.W.Frag) (mg : Str → Option Value) (base : Heap) (k : Nat) (f : Addr) (fd : FuncData) (ps : List Str) (sp : ZSp) : Prop where
  len : ∀ a c d vs H Q E, sp a c d vs H Q E → vs.length = ps.length
  run : ∀ (A : Around) (outer : List Env) (s : Shared) (H : Hp) (args : Args) (us : List Value) (vs : List V) (Q : VK) (a : Addr) (oe : Obj) (c : Value) (d : Option Addr), RoomH k A → A.handled = some (.ref a) → L2N.Zn c d oe → (∃ fv, oe.data = .fields fv) → PinOk outer H s (a, oe) →
    Env0 P w K mg base A outer s H → BindsTo s fd args (ps.zip us) → Vals vs us → sp a c d vs H Q NoX → codeAny (model P w) A (.call (.ref f) args) (CR CX0 outer P w H s Q NoX) s
theorem hot_of {A : Around} {a : Addr} {oe : Obj} {c : Value} {d : Option Addr} (h : A.handled = some (.ref a)) (z : L2N.Zn c d oe) (f : ∃ fv, oe.data = .fields fv) : Hot1 A (a, oe) :=
  ⟨h, let ⟨fv, e⟩ := f; ⟨fv, e, z.2.2 fv e⟩⟩
theorem mark_of {A : Around} {v : Value} (h : A.handled = some v) : A.mark (some v) = A := by
  cases A
  cases h
  rfl
section
variable {P : Program} {w : World} {K : PySem.W.Frag} {mg : Str → Option Value} {base : Heap} {x qual : Str} {st : Stmt} {f : Addr} {fd : FuncData} {N ps : List Str} {k : Nat} {sp : ZSp}
theorem okZ (F : Fun K x qual st f fd) (S : FnScope N ps (defScope st)) (len : ∀ a c d vs H Q E, sp a c d vs H Q E → vs.length = ps.length)
    (body : ∀ (cdv : Value) (A : Around) (outer : List Env) (s : Shared) (H : Hp) (vs : List V) (Q : VK) (a : Addr) (oe : Obj) (c : Value) (d : Option Addr), RoomH k (A.deeper (envOfC qual (defScope st) s.heap.objs.size f cdv)) → Hot1 A (a, oe) → L2N.Zn c d oe → (∃ fv, oe.data = .fields fv) → sp a c d vs H Q NoX →
      ∃ t, PSs ((cxOf CX0 P w K mg base N qual (defScope st) f cdv A outer s H NoX).suite a [(a, oe)]) (defBody st) t ∧ t { nx := fun _ H' => Q .non H', rt := Q } (L2.start N vs) H) : FnZ P w K mg base (k + 1) f fd ps sp := by
  obtain ⟨oc, od, kV, doc, pm, an, cdv, ct, osl, rfl, lk, code⟩ := F.ex
  refine ⟨len, fun A outer s H args us vs Q a oe c d hr hh hz hf pin e0 bd rv asks => ?_⟩
  have inK : K.In s.heap := e0.mod.kin.keeps fun b o e => (e0.bs b o e).1
  have free : s.heap.NoLimit := e0.mod.nolimit.keeps fun b o e => (e0.bs b o e).1
  have ln := len _ _ _ _ _ _ _ asks
  have sorts : ∀ y ∈ ps.zip us, (defScope st).names.lookup y.1 = some .local ∨ ((defScope st).names.lookup y.1 = some .cell ∧ ((cellsFrom (s.heap.objs.size + 1) (defScope st).names []).lookup y.1).isSome = true) := fun y hy =>
    (S.par y.1 (List.of_mem_zip (show (y.1, y.2) ∈ ps.zip us from hy)).1).elim .inl fun z => .inr ⟨z, PySem.W.cellsFrom_some _ _ _ (.inl z)⟩
  refine codeAny_call_function hr.depth (inK _ _ lk) rfl S.co S.gen rfl (PySem.W.codeRec_of inK code) (bd _ _ _ _ (wpAny_newFunctionEnv_cells S.kind sorts fun env he s1 y => ?_))
  subst he
  refine ⟨free.keeps y.toInCall.keep, codeAny_func ?_⟩
  obtain ⟨t, ht, asks2⟩ := body cdv A outer s H vs Q a oe c d (hr.deeper _) (hot_of hh hz hf) hz hf asks
  have I := inv_startH (CX := CX0) (E := NoX) S pin e0 ln rv y
  have J : Inv ((cxOf CX0 P w K mg base N qual (defScope st) f cdv A outer s H NoX).suite a [(a, oe)]) [] (L2.start N vs) H s1 :=
    ⟨⟨I.ok.mod, I.ok.kind, I.ok.glob, I.ok.blt, I.ok.above, I.ok.inj, I.ok.has, I.ok.cab, (fun z => nomatch (show false = true from z)), I.ok.frames, I.ok.stk, I.ok.exf, I.ok.bs, I.ok.bsz, I.ok.noex, I.ok.exfs, I.ok.funs, I.ok.frf⟩, I.os, I.bare, I.base, I.loc, I.cell, I.free, I.freeC, I.pin, I.hok, I.len⟩
  have went := ht.run [] s1 (L2.start N vs) H _ J asks2
  have same : (A.deeper (envOfC qual (defScope st) s.heap.objs.size f cdv)).mark (some (.ref a)) = A.deeper (envOfC qual (defScope st) s.heap.objs.size f cdv) := mark_of hh
  have turn : ∀ {A2 : Around}, (A.deeper (envOfC qual (defScope st) s.heap.objs.size f cdv)).mark (some (.ref a)) = A2 → wpAny (model P w) A2 (execs (defBody st) (envOfC qual (defScope st) s.heap.objs.size f cdv))
      (SP ((cxOf CX0 P w K mg base N qual (defScope st) f cdv A outer s H NoX).suite a [(a, oe)]) [] { nx := fun _ H' => Q .non H', rt := Q }) (fun _ _ => False) s1 := fun e => e ▸ went
  have went2 := turn same
  refine wpAny_mono went2 (fun fl s2 told => ?_) fun _ _ z => z.elim
  match fl, told with
  | .ret u, told =>
    obtain ⟨v, σ2, H2, I2, ru, q⟩ := told
    exact ⟨v, H2, I2.os, I2.bare, I2.base, I2.hok, ru, q⟩
  | .next, told =>
    obtain ⟨σ2, H2, I2, q⟩ := told
    exact ⟨.non, H2, I2.os, I2.bare, I2.base, I2.hok, rfl, q⟩
  | .brk, told => exact told.elim fun _ z => z.elim fun _ z => (show False from z.2).elim
  | .cont, told => exact told.elim fun _ z => z.elim fun _ z => (show False from z.2).elim
end
/-- such a def, as its callers see it -/
structure DfZ (P : Program) (w : World) (K : PySem.W.Frag) (mg : Str → Option Value) (base : Heap) (k : Nat) (x : Str) (ps : List Str) (st : Stmt) (sp : ZSp) : Prop where
  ex : ∃ (f : Addr) (fd : FuncData), Fun K x x st f fd ∧ mg x = some (.ref f) ∧ FnZ P w K mg base k f fd ps sp ∧ Binds K fd ps []
theorem At.dfz {P : Program} {w : World} {K : PySem.W.Frag} {mg : Str → Option Value} {base : Heap} {k : Nat} {x : Str} {ps : List Str} {st : Stmt} {sp : ZSp} (A : At K mg x ps st)
    (h : ∀ f fd, Fun K x x st f fd → FnZ P w K mg base k f fd ps sp) : DfZ P w K mg base k x ps st sp := by
  obtain ⟨f, fd, F, m, b⟩ := A.ex
  exact ⟨f, fd, F, m, h f fd F, b⟩
section
variable {X : Cx} {k : Nat} {x : Str} {ps : List Str} {st : Stmt} {sp : ZSp} {p pos : Pos} {e : Expr} {es : List Expr} {t : TA} {a : Addr} {oe : Obj} {c : Value} {d : Option Addr} {pn : List (Addr × Obj)}
def tCallZ (sp : ZSp) (a : Addr) (c : Value) (d : Option Addr) (t : TA) : TE := fun σ H Q => t σ H fun vs H1 => sp a c d vs H1 Q NoX
theorem pe_dfZ (D : DfZ X.prog X.w X.K X.mg X.base k x ps st sp) (hz : L2N.Zn c d oe) (hf : ∃ fv, oe.data = .fields fv) (hr : Room k X.A) (hg : Gl X x) (ha : PA (X.suite a ((a, oe) :: pn)) (e :: es) t) (hdb : (x == ("__debug__" : Str)) = false := by decide)
    (he : starEach (e :: es) X.env = (false, eval e X.env) :: starEach es X.env := by rfl) (hpl : (backTo pos (starEach es X.env)).any (·.1) = false := by rfl) : PE (X.suite a ((a, oe) :: pn)) (.Call (.Name x p) (e :: es) [] pos) (tCallZ sp a c d t) := by
  obtain ⟨f, fd, F, m, G, b⟩ := D.ex
  have kp := F.kp
  constructor
  intro pins s σ H Q I asks
  apply wpAny_Call_Name_kw
  apply ld_glob I hg m _ hdb
  refine PySem.W.callWith_K (h₀ := X.base) I.ok.mod.kin kp (wpAny_mono (ha.run pos pins s σ H _ I asks) (fun us s1 got => ?_) fun _ _ z => z) he hpl
  obtain ⟨vs, H1, I1, rv, q⟩ := got
  refine ⟨I1.kIn, ?_⟩
  have ln : us.length = ps.length := by
    rw [← rv.length]
    exact G.len _ _ _ _ _ _ _ q
  have bound := b s1 us I1.kIn (by rw [List.append_nil]; exact ln)
  rw [List.append_nil] at bound
  obtain ⟨g1, n1, l1, f1, c1⟩ := I1.pin (a, oe) (List.mem_append_left _ List.mem_cons_self)
  have pinned : PinOk X.stack H1 s1 (a, oe) := ⟨g1, n1, fun hm => (List.mem_cons.mp (I1.stkSub a hm)).elim l1 f1, c1⟩
  refine wpAny_call (codeAny_mono (G.run (X.A.mark (some (.ref a))) X.stack s1 H1 ⟨us, []⟩ us vs Q a oe c d ⟨hr.dp, hr.un⟩ rfl hz hf pinned I1.env0 bound rv q) fun r s2 told => ?_)
  match r, told with
  | .ok (.ret _), told => exact I1.after told
  | .error _, told => exact told.elim
end
end El
namespace El
open PySem PySem.Spec PyProof.Rows L2
/-! ### the first guest that there can't be; the first room with a wrong age in it -/
def BadAt (gs : List (Int × Int)) (i : Nat) : Prop := ∃ g, gs[i]? = some g ∧ (g.2 < 0 ∨ g.1 ∈ (gs.take i).map (·.1))
def FirstBad (gs : List (Int × Int)) (i : Nat) : Prop := BadAt gs i ∧ ∀ j, j < i → ¬ BadAt gs j
theorem fit_of {gs : List (Int × Int)} (h : ∀ i, ¬ BadAt gs i) : Fit gs := by
  refine ⟨?_, fun g m => ?_⟩
  · rw [List.nodup_iff_pairwise_ne, List.pairwise_iff_getElem]
    intro i j hi hj hij z
    rw [List.length_map] at hi hj
    rw [List.getElem_map, List.getElem_map] at z
    refine h j ⟨gs[j], List.getElem?_eq_getElem hj, .inr ?_⟩
    rw [← z]
    refine List.mem_map_of_mem (List.mem_iff_getElem?.mpr ⟨i, ?_⟩)
    rw [List.getElem?_take_of_lt hij, List.getElem?_eq_getElem hi]
  · obtain ⟨i, e⟩ := List.mem_iff_getElem?.mp m
    exact Int.not_lt.mp fun z => h i ⟨g, e, .inl z⟩
theorem Fit.none_bad {gs : List (Int × Int)} (F : Fit gs) (i : Nat) : ¬ BadAt gs i := fun ⟨g, e, h⟩ => by
  rcases h with h | h
  · have := F.pos g (List.mem_of_getElem? e)
    omega
  · exact F.take_no e h
theorem bad_take {gs : List (Int × Int)} {i j : Nat} (h : j < i) (hb : BadAt (gs.take i) j) : BadAt gs j := by
  obtain ⟨g, e, z⟩ := hb
  rw [List.getElem?_take_of_lt h] at e
  rw [List.take_take, Nat.min_eq_left (Nat.le_of_lt h)] at z
  exact ⟨g, e, z⟩
theorem fit_take {gs : List (Int × Int)} {i : Nat} (h : ∀ j, j < i → ¬ BadAt gs j) : Fit (gs.take i) := fit_of fun j hb => by
  have hj : j < i := by
    obtain ⟨g, e, _⟩ := hb
    have := at_lt e
    rw [List.length_take] at this
    omega
  exact h j hj (bad_take hj hb)
/-- what of an arrangement has been gone through is as it should be -/
def Seemly (ages pre : List Int) : Prop := pre.Nodup ∧ ∀ b ∈ pre, b ∈ ages
theorem Seemly.nil (ages : List Int) : Seemly ages [] := ⟨List.nodup_nil, fun b m => by cases m⟩
theorem Seemly.snoc {ages pre : List Int} {a : Int} (h : Seemly ages pre) (h1 : a ∈ ages) (h2 : a ∉ pre) : Seemly ages (pre ++ [a]) := by
  refine ⟨List.nodup_append.mpr ⟨h.1, by simp, fun x hx y hy => ?_⟩, fun b m => ?_⟩
  · rw [List.mem_singleton.mp hy]
    exact fun z => h2 (z ▸ hx)
  · rcases List.mem_append.mp m with m | m
    · exact h.2 b m
    · rw [List.mem_singleton.mp m]
      exact h1
theorem Seemly.len {ages pre : List Int} (h : Seemly ages pre) : pre.length ≤ ages.length := List.Nodup.length_le_of_subset h.1 h.2
theorem Seemly.left {ages pre l : List Int} (h : Seemly ages (pre ++ l)) : Seemly ages pre := ⟨(List.nodup_append.mp h.1).1, fun b m => h.2 b (List.mem_append_left _ m)⟩
theorem Seemly.perm {ages pre : List Int} (h : Seemly ages pre) (nd : ages.Nodup) (hl : ¬ pre.length < ages.length) : pre.Perm ages := by
  refine (List.perm_ext_iff_of_nodup h.1 nd).mpr fun a => ⟨h.2 a, fun m => Classical.byContradiction fun z => ?_⟩
  have := Seemly.len (h.snoc m z)
  rw [List.length_append, List.length_singleton] at this
  omega
/-- the first room in which stands an age that none has, or that stands ahead -/
def FirstOdd (ages : List Int) (rs : List (List Int)) (k : Nat) : Prop := ∃ (r : List Int) (j : Nat) (a : Int), rs[k]? = some r ∧ r[j]? = some a ∧ Seemly ages ((rs.take k).flatten ++ r.take j) ∧ (a ∉ ages ∨ a ∈ (rs.take k).flatten ++ r.take j)
/-- all that stands there is as it should be, but somebody is left out -/
def LeftOut (ages : List Int) (rs : List (List Int)) : Prop := Seemly ages rs.flatten ∧ rs.flatten.length < ages.length
theorem flat_pre {rs : List (List Int)} {k : Nat} {r : List Int} (e : rs[k]? = some r) {i : Nat} (h : i < k) : ∃ l, (rs.take k).flatten = (rs.take (i + 1)).flatten ++ l := by
  have := List.take_append_drop (i + 1) (rs.take k)
  refine ⟨((rs.take k).drop (i + 1)).flatten, ?_⟩
  rw [← List.flatten_append]
  congr 1
  rw [show rs.take (i + 1) = (rs.take k).take (i + 1) by rw [List.take_take, Nat.min_eq_left (by omega)]]
  exact this.symm
/-- behind the first odd one nothing fine goes on: position (i, m) is ahead of it, or it is there -/
theorem odd_ahead {ages : List Int} {rs : List (List Int)} {k j : Nat} {r : List Int} {a : Int} (er : rs[k]? = some r) (ea : r[j]? = some a) (hb : a ∉ ages ∨ a ∈ (rs.take k).flatten ++ r.take j) (hp : Seemly ages ((rs.take k).flatten ++ r.take j))
    {i m : Nat} {s : List Int} {b : Int} (es : rs[i]? = some s) (eb : s[m]? = some b) (hf : Seemly ages ((rs.take i).flatten ++ s.take m)) (hbad : b ∉ ages ∨ b ∈ (rs.take i).flatten ++ s.take m) : i = k ∧ m = j := by
  have one : ∀ {k j : Nat} {r : List Int} {a : Int}, rs[k]? = some r → r[j]? = some a → (a ∉ ages ∨ a ∈ (rs.take k).flatten ++ r.take j) → ∀ {i m : Nat} {s : List Int}, rs[i]? = some s → Seemly ages ((rs.take i).flatten ++ s.take m) → m ≤ s.length → ¬ (k < i ∨ (k = i ∧ j < m)) := fun {k j r a} er ea hb {i m s} es hf hm hlt => by
    have : ∃ l, (rs.take i).flatten ++ s.take m = ((rs.take k).flatten ++ r.take j ++ [a]) ++ l := by
      rcases hlt with h | ⟨rfl, h⟩
      · obtain ⟨l, e⟩ := flat_pre es h
        refine ⟨r.drop (j + 1) ++ l ++ s.take m, ?_⟩
        rw [e, take_snoc_flat er]
        have e2 : r = r.take j ++ [a] ++ r.drop (j + 1) := by
          rw [← take_snoc ea, List.take_append_drop]
        conv => lhs; rw [e2]
        simp
      · obtain rfl : r = s := Option.some.inj (er.symm.trans es)
        refine ⟨(r.take m).drop (j + 1), ?_⟩
        have e2 : r.take m = r.take j ++ [a] ++ (r.take m).drop (j + 1) := by
          rw [← take_snoc ea]
          have := List.take_append_drop (j + 1) (r.take m)
          rw [List.take_take, Nat.min_eq_left (by omega)] at this
          exact this.symm
        conv => lhs; rw [e2]
        simp
    obtain ⟨l, e⟩ := this
    rw [e] at hf
    have hf := hf.left
    rcases hb with hb | hb
    · exact hb (hf.2 a (List.mem_append_right _ (List.mem_singleton.mpr rfl)))
    · exact (List.nodup_append.mp hf.1).2.2 a hb a (List.mem_singleton.mpr rfl) rfl
  have h1 := one er ea hb es hf (Nat.le_of_lt (at_lt eb))
  have h2 := one es eb hbad er hp (Nat.le_of_lt (at_lt ea))
  omega
/-- where something is odd, not all is fine -/
theorem odd_not {ages : List Int} {rs : List (List Int)} {k : Nat} (h : FirstOdd ages rs k) (hf : Seemly ages rs.flatten) : False := by
  obtain ⟨r, j, a, er, ea, _, hb⟩ := h
  rcases hb with hb | hb
  · exact hb (hf.2 a (flat_mem er ea))
  · exact flat_split hf.1 er ea hb
/-- a value that a refusal keeps: a number, None, or two numbers -/
inductive Dv where
  | num (i : Int)
  | non
  | two (i j : Int)
def Dv.is (H : Hp) (v : V) : Dv → Prop
  | .num i => v = .int i
  | .non => v = .non
  | .two i j => ∃ t, v = .ref t ∧ H t = some (.tup [.int i, .int j])
theorem Dv.is.same {H H' : Hp} {v : V} (k : Same H H') : ∀ {x : Dv}, x.is H v → x.is H' v
  | .num _, h => h
  | .non, h => h
  | .two _ _, ⟨t, e, h⟩ => ⟨t, e, k _ _ h⟩
def Dv.d : Dv → PyData
  | .num i => .int i
  | .non => .none
  | .two i j => .tuple [.int i, .int j]
theorem Dv.is.dp {K : PySem.W.Frag} {H : Hp} {v : V} : ∀ {x : Dv}, x.is H v → Dp K H v x.d
  | .num i, h => by
    obtain rfl : v = .int i := h
    exact .int i
  | .non, h => by
    obtain rfl : v = .non := h
    exact .non
  | .two i j, ⟨t, e, h⟩ => by
    subst e
    exact .tup (SqT.of h) (.cons (.int i) (.cons (.int j) .nil))
theorem Dv.oks : ∀ x : Dv, Oks 1 x.d
  | .num i => (Oks.int i).mono (by decide)
  | .non => ⟨rfl, by simp [Dv.d, PyData.depth]⟩
  | .two i j => .tup fun x m => by
    rcases List.mem_cons.mp m with rfl | m
    · exact .int i
    · rw [List.mem_singleton.mp m]
      exact .int j
/-- None, or a word and such a value -/
def dDv : Option (Str × Dv) → PyData
  | none => .none
  | some (s, x) => .tuple [.str s, x.d]
def DvAt (H : Hp) (v : V) : Option (Str × Dv) → Prop
  | none => v = .non
  | some (s, x) => ∃ t u, v = .ref t ∧ H t = some (.tup [.str s, u]) ∧ x.is H u
theorem DvAt.same {H H' : Hp} {v : V} : ∀ {D : Option (Str × Dv)}, DvAt H v D → Same H H' → DvAt H' v D
  | none, h, _ => h
  | some _, ⟨t, u, e, h, hx⟩, k => ⟨t, u, e, k _ _ h, hx.same k⟩
theorem DvAt.dp {K : PySem.W.Frag} {H : Hp} {v : V} : ∀ {D : Option (Str × Dv)}, DvAt H v D → Dp K H v (dDv D)
  | none, h => by
    obtain rfl : v = .non := h
    exact .non
  | some (s, x), ⟨t, u, e, h, hx⟩ => by
    subst e
    exact .tup (SqT.of h) (.cons (.str s) (.cons hx.dp .nil))
theorem Oks.dv {D : Option (Str × Dv)} (h : ∀ s x, D = some (s, x) → PyData.strOk s = true) : Oks 2 (dDv D) := by
  cases D with
  | none => exact ⟨rfl, by simp [dDv, PyData.depth]⟩
  | some p =>
    obtain ⟨s, x⟩ := p
    have hs := h s x rfl
    exact Oks.tup (n := 1) fun y m => by
      rcases List.mem_cons.mp m with rfl | m
      · exact ⟨by simp [PyData.canLay0, hs], by simp [PyData.depth]⟩
      · rw [List.mem_singleton.mp m]
        exact x.oks
end El
namespace El
open PySem PySem.Spec PyProof.Rows L2
theorem RmsAt.addN {H : Hp} {B : Addr → Prop} {o u : Addr} {ts : List Addr} {rs : List (List Int)} {r : List Int} (h : RmsAt H B o ts rs) (e : H u = some (.lst (r.map V.int))) (bu : B u) (hu : u ∉ ts) (uo : u ≠ o) :
    RmsAt (upd H o (.lst (ts.map V.ref ++ [.ref u]))) B o (ts ++ [u]) (rs ++ [r]) := by
  have no : ∀ t ∈ ts, t ≠ o := fun t m z => h.no (z ▸ m)
  refine ⟨by rw [upd_same, List.map_append]; rfl, h.bo, ?_, ?_, ?_, fun i t r' e1 e2 => ?_, fun t m => ?_⟩
  · rw [List.nodup_append]
    refine ⟨h.nd, by simp, fun a m b mb => ?_⟩
    rw [List.mem_singleton.mp mb]
    exact fun z => hu (z ▸ m)
  · intro m
    rcases List.mem_append.mp m with m | m
    · exact h.no m
    · exact uo (List.mem_singleton.mp m).symm
  · rw [List.length_append, List.length_append, h.len]
    rfl
  · by_cases hi : i < ts.length
    · rw [List.getElem?_append_left hi] at e1
      rw [List.getElem?_append_left (by rw [← h.len]; exact hi)] at e2
      rw [upd_ne (no t (List.mem_of_getElem? e1))]
      exact h.at' i t r' e1 e2
    · have hi2 := at_lt e1
      rw [List.length_append, List.length_singleton] at hi2
      have : i = ts.length := by omega
      subst this
      rw [List.getElem?_append_right (Nat.le_refl _), Nat.sub_self] at e1
      rw [h.len, List.getElem?_append_right (Nat.le_refl _), Nat.sub_self] at e2
      obtain rfl := Option.some.inj e1
      obtain rfl := Option.some.inj e2
      rw [upd_ne uo]
      exact e
  · rcases List.mem_append.mp m with m | m
    · exact h.b t m
    · rw [List.mem_singleton.mp m]
      exact bu
theorem GsAt.sortedN {H H' : Hp} {B : Addr → Prop} {a p : Addr} {ts : List Addr} {gs : List (Int × Int)} {zs : List V} (h : GsAt H B a ts gs) (k : Same H H') (pm : zs.Perm (ts.map V.ref)) (hz : zs.map (prOf H) = byAge gs) (e : H' p = some (.lst zs)) : ∃ us, GsAt H' (fun _ => True) p us (byAge gs) ∧ zs = us.map V.ref ∧ ∀ u ∈ us, u ∈ ts := by
  have : ∃ us : List Addr, zs = us.map V.ref ∧ ∀ u ∈ us, u ∈ ts := by
    have hm : ∀ z ∈ zs, ∃ t, z = V.ref t ∧ t ∈ ts := fun z m => by
      obtain ⟨t, mt, rfl⟩ := List.mem_map.mp (pm.mem_iff.mp m)
      exact ⟨t, rfl, mt⟩
    clear pm hz e
    induction zs with
    | nil => exact ⟨[], rfl, fun u m => by simp at m⟩
    | cons z zs ih =>
      obtain ⟨t, rfl, mt⟩ := hm z List.mem_cons_self
      obtain ⟨us, rfl, hu⟩ := ih fun y m => hm y (List.mem_cons_of_mem _ m)
      exact ⟨t :: us, rfl, fun u m => by
        rcases List.mem_cons.mp m with rfl | m
        · exact mt
        · exact hu u m⟩
  obtain ⟨us, rfl, hu⟩ := this
  refine ⟨us, ⟨e, trivial, ?_, fun i t g e1 e2 => ?_, fun _ _ => trivial⟩, rfl, hu⟩
  · have := congrArg List.length hz
    rw [List.length_map, List.length_map] at this
    exact this
  · have m := h.mem (.ref t) (pm.mem_iff.mp (List.mem_map.mpr ⟨t, List.mem_of_getElem? e1, rfl⟩))
    obtain ⟨t', et, e3⟩ := m
    injection et with et
    subst et
    have : prOf H (.ref t) = g := by
      have h2 := congrArg (fun l => l[i]?) hz
      rw [List.getElem?_map, List.getElem?_map, e1, e2] at h2
      exact Option.some.inj h2
    rw [this] at e3
    exact k _ _ e3
theorem iteTa {c : Bool} {A B : Prop} (hc : c = true) (h : A) : if c = true then A else B := by rw [if_pos hc]; exact h
end El
namespace El
open PySem PySem.Spec PyProof.Rows L2
def topS (i : Nat) : Stmt := PySem.Challenge.pw_elderinn_k05_arrangements_refused.main.body.getD i (.Pass ⟨0, 0, 0, 0⟩)
end El
namespace El
open PySem PySem.Spec PyProof.Rows L2
/-- a method as the top has written it -/
structure Ma (K : PySem.W.Frag) (C : Addr) (m q : Str) (ps : List Str) (st : Stmt) : Prop where
  ex : ∃ (f : Addr) (fd : FuncData), Fun K m q st f fd ∧ Meth K C m f ∧ Binds K fd ps []
/-- a method and what it promises -/
structure Mf (P : Program) (w : World) (K : PySem.W.Frag) (mg : Str → Option Value) (base : Heap) (k : Nat) (C : Addr) (m q : Str) (ps : List Str) (st : Stmt) (sp : Sp) : Prop where
  ex : ∃ (f : Addr) (fd : FuncData), Fun K m q st f fd ∧ Meth K C m f ∧ Binds K fd ps [] ∧ FnOk P w K mg base CX0 k f fd ps sp
theorem Ma.mf {P : Program} {w : World} {K : PySem.W.Frag} {mg : Str → Option Value} {base : Heap} {k : Nat} {C : Addr} {m q : Str} {ps : List Str} {st : Stmt} {sp : Sp} (A : Ma K C m q ps st)
    (h : ∀ f fd, Fun K m q st f fd → FnOk P w K mg base CX0 k f fd ps sp) : Mf P w K mg base k C m q ps st sp := by
  obtain ⟨f, fd, F, M, b⟩ := A.ex
  exact ⟨f, fd, F, M, b, h f fd F⟩
section
variable {X : Cx} {k : Nat} {C : Addr} {m q : Str} {st : Stmt} {ps : List Str} {sp : Sp} {pos apos : Pos} {o e : Expr} {es : List Expr} {ta : TE} {t : TA}
/-- o.m(e, ..) -/
theorem pe_mf {pl : Sem Bool} (D : Mf X.prog X.w X.K X.mg X.base k C m q ps st sp) (c : Cls X.K C) (hr : Room k X.A) (he : PE X o ta) (ha : PA X (e :: es) t)
    (hst : starEach (e :: es) X.env = (false, eval e X.env) :: starEach es X.env := by rfl) (hpl : (backTo pos (starEach es X.env)).any (·.1) = false := by rfl)
    (ht : eval (.Call (.Attribute o m apos) (e :: es) [] pos) X.env = (do
      let ov ← eval o X.env
      standAt apos.atName
      let (f, first) ← holding [ov] (getMethod ov m pl)
      callWith pos f first (backTo pos (starEach (e :: es) X.env)) (backToKw pos (keywordEach [] X.env))) := by rfl) :
    PE X (.Call (.Attribute o m apos) (e :: es) [] pos) (tMeth C m sp [] E0 ta t) := by
  obtain ⟨f, fd, _, M, b, F⟩ := D.ex
  exact pe_meth (pl := pl) he c M F hr b .nil pass0 ha hst hpl ht
/-- o.m() -/
theorem pe_mf0 {pl : Sem Bool} (D : Mf X.prog X.w X.K X.mg X.base k C m q ps st sp) (c : Cls X.K C) (hr : Room k X.A) (he : PE X o ta)
    (ht : eval (.Call (.Attribute o m apos) [] [] pos) X.env = (do
      let ov ← eval o X.env
      standAt apos.atName
      let (f, first) ← holding [ov] (getMethod ov m pl)
      callWith pos f first (backTo pos (starEach [] X.env)) (backToKw pos (keywordEach [] X.env))) := by rfl) :
    PE X (.Call (.Attribute o m apos) [] [] pos) (tMeth C m sp [] E0 ta tNil) := by
  obtain ⟨f, fd, _, M, b, F⟩ := D.ex
  exact pe_meth0 (pl := pl) he c M F hr b .nil pass0 ht
/-- the reading of o.m(k = v, ..): the values in the order of g, behind the object -/
def tMethW (C : Addr) (m : Str) (n : Nat) (sp : Sp) (g : List V → List V) (ta : TE) (tk : TA) : TE := fun σ H Q => ta σ H fun x H1 => ∃ a dx fs, x = .ref a ∧ H1 a = some (.ins C dx fs) ∧ fs.lookup m = none ∧
  tk σ H1 fun zs H2 => zs.length = n ∧ sp (x :: g zs) H2 Q E0
theorem pe_mfK {kws : List Keyword} {tk : TA} {pl : Sem Bool} (D : Mf X.prog X.w X.K X.mg X.base k C m q ps st sp) (c : Cls X.K C) (ks : List Str) (g : {α : Type} → List α → List α) (hr : Room k X.A) (he : PE X o ta) (hkw : PK X kws tk)
    (hb : ∀ (kV doc pm : Value) (an : Option Addr) (cdv ct : Value) (u : Value) (ws : List Value), ws.length = ks.length → bindArgs (PySem.W.fnOf m q (defArgs st) (defBody st) (defScope st) .none kV doc pm an cdv ct) ⟨[u], ks.zip ws⟩ = pure (ps.zip (u :: g ws)))
    (hrel : ∀ {zs : List V} {ws : List Value}, Vals zs ws → Vals (g zs) (g ws))
    (hall : (backToKw pos (keywordEach kws X.env)).all (·.1.isSome) = true := by rfl) (hks : (backToKw pos (keywordEach kws X.env)).filterMap (·.1) = ks := by rfl)
    (hpl : ((backTo pos (starEach [] X.env)).any (·.1) || (backToKw pos (keywordEach kws X.env)).any (·.1.isNone)) = false := by rfl)
    (ht : eval (.Call (.Attribute o m apos) [] kws pos) X.env = (do
      let ov ← eval o X.env
      standAt apos.atName
      let (f, first) ← holding [ov] (getMethod ov m pl)
      callWith pos f first (backTo pos (starEach [] X.env)) (backToKw pos (keywordEach kws X.env))) := by rfl) :
    PE X (.Call (.Attribute o m apos) [] kws pos) (tMethW C m ks.length sp (fun zs => g zs) ta tk) := by
  obtain ⟨f, fd, F, M, b, G⟩ := D.ex
  have KB : KBn X.K fd ps 1 ks (fun us ws => us ++ g ws) (fun vs zs => vs ++ g zs) := by
    obtain ⟨oc, od, kV, doc, pm, an, cdv, ct, osl, rfl, lk, hcd⟩ := F.ex
    refine ⟨fun s us ws hK l1 l2 => ?_, fun {vs us zs ws} r rz => Vals.append r (hrel rz)⟩
    match us, l1 with
    | [u], _ => exact .of_eq (hb kV doc pm an cdv ct u ws l2)
  refine ⟨fun pins s σ H Q I h => ?_⟩
  refine PySem.W.methodCall_KW (pl := pl) (thn (he.run pins s σ H _ I h) fun u s1 ⟨x, H1, I1, rx, a, dx, fs, ex, ea, l, q⟩ => ?_) ht
  subst ex
  obtain rfl : u = Value.ref a := rx
  refine getmeth_ok I1 ea c M l ?_
  refine PySem.W.callWith_KW0 (first := [.ref a]) (h₀ := X.base) I.ok.mod.kin M.kp hall ?_ hpl
  refine thn (hkw.run pos pins s1 σ H1 _ I1 q) fun ws s2 ⟨zs, H2, I2, rz, l2, q2⟩ => ⟨I2.kIn, ?_⟩
  rw [hks]
  exact run_fnN (us := [.ref a]) (vs := [.ref a]) G hr KB pass0 I2 (.cons rfl .nil) rz rfl l2 q2
end
/-! ### what an Inn looks like between two calls -/
theorem npr : ¬ (("_patience_of" : Str) = "_rooms") := by decide +kernel
/-- its fields in the order in which they are set -/
def iflds (d o : Addr) : List (Str × V) := putF "_rooms" (.ref o) (putF "_patience_of" (.ref d) [])
theorem iflds_p (d o : Addr) : (iflds d o).lookup ("_patience_of" : Str) = some (.ref d) := by
  unfold iflds
  rw [lookup_putF, if_neg npr, lookup_putF, if_pos rfl]
theorem iflds_r (d o : Addr) : (iflds d o).lookup ("_rooms" : Str) = some (.ref o) := by
  unfold iflds
  rw [lookup_putF, if_pos rfl]
theorem iflds_no (d o : Addr) {m : Str} (h1 : ¬ m = "_rooms") (h2 : ¬ m = "_patience_of") : (iflds d o).lookup m = none := by
  unfold iflds
  rw [lookup_putF, if_neg h1, lookup_putF, if_neg h2]
  rfl
/-- what of the text the class has -/
structure InnT (K : PySem.W.Frag) (mg : Str → Option Value) (C : Addr) : Prop where
  cl : Cls K C
  nP : NoAttr K C "_patience_of"
  nR : NoAttr K C "_rooms"
  mgC : mg "Inn" = some (.ref C)
/-- an Inn at p: the guests gs in the order in which they came, the rooms rs; all it owns lies in B -/
structure InnAt (C : Addr) (H : Hp) (B : Addr → Prop) (p d o : Addr) (ts : List Addr) (gs : List (Int × Int)) (rs : List (List Int)) : Prop where
  ob : ∃ dx, H p = some (.ins C dx (iflds d o))
  dc : H d = some (.dK (pks gs))
  rm : RmsAt H B o ts rs
  bp : B p
  bd : B d
theorem InnAt.keep {C : Addr} {H H' : Hp} {B : Addr → Prop} {p d o : Addr} {ts : List Addr} {gs : List (Int × Int)} {rs : List (List Int)} (h : InnAt C H B p d o ts gs rs) (k : Kp B H H') : InnAt C H' B p d o ts gs rs := by
  obtain ⟨⟨dx, e⟩, dc, rm, bp, bd⟩ := h
  exact ⟨⟨dx, k _ _ bp e⟩, k _ _ bd dc, rm.keep k, bp, bd⟩
theorem InnAt.same {C : Addr} {H H' : Hp} {B : Addr → Prop} {p d o : Addr} {ts : List Addr} {gs : List (Int × Int)} {rs : List (List Int)} (h : InnAt C H B p d o ts gs rs) (k : Same H H') : InnAt C H' B p d o ts gs rs := h.keep (.of k)
theorem InnAt.pd {C : Addr} {H : Hp} {B : Addr → Prop} {p d o : Addr} {ts : List Addr} {gs : List (Int × Int)} {rs : List (List Int)} (h : InnAt C H B p d o ts gs rs) : p ≠ d := fun z => by
  obtain ⟨dx, e⟩ := h.ob
  rw [z, h.dc] at e
  cases e
theorem InnAt.po {C : Addr} {H : Hp} {B : Addr → Prop} {p d o : Addr} {ts : List Addr} {gs : List (Int × Int)} {rs : List (List Int)} (h : InnAt C H B p d o ts gs rs) : p ≠ o := fun z => by
  obtain ⟨dx, e⟩ := h.ob
  rw [z, h.rm.top] at e
  cases e
theorem InnAt.od {C : Addr} {H : Hp} {B : Addr → Prop} {p d o : Addr} {ts : List Addr} {gs : List (Int × Int)} {rs : List (List Int)} (h : InnAt C H B p d o ts gs rs) : o ≠ d := fun z => by
  have e := h.dc
  rw [← z, h.rm.top] at e
  cases e
theorem InnAt.room {C : Addr} {H : Hp} {B : Addr → Prop} {p d o : Addr} {ts : List Addr} {gs : List (Int × Int)} {rs : List (List Int)} (h : InnAt C H B p d o ts gs rs) {t : Addr} (m : t ∈ ts) : t ≠ p ∧ t ≠ d := by
  obtain ⟨i, e⟩ := List.mem_iff_getElem?.mp m
  have hl := at_lt e
  rw [h.rm.len] at hl
  obtain ⟨r, er⟩ := at_some hl
  have e1 := h.rm.at' i t r e er
  refine ⟨fun z => ?_, fun z => ?_⟩
  · obtain ⟨dx, e2⟩ := h.ob
    rw [← z, e1] at e2
    cases e2
  · have e2 := h.dc
    rw [← z, e1] at e2
    cases e2
/-- its rooms alone have changed -/
theorem InnAt.rooms {C : Addr} {H H' : Hp} {B : Addr → Prop} {p d o : Addr} {ts ts' : List Addr} {gs : List (Int × Int)} {rs rs' : List (List Int)} (h : InnAt C H B p d o ts gs rs) (k : Kp (fun b => b ≠ o ∧ b ∉ ts) H H') (r : RmsAt H' B o ts' rs') : InnAt C H' B p d o ts' gs rs' := by
  obtain ⟨dx, e⟩ := h.ob
  exact ⟨⟨dx, k _ _ ⟨h.po, fun m => (h.room m).1 rfl⟩ e⟩, k _ _ ⟨h.od.symm, fun m => (h.room m).2 rfl⟩ h.dc, r, h.bp, h.bd⟩
/-- guest a has entered room i -/
def enterR (rs : List (List Int)) (i : Nat) (a : Int) : List (List Int) := if i < rs.length then rs.set i (down (rs.getD i [] ++ [a])) else rs ++ [[a]]
theorem enterR_old {rs : List (List Int)} {i : Nat} {r : List Int} (a : Int) (h : rs[i]? = some r) : enterR rs i a = rs.set i (down (r ++ [a])) := by
  unfold enterR
  rw [if_pos (at_lt h), List.getD_eq_getElem?_getD, h]
  rfl
theorem enterR_new (rs : List (List Int)) (a : Int) : enterR rs rs.length a = rs ++ [[a]] := if_neg (Nat.lt_irrefl _)
/-- another list in the place of one -/
theorem RmsAt.put {H : Hp} {B : Addr → Prop} {o q : Addr} {ts : List Addr} {rs : List (List Int)} {i : Nat} {r : List Int} (h : RmsAt H B o ts rs) (hi : i < rs.length) (e : H q = some (.lst (r.map V.int))) (bq : B q) (nq : q ∉ ts) (qo : q ≠ o) :
    RmsAt (upd H o (.lst ((ts.set i q).map V.ref))) B o (ts.set i q) (rs.set i r) := by
  have inn : ∀ t ∈ ts.set i q, t = q ∨ t ∈ ts := fun t m => (List.mem_or_eq_of_mem_set m).symm
  have hn : ∀ t ∈ ts.set i q, t ≠ o := fun t m z => by
    rcases inn t m with y | y
    · exact qo (y ▸ z)
    · exact h.no (z ▸ y)
  refine ⟨upd_same, h.bo, ?_, fun m => hn o m rfl, ?_, fun j t x e1 e2 => ?_, fun t m => ?_⟩
  · rw [List.nodup_iff_pairwise_ne, List.pairwise_iff_getElem]
    intro a b ha hb hab
    rw [List.length_set] at ha hb
    rw [List.getElem_set, List.getElem_set]
    by_cases h1 : i = a
    · by_cases h2 : i = b
      · omega
      · rw [if_pos h1, if_neg h2]
        exact fun z => nq (z ▸ List.getElem_mem hb)
    · by_cases h2 : i = b
      · rw [if_neg h1, if_pos h2]
        exact fun z => nq (z ▸ List.getElem_mem ha)
      · rw [if_neg h1, if_neg h2]
        exact List.pairwise_iff_getElem.mp (List.nodup_iff_pairwise_ne.mp h.nd) a b ha hb hab
  · rw [List.length_set, List.length_set]
    exact h.len
  · rw [upd_ne (hn t (List.mem_of_getElem? e1))]
    by_cases hj : i = j
    · subst hj
      rw [List.getElem?_set_self (by rw [h.len]; exact hi)] at e1
      rw [List.getElem?_set_self hi] at e2
      obtain rfl : q = t := Option.some.inj e1
      obtain rfl : r = x := Option.some.inj e2
      exact e
    · rw [List.getElem?_set_ne hj] at e1 e2
      exact h.at' j t x e1 e2
  · rcases inn t m with rfl | m
    · exact bq
    · exact h.b t m
theorem RmsAt.lives {H : Hp} {B : Addr → Prop} {o : Addr} {ts : List Addr} {rs : List (List Int)} (h : RmsAt H B o ts rs) {t : Addr} (m : t ∈ ts) : ∃ r : List Int, H t = some (.lst (r.map V.int)) := by
  obtain ⟨i, e⟩ := List.mem_iff_getElem?.mp m
  have hl := at_lt e
  rw [h.len] at hl
  obtain ⟨r, er⟩ := at_some hl
  exact ⟨r, h.at' i t r e er⟩
theorem RmsAt.reL {H : Hp} {B B' : Addr → Prop} {o : Addr} {ts : List Addr} {rs : List (List Int)} (h : RmsAt H B o ts rs) (k : ∀ b, (∃ v, H b = some v) → B b → B' b) : RmsAt H B' o ts rs :=
  ⟨h.top, k _ ⟨_, h.top⟩ h.bo, h.nd, h.no, h.len, h.at', fun t m => k _ (let ⟨r, e⟩ := h.lives m; ⟨_, e⟩) (h.b t m)⟩
theorem InnAt.reB {C : Addr} {H : Hp} {B B' : Addr → Prop} {p d o : Addr} {ts : List Addr} {gs : List (Int × Int)} {rs : List (List Int)} (h : InnAt C H B p d o ts gs rs) (k : ∀ b, (∃ v, H b = some v) → B b → B' b) : InnAt C H B' p d o ts gs rs :=
  ⟨h.ob, h.dc, h.rm.reL k, k _ (let ⟨dx, e⟩ := h.ob; ⟨_, e⟩) h.bp, k _ ⟨_, h.dc⟩ h.bd⟩
theorem ifYes {c : Bool} {A B : Prop} (hc : c = true) (h : A) : if c = true then A else B := by
  subst hc
  exact iteT h
theorem ifNo {c : Bool} {A B : Prop} (hc : c = false) (h : B) : if c = true then A else B := by
  subst hc
  exact iteF h
end El
namespace El
open PySem PySem.Spec PyProof.Rows L2
/-! ### repr of nested things: that nothing is being shown is handed down from call to call -/
section
variable {P : Program} {w : World} {K : PySem.W.Frag} {mg : Str → Option Value} {base : Heap}
/-- the call keeps its promise under this one surrounding -/
def Goes (P : Program) (w : World) (K : PySem.W.Frag) (mg : Str → Option Value) (base : Heap) (f : Addr) (fd : FuncData) (ps : List Str) (sp : Sp) (A : Around) : Prop :=
  ∀ (outer : List Env) (s : Shared) (H : Hp) (args : Args) (us : List Value) (vs : List V) (Q : VK) (E : XK), Env0 P w K mg base A outer s H → BindsTo s fd args (ps.zip us) → Vals vs us → sp vs H Q E →
    codeAny (model P w) A (.call (.ref f) args) (CR CX0 outer P w H s Q E) s
theorem goes_body {x qual : Str} {st : Stmt} {f : Addr} {fd : FuncData} {N ps : List Str} {k : Nat} {sp : Sp} {A : Around} (F : Fun K x qual st f fd) (S : FnScope N ps (defScope st)) (room : Room (k + 1) A) (len : ∀ vs H Q E, sp vs H Q E → vs.length = ps.length)
    (body : ∀ (cdv : Value) (outer : List Env) (s : Shared) (H : Hp) (vs : List V) (Q : VK) (E : XK), Room k (A.deeper (envOfC qual (defScope st) s.heap.objs.size f cdv)) → sp vs H Q E →
      ∃ t, PSs (cxOf CX0 P w K mg base N qual (defScope st) f cdv A outer s H E).nox (defBody st) t ∧ t { nx := fun _ H' => Q .non H', rt := Q } (start N vs) H) : Goes P w K mg base f fd ps sp A := by
  intro outer s H args us vs Q E ent bound vals want
  obtain ⟨oc, od, kV, doc, pm, an, cdv, ct, osl, rfl, look, code⟩ := F.ex
  have lives : ∀ b o, base.get? b = some o → s.heap.get? b = some o := fun b o e => (ent.bs b o e).1
  have kin : K.In s.heap := ent.mod.kin.keeps lives
  obtain ⟨t, runs, asks⟩ := body cdv outer s H vs Q E (room.deeper _) want
  apply codeAny_call_function room.depth (kin _ _ look) rfl S.co S.gen rfl (PySem.W.codeRec_of kin code)
  apply bound
  apply wpAny_newFunctionEnv_cells S.kind
  · intro y my
    rcases S.par y.1 (List.of_mem_zip my).1 with here | cell
    · exact .inl here
    · exact .inr ⟨cell, PySem.W.cellsFrom_some _ _ _ (.inl cell)⟩
  · rintro _ rfl s1 made
    refine ⟨(ent.mod.nolimit.keeps lives).keeps made.toInCall.keep, codeAny_func ?_⟩
    have at0 := inv_start (CX := CX0) (E := E) (cd := cdv) S room.hd ent (len _ _ _ _ want) vals made
    refine wpAny_mono (runs.nox.run [] s1 _ H _ at0 asks) (fun flow s2 told => ?_) fun _ _ err => err
    match flow, told with
    | .ret _, ⟨v, _, H', J, rel, q⟩ => exact ⟨v, H', J.os, J.bare, J.base, J.hok, rel, q⟩
    | .next, ⟨_, H', J, q⟩ => exact ⟨.non, H', J.os, J.bare, J.base, J.hok, rfl, q⟩
    | .brk, ⟨_, _, _, q⟩ => exact q.elim
    | .cont, ⟨_, _, _, q⟩ => exact q.elim
/-- a def and what it promises where nothing is being shown -/
structure DfG (P : Program) (w : World) (K : PySem.W.Frag) (mg : Str → Option Value) (base : Heap) (k : Nat) (x : Str) (ps : List Str) (st : Stmt) (sp : Sp) : Prop where
  ex : ∃ (f : Addr) (fd : FuncData), Fun K x x st f fd ∧ mg x = some (.ref f) ∧ Binds K fd ps [] ∧ (∀ vs H Q E, sp vs H Q E → vs.length = ps.length) ∧ ∀ A : Around, A.guards = some [] → Room k A → Goes P w K mg base f fd ps sp A
theorem At.dfG {k : Nat} {x : Str} {N ps : List Str} {st : Stmt} {sp : Sp} (A : At K mg x ps st) (S : FnScope N ps (defScope st)) (len : ∀ vs H Q E, sp vs H Q E → vs.length = ps.length)
    (body : ∀ (f : Addr) (fd : FuncData), Fun K x x st f fd → ∀ (cdv : Value) (AA : Around) (outer : List Env) (s : Shared) (H : Hp) (vs : List V) (Q : VK) (E : XK), (AA.deeper (envOfC x (defScope st) s.heap.objs.size f cdv)).guards = some [] → Room k (AA.deeper (envOfC x (defScope st) s.heap.objs.size f cdv)) → sp vs H Q E →
      ∃ t, PSs (cxOf CX0 P w K mg base N x (defScope st) f cdv AA outer s H E).nox (defBody st) t ∧ t { nx := fun _ H' => Q .non H', rt := Q } (start N vs) H) : DfG P w K mg base (k + 1) x ps st sp := by
  obtain ⟨f, fd, F, m, b⟩ := A.ex
  exact ⟨f, fd, F, m, b, len, fun AA calm room => goes_body F S room len fun cdv outer s H vs Q E r q => body f fd F cdv AA outer s H vs Q E calm r q⟩
section
variable {X : Cx} {k : Nat} {x : Str} {ps : List Str} {st : Stmt} {sp : Sp} {p pos : Pos} {e : Expr} {es : List Expr} {t : TA}
theorem pe_dfG (D : DfG X.prog X.w X.K X.mg X.base k x ps st sp) (calm : X.A.guards = some []) (room : Room k X.A) (hg : Gl X x) (ha : PA X (e :: es) t) (hdb : (x == ("__debug__" : Str)) = false := by decide)
    (he : starEach (e :: es) X.env = (false, eval e X.env) :: starEach es X.env := by rfl) (hpl : (backTo pos (starEach es X.env)).any (·.1) = false := by rfl) : PE X (.Call (.Name x p) (e :: es) [] pos) (tCall sp [] E0 t) := by
  obtain ⟨f, fd, F, m, b, len, goes⟩ := D.ex
  constructor
  intro pins s σ H Q I asks
  apply wpAny_Call_Name_kw
  apply ld_glob I hg m _ hdb
  refine PySem.W.callWith_K I.ok.mod.kin F.kp (wpAny_mono (ha.run pos pins s σ H _ I asks) (fun us s1 ready => ?_) fun _ _ err => err) he hpl
  obtain ⟨vs, H1, I1, rel, want⟩ := ready
  refine ⟨I1.kIn, wpAny_call (codeAny_mono (goes X.A calm room X.stack s1 H1 ⟨us, []⟩ us (vs ++ []) Q E0 I1.env0 ?_ ?_ want) fun r s2 told => ?_)⟩
  · have := b s1 us I1.kIn (by rw [List.append_nil, ← rel.length]; have := len _ _ _ _ want; rwa [List.append_nil] at this)
    rwa [List.append_nil] at this
  · rwa [List.append_nil]
  · match r, told with
    | .ok (.ret _), told => exact I1.after told
    | .error _, told => exact told.elim
end
theorem DfG.goes {k : Nat} {x : Str} {ps : List Str} {st : Stmt} {sp : Sp} {fa : Addr} {fd : FuncData} {oc : Value} {od : Option Addr} {sl : Array (Option Value)}
    (D : DfG P w K mg base k x ps st sp) (hf : mg x = some (.ref fa)) (l : K.lookup fa = some ⟨oc, od, .func fd, sl⟩) : ∀ A : Around, A.guards = some [] → Room k A → Goes P w K mg base fa fd ps sp A := by
  obtain ⟨f, fd', F, m, _, _, goes⟩ := D.ex
  obtain rfl : f = fa := Value.ref.inj (Option.some.inj (m.symm.trans hf))
  obtain ⟨_, _, _, _, _, _, _, _, _, rfl, look, _⟩ := F.ex
  obtain rfl := Data.func.inj (Obj.mk.inj (Option.some.inj (look.symm.trans l))).2.2.1
  exact goes
/-- what is tracked when the law is called -/
structure Entry (P : Program) (w : World) (K : PySem.W.Frag) (a : Addr) (ns : List Int) (h : Heap) (H : Hp) : Prop where
  only : Only H
  sq : SqL K H a (ns.map V.int)
  ok : HOk P w H h
  out : ∀ b, H b ≠ none → K.lookup b = none ∧ ∀ o es ep, h.get? b = some o → o.data ≠ .dict es ep
theorem entry_of {a : Addr} {vs : List Value} {ns : List Int} {h : Heap} (kin : K.In h) (ha : h.get? a = some { cls := .type "list", data := .seq vs.toArray }) (hi : IntsAre vs ns) (hl : ns.length ≤ sizeLine) : ∃ H, Entry P w K a ns h H := by
  have rel := vals_ints hi
  cases hk : K.lookup a with
  | some o =>
    obtain rfl := Option.some.inj (ha.symm.trans (kin a o hk))
    exact ⟨fun _ => none, fun _ => .inl rfl, .inr ⟨_, vs.toArray, _, hk, rfl, rfl, rfl, by rw [List.size_toArray, hi.length]; exact hl, by simpa using rel⟩, (fun b u z => by cases z), fun b z => (z rfl).elim⟩
  | none =>
    have at_a : ∀ {b u}, (if b = a then some (HO.frz { cls := .type "list", data := .seq vs.toArray } (.lst (ns.map V.int))) else none) = some u → b = a ∧ u = .frz { cls := .type "list", data := .seq vs.toArray } (.lst (ns.map V.int)) := fun {b u} z => by
      by_cases hb : b = a
      · rw [if_pos hb] at z
        exact ⟨hb, (Option.some.inj z).symm⟩
      · rw [if_neg hb] at z
        cases z
    refine ⟨fun b => if b = a then some (.frz { cls := .type "list", data := .seq vs.toArray } (.lst (ns.map V.int))) else none, fun b => ?_, .inl (.inr ⟨_, if_pos rfl⟩), fun b u z => ?_, fun b z => ?_⟩
    · by_cases hb : b = a
      · exact .inr ⟨_, _, if_pos hb⟩
      · exact .inl (if_neg hb)
    · obtain ⟨rfl, rfl⟩ := at_a z
      exact ⟨ha, by rw [List.length_map]; exact hl, vs, _, rel, ha⟩
    · cases e : (if b = a then some (HO.frz { cls := .type "list", data := .seq vs.toArray } (.lst (ns.map V.int))) else none) with
      | none => exact (z e).elim
      | some u =>
        obtain ⟨rfl, _⟩ := at_a e
        refine ⟨hk, fun o es ep eo ed => ?_⟩
        obtain rfl := Option.some.inj (ha.symm.trans eo)
        cases ed
theorem law_goes {mb : Str → Option Value} {fa a : Addr} {fd : FuncData} {x : Str} {sp : Sp} {s₁ : Shared} {vs : List Value} {ns : List Int}
    (kin : K.In s₁.heap) (glob : s₁.heap.Ns mainGlobals mg) (blt : s₁.heap.Ns builtinsNs mb) (boot : ∀ x : Str, x ≠ "__name__" → mb x = bootBuiltins x) (lim : s₁.heap.NoLimit) (gens : s₁.gens = #[])
    (ha : s₁.heap.get? a = some { cls := .type "list", data := .seq vs.toArray }) (hi : IntsAre vs ns) (hl : ns.length ≤ sizeLine)
    (goes : ∀ base : Heap, K.In base → base.Ns mainGlobals mg → Goes P w K mg base fa fd [x] sp callerA) (bound : ∀ (s : Shared) (u : Value), BindsTo s fd ⟨[u], []⟩ [(x, u)])
    (keeps : ∀ H : Hp, SqL K H a (ns.map V.int) → sp [.ref a] H (fun v _ => v = .bl true) fun _ _ _ => False) :
    codeAny (model P w) callerA (.call (.ref fa) ⟨[.ref a], []⟩) (fun r s' => r = .ok (.ret (.bool true)) ∧ OldK s₁.heap s'.heap ∧ s'.os = s₁.os ∧ AllBare s'.gens) s₁ := by
  obtain ⟨H, N⟩ := entry_of (P := P) (w := w) kin ha hi hl
  have dictOut : ∀ {b o es ep}, s₁.heap.get? b = some o → o.data = .dict es ep → H b = none := fun {b o es ep} e d => Classical.byContradiction fun z => (N.out b z).2 o es ep e d
  have kinB : K.In (hidT s₁.heap H) := fun b o e => hidT_get (kin b o e) (Classical.byContradiction fun z => by
    rw [(N.out b z).1] at e
    cases e)
  have lay : ∀ {b : Addr} {m : Str → Option Value}, s₁.heap.Ns b m → (hidT s₁.heap H).Ns b m := fun ⟨o, es, ep, e, d, r⟩ => ⟨o, es, ep, hidT_get e (dictOut e d), d, r⟩
  have limB : (hidT s₁.heap H).NoLimit := by
    obtain ⟨mc, l1, l2⟩ := lim
    exact ⟨mc, lay l1, l2⟩
  have ent : Env0 P w K mg (hidT s₁.heap H) callerA [] s₁ H := ⟨rfl, ⟨kinB, lay glob, ⟨mb, lay blt, boot⟩, limB⟩, fun _ _ e => of_hidT e, by rw [hidT_size]; exact Nat.le_refl _, trivial, fun b mb => (List.not_mem_nil mb).elim, N.ok, .of_eq gens⟩
  refine codeAny_mono (goes _ kinB (lay glob) [] s₁ H ⟨[.ref a], []⟩ [.ref a] [.ref a] _ _ ent (bound s₁ (.ref a)) (.cons rfl .nil) (keeps H N.sq)) fun r s2 told => ?_
  match r, told with
  | .error _, told => exact told.elim
  | .ok (.ret u), ⟨v, H', os, bare, un, hok, rel, (q : v = .bl true)⟩ =>
    subst q
    obtain rfl : u = Value.bool true := rel
    refine ⟨rfl, OldK.of_keep fun b o e => ?_, os, bare⟩
    rcases N.only b with free | ⟨ob, xs, held⟩
    · exact un.keep b o e free (fun z => (List.not_mem_nil z).elim) (fun z => (List.not_mem_nil z).elim)
    · obtain ⟨e1, _⟩ := N.ok b _ held
      obtain ⟨e2, _⟩ := hok b _ (un.frzs b ob _ held)
      rw [← Option.some.inj (e1.symm.trans e)]
      exact e2
end
/-- the end of such a law -/
theorem walk_goes {l : PySem.W.OpenLaw} {n k : Nat} {q : Program} {loose : List Str} {XP : (Str → Option Value) → Heap → Prop} {YP : World → Heap → Prop} {d : DefRec} {K : Params → PySem.W.Frag} {sp : PySem.W.Frag → Sp} {x : Str}
    (hn : l.most = some n) (hn2 : n ≤ sizeLine) (hdf : d.params.defaults = []) (room : Room k callerA) (hY : ∀ (w : World) (h : Heap), YP w h → (K w.params).In h)
    (F : ∀ (w : World) (mg : Str → Option Value) (fa : Addr) (h : Heap), (K w.params).In h → h.Ns mainGlobals mg → mg d.name = some (.ref fa) →
      ∃ fd : FuncData, (∀ (s : Shared) (u : Value), BindsTo s fd ⟨[u], []⟩ [(x, u)]) ∧ ∀ base : Heap, (K w.params).In base → base.Ns mainGlobals mg → ∀ A : Around, A.guards = some [] → Room k A → Goes l.prog w (K w.params) mg base fa fd [x] (sp (K w.params)) A)
    (keeps : ∀ (w : World) (H : Hp) (a : Addr) (ns : List Int), ns.length ≤ n → SqL (K w.params) H a (ns.map V.int) → sp (K w.params) [.ref a] H (fun v _ => v = .bl true) fun _ _ _ => False) :
    PySem.W.WalkO q loose XP YP l.row.toRowW d [] (fun f vs => PySem.call f vs) := by
  refine Att.attach_call hn hdf fun w s₀ s₁ mg mb fa o pm cd doc a vs ns G Y _ _ _ hmg here its len gens => ?_
  obtain ⟨fd, bound, goes⟩ := F w mg fa _ (hY w _ Y) G.T.g hmg
  exact law_goes (hY w _ Y) G.T.g G.T.b G.T.builtins G.T.nolimit gens here its (Nat.le_trans len hn2) (fun base kb gb => goes base kb gb callerA rfl room) bound fun H sq => keeps w H a ns len sq
section
variable {X : Cx}
/-- repr(x) of lists and tuples of numbers, nested -/
theorem call_reprD (calm : X.A.guards = some []) {k : Nat} (room : Room k X.A) : CallR X (.builtin "repr") (fun xs H Q => ∃ (a : Addr) (d : PyData), xs = [.ref a] ∧ Dp X.K H (.ref a) d ∧ d.showable = true ∧ d.hasDict = false ∧ d.depth ≤ 60 ∧ d.shown.length ≤ sizeLine ∧ Q (.str d.shown) H) := by
  intro pins s σ H xs us Q I rel ⟨a, d, ex, dp, sh, nd, dep, len, q⟩
  subst ex
  obtain ⟨u, rfl, ru⟩ := vals1 rel
  obtain rfl : u = Value.ref a := ru
  obtain ⟨as, rd⟩ := dp.reads I d _ _ rfl
  refine repr_of_reads' rd sh (PyData.noDict_hsm nd) calm (by have := room.un; omega) (fun _ _ e => e) (fun h' u tk kp => ⟨.str d.shown, H, I.kept kp, ⟨_, rfl⟩, q⟩) len
end
end El
namespace El
open PySem PySem.Spec PyProof.Rows L2
/-! ### what repr tells of pairs of numbers: how long it is -/
theorem text_200 {i : Int} (h : i.natAbs < 10 ^ 200) : (Str.ofString (toString i)).length ≤ 201 := by
  have big : ∀ j : Int, 0 ≤ j → j.natAbs < 10 ^ 200 → j < ((10 ^ 200 : Nat) : Int) := fun j j0 hj => by
    have : ((j.natAbs : Nat) : Int) < ((10 ^ 200 : Nat) : Int) := by exact_mod_cast hj
    omega
  by_cases h0 : 0 ≤ i
  · exact Nat.le_succ_of_le (PyProof.Rows.toString_length_le h0 (by decide) (by exact_mod_cast big i h0 h))
  · have e := PyProof.Rows.len_text_negI (n := i) (by omega)
    have l := PyProof.Rows.toString_length_le (v := 0 - i) (k := 200) (by omega) (by decide) (by exact_mod_cast big (0 - i) (by omega) (by omega))
    omega
theorem laid_le : ∀ (ts : List Str) (k : Nat) (acc : Str), (textFrom k acc ts).length ≤ acc.length + piled ts
  | [], _, _ => Nat.le_refl _
  | t :: ts, k, acc => by
    have h := laid_le ts (k + 1) (acc ++ (if k > 0 then ", " else "" : String) ++ t)
    have c : (((if k > 0 then ", " else "" : String) : Str)).length ≤ 2 := by
      split <;> decide +kernel
    rw [Str.length_append, Str.length_append] at h
    rw [piled_cons]
    show (textFrom (k + 1) _ ts).length ≤ _
    omega
theorem list_le (ts : List Str) : (listText ts).length ≤ 2 + piled ts := by
  have h := laid_le ts 0 "["
  have e : (listText ts).length = (textFrom 0 "[" ts).length + 1 := by
    show (textFrom 0 "[" ts ++ _).length = _
    rw [Str.length_append]
    rfl
  have o : ("[" : Str).length = 1 := by decide +kernel
  omega
theorem pair_le (a b : Str) : (tupleText [a, b]).length = a.length + b.length + 4 := by
  have h := join_length_add [a, b] (List.cons_ne_nil _ _)
  rw [piled_cons, piled_cons, piled_nil] at h
  have o : ("(" : Str).length = 1 := by decide +kernel
  have c : (((if [a, b].length == 1 then ",)" else ")" : String) : Str)).length = 1 := by
    show ((")" : String) : Str).length = 1
    decide +kernel
  unfold tupleText
  rw [Str.length_append, Str.length_append, o, c]
  omega
/-- numbers of at most two hundred figures -/
def Fit200 (gs : List (Int × Int)) : Prop := ∀ g ∈ gs, g.1.natAbs < 10 ^ 200 ∧ g.2.natAbs < 10 ^ 200
theorem gs_piled : ∀ {gs : List (Int × Int)}, Fit200 gs → piled (PyData.shownAll (gs.map fun g => .tuple [.int g.1, .int g.2])) ≤ 408 * gs.length
  | [], _ => Nat.le_refl _
  | g :: gs, h => by
    have h1 := h g List.mem_cons_self
    have h2 := gs_piled fun x m => h x (List.mem_cons_of_mem _ m)
    show piled (tupleText [Str.ofString (toString g.1), Str.ofString (toString g.2)] :: _) ≤ 408 * (gs.length + 1)
    rw [piled_cons, pair_le]
    have := text_200 h1.1
    have := text_200 h1.2
    omega
theorem gs_shown {gs : List (Int × Int)} (h : Fit200 gs) (hl : gs.length ≤ 200) : (dGs gs).shown.length ≤ sizeLine := by
  have h1 := list_le (PyData.shownAll (gs.map fun g => .tuple [.int g.1, .int g.2]))
  have h2 := gs_piled h
  have h3 : (90000 : Nat) ≤ sizeLine := by decide
  show (listText _).length ≤ _
  omega
theorem log_shown {i : Int} (h : i.natAbs < 10 ^ 200) : i.natAbs.log2 < 1920 := by
  by_cases h0 : i.natAbs = 0
  · rw [h0]
    decide
  · exact (Nat.log2_lt h0).mpr (Nat.lt_trans h (by decide))
theorem gs_showable : ∀ {gs : List (Int × Int)}, Fit200 gs → PyData.showableAll (gs.map fun g => .tuple [.int g.1, .int g.2]) = true
  | [], _ => rfl
  | g :: gs, h => by
    have h1 := h g List.mem_cons_self
    show (((decide (g.1.natAbs.log2 < 1920)) && ((decide (g.2.natAbs.log2 < 1920)) && true)) && _) = true
    rw [decide_eq_true (log_shown h1.1), decide_eq_true (log_shown h1.2), gs_showable fun x m => h x (List.mem_cons_of_mem _ m)]
    rfl
end El
namespace El
open PySem PySem.Spec PyProof.Rows L2
/-! ### what repr tells of guests and rooms together -/
theorem ints_piled : ∀ {ns : List Int}, (∀ x ∈ ns, x.natAbs < 10 ^ 200) → piled (PyData.shownAll (ns.map .int)) ≤ 204 * ns.length
  | [], _ => Nat.le_refl _
  | x :: ns, h => by
    have h1 := text_200 (h x List.mem_cons_self)
    have h2 := ints_piled fun y m => h y (List.mem_cons_of_mem _ m)
    show piled (Str.ofString (toString x) :: _) ≤ 204 * (ns.length + 1)
    rw [piled_cons]
    omega
theorem ints_showable : ∀ {ns : List Int}, (∀ x ∈ ns, x.natAbs < 10 ^ 200) → PyData.showableAll (ns.map .int) = true
  | [], _ => rfl
  | x :: ns, h => by
    show (decide (x.natAbs.log2 < 1920) && _) = true
    rw [decide_eq_true (log_shown (h x List.mem_cons_self)), ints_showable fun y m => h y (List.mem_cons_of_mem _ m)]
    rfl
theorem rows_piled : ∀ {rs : List (List Int)}, (∀ r ∈ rs, ∀ x ∈ r, x.natAbs < 10 ^ 200) → piled (PyData.shownAll (rs.map dInts)) ≤ 5 * rs.length + 204 * rs.flatten.length
  | [], _ => Nat.le_refl _
  | r :: rs, h => by
    have h1 := ints_piled (h r List.mem_cons_self)
    have h2 := rows_piled fun y m => h y (List.mem_cons_of_mem _ m)
    have h3 := list_le (PyData.shownAll (r.map .int))
    show piled (listText (PyData.shownAll (r.map .int)) :: _) ≤ 5 * (rs.length + 1) + 204 * (r :: rs).flatten.length
    rw [piled_cons, List.flatten_cons, List.length_append]
    omega
theorem rows_showable : ∀ {rs : List (List Int)}, (∀ r ∈ rs, ∀ x ∈ r, x.natAbs < 10 ^ 200) → PyData.showableAll (rs.map dInts) = true
  | [], _ => rfl
  | r :: rs, h => by
    show (PyData.showableAll (r.map .int) && _) = true
    rw [ints_showable (h r List.mem_cons_self), rows_showable fun y m => h y (List.mem_cons_of_mem _ m)]
    rfl
def dHeld (gs : List (Int × Int)) (rs : List (List Int)) : PyData := .list [dGs gs, dRows rs]
theorem held_showable {gs : List (Int × Int)} {rs : List (List Int)} (h : Fit200 gs) (k : ∀ r ∈ rs, ∀ x ∈ r, x.natAbs < 10 ^ 200) : (dHeld gs rs).showable = true := by
  show (PyData.showableAll (gs.map fun g => .tuple [.int g.1, .int g.2]) && (PyData.showableAll (rs.map dInts) && true)) = true
  rw [gs_showable h, rows_showable k]
  rfl
theorem held_shown {gs : List (Int × Int)} {rs : List (List Int)} (h : Fit200 gs) (k : ∀ r ∈ rs, ∀ x ∈ r, x.natAbs < 10 ^ 200) (l1 : gs.length ≤ 100) (l2 : rs.length ≤ 200) (l3 : rs.flatten.length ≤ 100) : (dHeld gs rs).shown.length ≤ sizeLine := by
  have h1 := list_le (PyData.shownAll (gs.map fun g => .tuple [.int g.1, .int g.2]))
  have h2 := gs_piled h
  have h3 := list_le (PyData.shownAll (rs.map dInts))
  have h4 := rows_piled k
  have h5 := list_le [listText (PyData.shownAll (gs.map fun g => .tuple [.int g.1, .int g.2])), listText (PyData.shownAll (rs.map dInts))]
  rw [piled_cons, piled_cons, piled_nil] at h5
  have h6 : (90000 : Nat) ≤ sizeLine := by decide
  show (listText [listText (PyData.shownAll (gs.map fun g => .tuple [.int g.1, .int g.2])), listText (PyData.shownAll (rs.map dInts))]).length ≤ _
  omega
theorem held_oks (gs : List (Int × Int)) (rs : List (List Int)) : Oks 3 (dHeld gs rs) := .lst fun x m => by
  rcases List.mem_cons.mp m with rfl | m
  · exact .gs gs
  · rw [List.mem_singleton.mp m]
    exact .rows rs
end El
namespace El
open PySem PySem.Spec PyProof.Rows L2
section
variable {P : Program} {w : World} {K : PySem.W.Frag} {mg : Str → Option Value} {base : Heap}
abbrev sI_NoGuest : Stmt := inClass (topS 2) 0
theorem scI_NoGuest : FnScope ["self", "what"] ["self", "what"] (defScope sI_NoGuest) := ⟨rfl, rfl, rfl, by decide +kernel, rfl, by decide +kernel, by decide +kernel⟩
theorem fo_NoGuest {C0 fI : Addr} {fd : FuncData} (F : Fun K "__init__" "NoGuest.__init__" sI_NoGuest fI fd) (T0 : InnC K mg C0) : FnOk P w K mg base CX0 1 fI fd ["self", "what"] (sp_initW K) := by
  refine F.ok scI_NoGuest (fun vs H Q E h => ?_) (fun cdv AA outer s H vs Q E hr h => ?_)
  · obtain ⟨_, _, _, rfl, _⟩ := h
    rfl
  · obtain ⟨a, D, v, rfl, hC, hw, ha, hv, q⟩ := h
    have nd := scI_NoGuest.nd
    refine ⟨_, pss_cons (ps_expr (pe_ownI T0 (pa_cons (pv 0) (pa_cons (pe_joined (.cons pe_str (.cons (pe_fmtW hr (pv 1)) .nil))) pa_nil)))) (pss_one (ps_ost (pv 0) (pv 1))), ?_⟩
    refine ⟨.ref a, rfl, ?_⟩
    have last : tOst K "what" (tVar 0) (tVar 1) { nx := fun _ H' => Q .non H', rt := Q } [some (.ref a), some v] H := ⟨v, rfl, .ref a, rfl, a, D, rfl, hC, hw, .inl ⟨ha, q⟩⟩
    refine ⟨_, rfl, (by show _ ≤ sizeLine; decide +kernel), v, rfl, hv, fun m hm => ⟨_, rfl, ?_, a, D, _, rfl, (by show 1 ≤ 1000; decide), hC, ha, last⟩⟩
    rw [PySem.Str.length_append]
    exact Nat.le_trans (Nat.add_le_add (show _ ≤ 1000 by decide +kernel) hm) (by decide)
theorem own_NoGuest {C0 C fI : Addr} {fd : FuncData} (T : Own K mg "NoGuest" C fI) (F : Fun K "__init__" "NoGuest.__init__" sI_NoGuest fI fd) (T0 : InnC K mg C0) : OwnW P w K mg base "NoGuest" C :=
  ⟨fI, fd, T, fo_NoGuest F T0, F.binds fun _ _ _ _ _ _ us hl => match us, hl with | [_, _], _ => rfl⟩
end
end El
namespace El
open PySem PySem.Spec PyProof.Rows L2
section
variable {P : Program} {w : World} {K : PySem.W.Frag} {mg : Str → Option Value} {base : Heap}
abbrev sI_NoRooms : Stmt := inClass (topS 3) 0
theorem scI_NoRooms : FnScope ["self", "what"] ["self", "what"] (defScope sI_NoRooms) := ⟨rfl, rfl, rfl, by decide +kernel, rfl, by decide +kernel, by decide +kernel⟩
theorem fo_NoRooms {C0 fI : Addr} {fd : FuncData} (F : Fun K "__init__" "NoRooms.__init__" sI_NoRooms fI fd) (T0 : InnC K mg C0) : FnOk P w K mg base CX0 1 fI fd ["self", "what"] (sp_initW K) := by
  refine F.ok scI_NoRooms (fun vs H Q E h => ?_) (fun cdv AA outer s H vs Q E hr h => ?_)
  · obtain ⟨_, _, _, rfl, _⟩ := h
    rfl
  · obtain ⟨a, D, v, rfl, hC, hw, ha, hv, q⟩ := h
    have nd := scI_NoRooms.nd
    refine ⟨_, pss_cons (ps_expr (pe_ownI T0 (pa_cons (pv 0) (pa_cons (pe_joined (.cons pe_str (.cons (pe_fmtW hr (pv 1)) .nil))) pa_nil)))) (pss_one (ps_ost (pv 0) (pv 1))), ?_⟩
    refine ⟨.ref a, rfl, ?_⟩
    have last : tOst K "what" (tVar 0) (tVar 1) { nx := fun _ H' => Q .non H', rt := Q } [some (.ref a), some v] H := ⟨v, rfl, .ref a, rfl, a, D, rfl, hC, hw, .inl ⟨ha, q⟩⟩
    refine ⟨_, rfl, (by show _ ≤ sizeLine; decide +kernel), v, rfl, hv, fun m hm => ⟨_, rfl, ?_, a, D, _, rfl, (by show 1 ≤ 1000; decide), hC, ha, last⟩⟩
    rw [PySem.Str.length_append]
    exact Nat.le_trans (Nat.add_le_add (show _ ≤ 1000 by decide +kernel) hm) (by decide)
theorem own_NoRooms {C0 C fI : Addr} {fd : FuncData} (T : Own K mg "NoRooms" C fI) (F : Fun K "__init__" "NoRooms.__init__" sI_NoRooms fI fd) (T0 : InnC K mg C0) : OwnW P w K mg base "NoRooms" C :=
  ⟨fI, fd, T, fo_NoRooms F T0, F.binds fun _ _ _ _ _ _ us hl => match us, hl with | [_, _], _ => rfl⟩
end
end El
namespace El
open PySem PySem.Spec PyProof.Rows L2
section
variable {P : Program} {w : World} {K : PySem.W.Frag} {mg : Str → Option Value} {base : Heap}
abbrev sI_NoRoom : Stmt := inClass (topS 4) 0
theorem scI_NoRoom : FnScope ["self", "what"] ["self", "what"] (defScope sI_NoRoom) := ⟨rfl, rfl, rfl, by decide +kernel, rfl, by decide +kernel, by decide +kernel⟩
theorem fo_NoRoom {C0 fI : Addr} {fd : FuncData} (F : Fun K "__init__" "NoRoom.__init__" sI_NoRoom fI fd) (T0 : InnC K mg C0) : FnOk P w K mg base CX0 1 fI fd ["self", "what"] (sp_initW K) := by
  refine F.ok scI_NoRoom (fun vs H Q E h => ?_) (fun cdv AA outer s H vs Q E hr h => ?_)
  · obtain ⟨_, _, _, rfl, _⟩ := h
    rfl
  · obtain ⟨a, D, v, rfl, hC, hw, ha, hv, q⟩ := h
    have nd := scI_NoRoom.nd
    refine ⟨_, pss_cons (ps_expr (pe_ownI T0 (pa_cons (pv 0) (pa_cons (pe_joined (.cons pe_str (.cons (pe_fmtW hr (pv 1)) .nil))) pa_nil)))) (pss_one (ps_ost (pv 0) (pv 1))), ?_⟩
    refine ⟨.ref a, rfl, ?_⟩
    have last : tOst K "what" (tVar 0) (tVar 1) { nx := fun _ H' => Q .non H', rt := Q } [some (.ref a), some v] H := ⟨v, rfl, .ref a, rfl, a, D, rfl, hC, hw, .inl ⟨ha, q⟩⟩
    refine ⟨_, rfl, (by show _ ≤ sizeLine; decide +kernel), v, rfl, hv, fun m hm => ⟨_, rfl, ?_, a, D, _, rfl, (by show 1 ≤ 1000; decide), hC, ha, last⟩⟩
    rw [PySem.Str.length_append]
    exact Nat.le_trans (Nat.add_le_add (show _ ≤ 1000 by decide +kernel) hm) (by decide)
theorem own_NoRoom {C0 C fI : Addr} {fd : FuncData} (T : Own K mg "NoRoom" C fI) (F : Fun K "__init__" "NoRoom.__init__" sI_NoRoom fI fd) (T0 : InnC K mg C0) : OwnW P w K mg base "NoRoom" C :=
  ⟨fI, fd, T, fo_NoRoom F T0, F.binds fun _ _ _ _ _ _ us hl => match us, hl with | [_, _], _ => rfl⟩
end
end El
namespace El
open PySem PySem.Spec PyProof.Rows L2
section
variable {P : Program} {w : World} {K : PySem.W.Frag} {mg : Str → Option Value} {base : Heap}
abbrev sI_NoCrowd : Stmt := inClass (topS 5) 0
theorem scI_NoCrowd : FnScope ["self", "what"] ["self", "what"] (defScope sI_NoCrowd) := ⟨rfl, rfl, rfl, by decide +kernel, rfl, by decide +kernel, by decide +kernel⟩
theorem fo_NoCrowd {C0 fI : Addr} {fd : FuncData} (F : Fun K "__init__" "NoCrowd.__init__" sI_NoCrowd fI fd) (T0 : InnC K mg C0) : FnOk P w K mg base CX0 1 fI fd ["self", "what"] (sp_initW K) := by
  refine F.ok scI_NoCrowd (fun vs H Q E h => ?_) (fun cdv AA outer s H vs Q E hr h => ?_)
  · obtain ⟨_, _, _, rfl, _⟩ := h
    rfl
  · obtain ⟨a, D, v, rfl, hC, hw, ha, hv, q⟩ := h
    have nd := scI_NoCrowd.nd
    refine ⟨_, pss_cons (ps_expr (pe_ownI T0 (pa_cons (pv 0) (pa_cons (pe_joined (.cons pe_str (.cons (pe_fmtW hr (pv 1)) .nil))) pa_nil)))) (pss_one (ps_ost (pv 0) (pv 1))), ?_⟩
    refine ⟨.ref a, rfl, ?_⟩
    have last : tOst K "what" (tVar 0) (tVar 1) { nx := fun _ H' => Q .non H', rt := Q } [some (.ref a), some v] H := ⟨v, rfl, .ref a, rfl, a, D, rfl, hC, hw, .inl ⟨ha, q⟩⟩
    refine ⟨_, rfl, (by show _ ≤ sizeLine; decide +kernel), v, rfl, hv, fun m hm => ⟨_, rfl, ?_, a, D, _, rfl, (by show 1 ≤ 1000; decide), hC, ha, last⟩⟩
    rw [PySem.Str.length_append]
    exact Nat.le_trans (Nat.add_le_add (show _ ≤ 1000 by decide +kernel) hm) (by decide)
theorem own_NoCrowd {C0 C fI : Addr} {fd : FuncData} (T : Own K mg "NoCrowd" C fI) (F : Fun K "__init__" "NoCrowd.__init__" sI_NoCrowd fI fd) (T0 : InnC K mg C0) : OwnW P w K mg base "NoCrowd" C :=
  ⟨fI, fd, T, fo_NoCrowd F T0, F.binds fun _ _ _ _ _ _ us hl => match us, hl with | [_, _], _ => rfl⟩
end
end El
namespace El
open PySem PySem.Spec PyProof.Rows L2
section
variable {P : Program} {w : World} {K : PySem.W.Frag} {mg : Str → Option Value} {base : Heap}
abbrev sI_NoText : Stmt := inClass (topS 6) 0
theorem scI_NoText : FnScope ["self", "what"] ["self", "what"] (defScope sI_NoText) := ⟨rfl, rfl, rfl, by decide +kernel, rfl, by decide +kernel, by decide +kernel⟩
theorem fo_NoText {C0 fI : Addr} {fd : FuncData} (F : Fun K "__init__" "NoText.__init__" sI_NoText fI fd) (T0 : InnC K mg C0) : FnOk P w K mg base CX0 1 fI fd ["self", "what"] (sp_initW K) := by
  refine F.ok scI_NoText (fun vs H Q E h => ?_) (fun cdv AA outer s H vs Q E hr h => ?_)
  · obtain ⟨_, _, _, rfl, _⟩ := h
    rfl
  · obtain ⟨a, D, v, rfl, hC, hw, ha, hv, q⟩ := h
    have nd := scI_NoText.nd
    refine ⟨_, pss_cons (ps_expr (pe_ownI T0 (pa_cons (pv 0) (pa_cons (pe_joined (.cons pe_str (.cons (pe_fmtW hr (pv 1)) .nil))) pa_nil)))) (pss_one (ps_ost (pv 0) (pv 1))), ?_⟩
    refine ⟨.ref a, rfl, ?_⟩
    have last : tOst K "what" (tVar 0) (tVar 1) { nx := fun _ H' => Q .non H', rt := Q } [some (.ref a), some v] H := ⟨v, rfl, .ref a, rfl, a, D, rfl, hC, hw, .inl ⟨ha, q⟩⟩
    refine ⟨_, rfl, (by show _ ≤ sizeLine; decide +kernel), v, rfl, hv, fun m hm => ⟨_, rfl, ?_, a, D, _, rfl, (by show 1 ≤ 1000; decide), hC, ha, last⟩⟩
    rw [PySem.Str.length_append]
    exact Nat.le_trans (Nat.add_le_add (show _ ≤ 1000 by decide +kernel) hm) (by decide)
theorem own_NoText {C0 C fI : Addr} {fd : FuncData} (T : Own K mg "NoText" C fI) (F : Fun K "__init__" "NoText.__init__" sI_NoText fI fd) (T0 : InnC K mg C0) : OwnW P w K mg base "NoText" C :=
  ⟨fI, fd, T, fo_NoText F T0, F.binds fun _ _ _ _ _ _ us hl => match us, hl with | [_, _], _ => rfl⟩
end
end El
namespace El
open PySem PySem.Spec PyProof.Rows L2
section
variable {P : Program} {w : World} {K : PySem.W.Frag} {mg : Str → Option Value} {base : Heap}
abbrev s_patience_by_age : Stmt := topS 8
abbrev N_patience_by_age : List Str := ["guests", "patience_of", "number", "age", "patience"]
abbrev P_patience_by_age : List Str := ["guests"]
theorem sc_patience_by_age : FnScope N_patience_by_age P_patience_by_age (defScope s_patience_by_age) := ⟨rfl, rfl, rfl, by decide +kernel, rfl, by decide +kernel, by decide +kernel⟩
def sp_patience_by_age : Sp := fun vs H Q _ => ∃ (B : Addr → Prop) (a : Addr) (ts : List Addr) (gs : List (Int × Int)), vs = [.ref a] ∧ GsAt H B a ts gs ∧ Fit gs ∧ gs.length ≤ 1000 ∧
  ∀ H' d, Same H H' → H d = none → H' d = some (.dK (pks gs)) → Q (.ref d) H'
theorem ok_patience_by_age (A : At K mg "patience_by_age" P_patience_by_age s_patience_by_age) (B : Bi mg) : Df P w K mg base 1 "patience_by_age" P_patience_by_age s_patience_by_age sp_patience_by_age := by
  refine A.df fun f fd F => F.ok sc_patience_by_age (fun vs H Q E h => ?_) (fun cdv AA outer s H vs Q E hr h => ?_)
  · obtain ⟨_, a, _, _, rfl, _⟩ := h
    rfl
  · obtain ⟨BB, a, ts, gs, rfl, hG, hF, hl, q⟩ := h
    have nd := sc_patience_by_age.nd
    refine ⟨_, (pss_cons (ps_set (i := 1) nd rfl (.inl rfl) pe_dnewK)
    (pss_cons (ps_for PassesOwn.never rfl (pi_enum (by rfl) B.enumerate (pa_cons (pv 0) pa_nil)) (pg_tup (by rfl) (pgs_cons (pg_name (i := 2) nd rfl (.inl rfl)) (pgs_cons (pg_tup (by rfl) (pgs_cons (pg_name (i := 3) nd rfl (.inl rfl)) (pgs_cons (pg_name (i := 4) nd rfl (.inl rfl)) pgs_nil))) pgs_nil))) (pss_cons (ps_if (PW.pt (pw_or (pt_cmpR op_lt (pv 4) pe_int (nomark _)) (pw_or1 (pt_cmp (pc_din (hu_of hr) (pv 3) (pv 1)))))) (pss_one ps_never) pss_nil) (pss_one (ps_dput (hu_of hr) (pv 1) (pv 3) (pv 4) rfl))))
    (pss_one (ps_ret (pv 1))))), ?_⟩
    -- patience_of = {}
    refine fun d nd => ?_
    have hG1 := hG.same (same_new (o := .dK []) nd)
    -- the loop
    refine ⟨.ref a, rfl, a, ts.map V.ref, rfl, hG1.seq, ?_⟩
    refine for_it (walk_enum (xs := ts.map V.ref)) (fun i σ H2 => ∃ y2 y3 y4, σ = [some (.ref a), some (.ref d), y2, y3, y4] ∧ Same H H2 ∧ H2 d = some (.dK (pks (gs.take i)))) ⟨none, none, none, rfl, same_new nd, upd_same⟩ (fun i σ H2 _ hW => ?_) (fun i x σ H2 H3 hi hW hY => ?_) (fun σ H2 hW => ?_)
    · obtain ⟨_, _, _, _, sm, _⟩ := hW
      exact (hG.same sm).seq
    · obtain ⟨y2, y3, y4, rfl, sm, hd⟩ := hW
      obtain ⟨T, x1, x2, rfl, nT, rfl, f1, f2⟩ := hY
      obtain rfl : V.int ↑i = x1 := Option.some.inj f1
      obtain ⟨t, g, rfl, eg, et⟩ := (hG.same sm).get f2
      have s3 : Same H2 (upd H2 T (.tup [.int i, .ref t])) := same_new nT
      refine ⟨T, [.int i, .ref t], rfl, SqT.of upd_same, rfl, .int i, [.ref t], rfl, .ref t, [], rfl, ?_⟩
      refine ⟨t, _, rfl, SqT.of (s3 _ _ et), rfl, .int g.1, [.int g.2], rfl, .int g.2, [], rfl, rfl, rfl, ?_⟩
      -- the test
      have hg : 0 ≤ g.2 := hF.pos g (List.mem_of_getElem? eg)
      have no := hF.take_no eg
      refine ⟨.int g.2, rfl, _, _, rfl, rfl, _, rfl, ?_⟩
      rw [decide_eq_false (by omega)]
      refine iteF ?_
      refine ⟨.int g.1, rfl, .ref d, rfl, d, _, rfl, DGet.k (k := Sum.inl g.1) (s3 _ _ hd), _, rfl, ?_⟩
      rw [pks_none no]
      refine iteF ?_
      refine ⟨.int g.2, rfl, .ref d, rfl, .int g.1, rfl, d, _, rfl, DPut.k (k := Sum.inl g.1) (s3 _ _ hd) (ils (by rw [pks_len, List.length_take]; omega)), ?_⟩
      refine ⟨some (.int i), some (.int g.1), some (.int g.2), rfl, Same.mut (Same.trans sm s3) nd, ?_⟩
      rw [upd_same, putK_snoc no, take_snoc eg]
    · obtain ⟨y2, y3, y4, rfl, sm, hd⟩ := hW
      rw [show (ts.map V.ref).length = gs.length by rw [List.length_map, hG.len], take_full] at hd
      exact ⟨.ref d, rfl, q H2 d sm nd hd⟩
end
end El
namespace El
open PySem PySem.Spec PyProof.Rows L2
theorem small_nat {i : Nat} (h : i ≤ 1000) : ((i : Nat) : Int).natAbs < 10 ^ 200 := by
  rw [Int.natAbs_natCast]
  exact Nat.lt_of_lt_of_le (show i < 1001 by omega) (by decide +kernel)
/-- what a def whose first argument is a list of guests refuses, whatever the others are -/
def sp_bg (CG : Addr) (n : Nat) : Sp := fun vs H _ E => ∃ (B : Addr → Prop) (a : Addr) (ts : List Addr) (gs : List (Int × Int)) (i : Nat) (more : List V), vs = .ref a :: more ∧ more.length = n ∧ GsAt H B a ts gs ∧ gs.length ≤ 1000 ∧ FirstBad gs i ∧
  ∀ H' d, Same H H' → H' d = some (.xd [(("what" : Str), .int (i : Nat))]) → E (.ref CG) (some d) H'
section
variable {P : Program} {w : World} {K : PySem.W.Frag} {mg : Str → Option Value} {base : Heap}
theorem okb_patience_by_age {CG : Addr} (A : At K mg "patience_by_age" P_patience_by_age s_patience_by_age) (B : Bi mg) (E_NoGuest : OwnW P w K mg base "NoGuest" CG) : DfX P w K mg base 3 "patience_by_age" P_patience_by_age s_patience_by_age (sp_bg CG 0) := by
  refine A.dfx fun f fd F => okN F sc_patience_by_age (fun vs H Q E h => ?_) (fun cdv AA outer s H vs Q E hr h => ?_)
  · obtain ⟨_, _, _, _, _, more, rfl, hm, _⟩ := h
    rw [List.length_cons, hm]
    rfl
  · obtain ⟨BB, a, ts, gs, m, more, rfl, hm, hG, hl, hb, q⟩ := h
    obtain rfl := List.eq_nil_of_length_eq_zero hm
    have nd := sc_patience_by_age.nd
    refine ⟨_, (pss_cons (ps_set (i := 1) nd rfl (.inl rfl) pe_dnewK)
    (pss_cons (ps_for (passes_of rfl) rfl (pi_enum (by rfl) B.enumerate (pa_cons (pv 0) pa_nil)) (pg_tup (by rfl) (pgs_cons (pg_name (i := 2) nd rfl (.inl rfl)) (pgs_cons (pg_tup (by rfl) (pgs_cons (pg_name (i := 3) nd rfl (.inl rfl)) (pgs_cons (pg_name (i := 4) nd rfl (.inl rfl)) pgs_nil))) pgs_nil))) (pss_cons (ps_if (PW.pt (pw_or (pt_cmpR op_lt (pv 4) pe_int (nomark _)) (pw_or1 (pt_cmp (pc_din (hu_of hr) (pv 3) (pv 1)))))) (pss_one (ps_raiseW E_NoGuest (hr.mono (by decide)) rfl (L2N.takes_of rfl rfl rfl rfl) (pa_cons (pv 2) pa_nil) (by rfl))) pss_nil) (pss_one (ps_dput (hu_of hr) (pv 1) (pv 3) (pv 4) rfl))))
    (pss_one (ps_ret (pv 1))))), ?_⟩
    refine fun d nd => ?_
    have hG1 := hG.same (same_new (o := .dK []) nd)
    refine ⟨.ref a, rfl, a, ts.map V.ref, rfl, hG1.seq, ?_⟩
    have hml : m < gs.length := by
      obtain ⟨g, e, _⟩ := hb.1
      exact at_lt e
    refine for_it (walk_enum (xs := ts.map V.ref)) (fun i σ H2 => ∃ y2 y3 y4, σ = [some (.ref a), some (.ref d), y2, y3, y4] ∧ Same H H2 ∧ H2 d = some (.dK (pks (gs.take i))) ∧ i ≤ m) ⟨none, none, none, rfl, same_new nd, upd_same, Nat.zero_le _⟩ (fun i σ H2 _ hW => ?_) (fun i x σ H2 H3 hi hW hY => ?_) (fun σ H2 hW => ?_)
    · obtain ⟨_, _, _, _, sm, _⟩ := hW
      exact (hG.same sm).seq
    · obtain ⟨y2, y3, y4, rfl, sm, hd, him⟩ := hW
      obtain ⟨T, x1, x2, rfl, nT, rfl, f1, f2⟩ := hY
      obtain rfl : V.int ↑i = x1 := Option.some.inj f1
      obtain ⟨t, g, rfl, eg, et⟩ := (hG.same sm).get f2
      have s3 : Same H2 (upd H2 T (.tup [.int i, .ref t])) := same_new nT
      refine ⟨T, [.int i, .ref t], rfl, SqT.of upd_same, rfl, .int i, [.ref t], rfl, .ref t, [], rfl, ?_⟩
      refine ⟨t, _, rfl, SqT.of (s3 _ _ et), rfl, .int g.1, [.int g.2], rfl, .int g.2, [], rfl, rfl, rfl, ?_⟩
      have raised : BadAt gs i → ∀ d', upd H2 T (.tup [.int i, .ref t]) d' = none → E (.ref CG) (some d') (upd (upd H2 T (.tup [.int i, .ref t])) d' (.xd [(("what" : Str), .int (i : Nat))])) := fun h d' nd' => by
        obtain rfl : i = m := by
          by_cases z : i < m
          · exact absurd h (hb.2 i z)
          · omega
        exact q _ d' ((sm.trans s3).trans (same_new nd')) upd_same
      have hi1 : i ≤ 1000 := by omega
      refine ⟨.int g.2, rfl, _, _, rfl, rfl, _, rfl, ?_⟩
      by_cases hneg : g.2 < 0
      · rw [decide_eq_true hneg]
        refine iteT ⟨.int i, rfl, .int i, rfl, .inl (.inl ⟨i, rfl, small_nat hi1⟩), raised ⟨g, eg, .inl hneg⟩⟩
      · rw [decide_eq_false hneg]
        refine iteF ?_
        refine ⟨.int g.1, rfl, .ref d, rfl, d, _, rfl, DGet.k (k := Sum.inl g.1) (s3 _ _ hd), _, rfl, ?_⟩
        by_cases hin : g.1 ∈ (gs.take i).map (·.1)
        · obtain ⟨x, hx, ex⟩ := List.mem_map.mp hin
          have hF : Fit (gs.take i) := fit_take fun j hj => hb.2 j (by omega)
          have e1 : valV (pks (gs.take i)) (Sum.inl g.1) = some (.int x.2) := by
            rw [← ex]
            exact pks_some hF.nd hx
          rw [e1]
          exact iteT ⟨.int i, rfl, .int i, rfl, .inl (.inl ⟨i, rfl, small_nat hi1⟩), raised ⟨g, eg, .inr hin⟩⟩
        · rw [pks_none hin]
          refine iteF ?_
          refine ⟨.int g.2, rfl, .ref d, rfl, .int g.1, rfl, d, _, rfl, DPut.k (k := Sum.inl g.1) (s3 _ _ hd) (ils (by rw [pks_len, List.length_take]; omega)), ?_⟩
          refine ⟨some (.int i), some (.int g.1), some (.int g.2), rfl, Same.mut (Same.trans sm s3) nd, ?_, ?_⟩
          · rw [upd_same, putK_snoc hin, take_snoc eg]
          · by_cases z : i = m
            · subst z
              obtain ⟨g', e', h'⟩ := hb.1
              obtain rfl : g = g' := Option.some.inj (eg.symm.trans e')
              exact absurd h' (fun h' => h'.elim hneg hin)
            · omega
    · obtain ⟨y2, y3, y4, rfl, sm, hd, him⟩ := hW
      rw [List.length_map, hG.len] at him
      omega
end
end El
namespace El
open PySem PySem.Spec PyProof.Rows L2
section
variable {P : Program} {w : World} {K : PySem.W.Frag} {mg : Str → Option Value} {base : Heap}
abbrev s_check_arrangement : Stmt := topS 9
abbrev N_check_arrangement : List Str := ["patience_of", "arrangement", "seen", "number", "room", "age"]
abbrev P_check_arrangement : List Str := ["patience_of", "arrangement"]
theorem sc_check_arrangement : FnScope N_check_arrangement P_check_arrangement (defScope s_check_arrangement) := ⟨rfl, rfl, rfl, by decide +kernel, rfl, by decide +kernel, by decide +kernel⟩
def sp_check_arrangement : Sp := fun vs H Q _ => ∃ (d o : Addr) (ts : List Addr) (rs : List (List Int)) (gs : List (Int × Int)), vs = [.ref d, .ref o] ∧ H d = some (.dK (pks gs)) ∧ RdAt H o ts rs ∧ rs.flatten.Perm (gs.map (·.1)) ∧ (gs.map (·.1)).Nodup ∧ gs.length ≤ 1000 ∧
  ∀ H', Same H H' → Q .non H'
theorem ok_check_arrangement (A : At K mg "check_arrangement" P_check_arrangement s_check_arrangement) (B : Bi mg) : Df P w K mg base 1 "check_arrangement" P_check_arrangement s_check_arrangement sp_check_arrangement := by
  refine A.df fun f fd F => F.ok sc_check_arrangement (fun vs H Q E h => ?_) (fun cdv AA outer s H vs Q E hr h => ?_)
  · obtain ⟨_, _, _, _, _, rfl, _⟩ := h
    rfl
  · obtain ⟨d, o, ts, rs, gs, rfl, hd, hR, hp, hn, hl, q⟩ := h
    have nd := sc_check_arrangement.nd
    refine ⟨_, (pss_cons (ps_set (i := 2) nd rfl (.inl rfl) (pe_callTy0 cr_set0 (by rfl) B.set_ (by decide +kernel)))
    (pss_cons (ps_for PassesOwn.never rfl (pi_enum (by rfl) B.enumerate (pa_cons (pv 1) pa_nil)) (pg_tup (by rfl) (pgs_cons (pg_name (i := 3) nd rfl (.inl rfl)) (pgs_cons (pg_name (i := 4) nd rfl (.inl rfl)) pgs_nil))) (pss_one (ps_for PassesOwn.never rfl (pi_list (pv 4)) (pg_name (i := 5) nd rfl (.inl rfl)) (pss_cons (ps_if (PW.pt (pw_or (pt_cmp (pc_dnotin (hu_of hr) (pv 5) (pv 0))) (pw_or1 (pt_cmpR or_sin (pv 5) (pv 2) (by rfl))))) (pss_one ps_never) pss_nil) (pss_one (ps_expr (pe_sadd (pv 2) (pa_cons (pv 5) pa_nil))))))))
    (pss_one (ps_if (pt_cmpR op_lt (pe_callB call_lenSI (by rfl) B.len PySem.boot_len (pa_cons (pv 2) pa_nil)) (pe_callB call_lenD (by rfl) B.len PySem.boot_len (pa_cons (pv 0) pa_nil)) (nomark _)) (pss_one ps_never) pss_nil)))), ?_⟩
    have hpl : rs.flatten.length = gs.length := by rw [hp.length_eq, List.length_map]
    have hfn : rs.flatten.Nodup := (hp.nodup_iff).mpr hn
    -- seen
    refine ⟨rfl, fun p np => ?_⟩
    refine ⟨.ref o, rfl, o, ts.map V.ref, rfl, (hR.same (same_new np)).seq, ?_⟩
    refine for_it (walk_enum (xs := ts.map V.ref)) (fun i σ H2 => ∃ y3 y4 y5 S, σ = [some (.ref d), some (.ref o), some (.ref p), y3, y4, y5] ∧ Same H H2 ∧ H2 p = some (SetO w p S (rs.take i).flatten.length) ∧ ∀ k, S k = decide (k ∈ (rs.take i).flatten))
      ⟨none, none, none, fun _ => false, rfl, same_new np, upd_same, fun k => (decide_eq_false (List.not_mem_nil)).symm⟩ (fun i σ H2 _ hW => ?_) (fun i x σ H2 H3 hi hW hY => ?_) (fun σ H2 hW => ?_)
    · obtain ⟨_, _, _, _, _, sm, _⟩ := hW
      exact (hR.same sm).seq
    · obtain ⟨y3, y4, y5, S, rfl, sm, hS, hm⟩ := hW
      obtain ⟨T, x1, x2, rfl, nT, rfl, f1, f2⟩ := hY
      obtain rfl : V.int ↑i = x1 := Option.some.inj f1
      obtain ⟨t, r, rfl, _, er, et⟩ := (hR.same sm).get f2
      have s3 : Same H2 (upd H2 T (.tup [.int i, .ref t])) := same_new nT
      refine ⟨T, [.int i, .ref t], rfl, SqT.of upd_same, rfl, .int i, [.ref t], rfl, .ref t, [], rfl, rfl, ?_⟩
      have hp3 := s3 _ _ hS
      have sm3 : Same H (upd H2 T (.tup [.int i, .ref t])) := sm.trans s3
      have et3 := s3 _ _ et
      revert hp3 sm3 et3
      generalize upd H2 T (.tup [.int i, .ref t]) = H3
      intro hp3 sm3 et3
      refine ⟨.ref t, rfl, t, rfl, ⟨_, SqL.of et3⟩, ?_⟩
      have htp : t ≠ p := fun z => by
        rw [z, hp3] at et3
        cases et3
      refine for_it (walk_list (xs := r.map V.int)) (fun j σ H4 => ∃ y5 S, σ = [some (.ref d), some (.ref o), some (.ref p), some (.int i), some (.ref t), y5] ∧ Kp (fun b => b ≠ p) H3 H4 ∧ H4 p = some (SetO w p S ((rs.take i).flatten ++ r.take j).length) ∧ ∀ k, S k = decide (k ∈ (rs.take i).flatten ++ r.take j))
        ⟨_, S, rfl, Kp.refl, by rw [List.take_zero, List.append_nil]; exact hp3, fun k => by rw [List.take_zero, List.append_nil]; exact hm k⟩ (fun j σ H4 _ hW => ?_) (fun j x σ H4 H5 hj hW hY => ?_) (fun σ H4 hW => ?_)
      · obtain ⟨_, _, _, kp, _⟩ := hW
        exact SqL.of (kp _ _ htp et3)
      · obtain ⟨y5, S, rfl, kp, hS4, hm4⟩ := hW
        obtain ⟨rfl, hx⟩ := hY
        obtain ⟨a, ea, rfl⟩ := ints_at hx
        have hdp : d ≠ p := fun z => by
          rw [z, np] at hd
          cases hd
        have hd4 := kp _ _ hdp (sm3 _ _ hd)
        have ha : a ∈ gs.map (·.1) := hp.mem_iff.mp (flat_mem er ea)
        have no := flat_split hfn er ea
        refine ⟨.int a, rfl, .ref d, rfl, d, _, rfl, dget_pof hd4 hn ha, _, rfl, ?_⟩
        refine iteF ⟨.int a, rfl, .ref p, rfl, a, p, S, _, rfl, rfl, hS4, _, rfl, ?_⟩
        rw [hm4 a, decide_eq_false no]
        refine iteF ⟨.ref p, rfl, ⟨p, S, _, rfl, hS4⟩, .int a, rfl, p, a, S, _, rfl, rfl, hS4, ?_, ?_⟩
        · have hlt : ((rs.take i).flatten ++ r.take j).length ≤ 1000 := by
            have h1 : (rs.take i).flatten.length + r.length ≤ rs.flatten.length := by
              have := congrArg List.length (congrArg List.flatten (List.take_append_drop (i + 1) rs))
              rw [List.flatten_append, List.length_append, take_snoc_flat er, List.length_append] at this
              omega
            rw [List.length_append, List.length_take]
            omega
          exact Nat.lt_of_le_of_lt (Nat.succ_le_succ hlt) (by decide)
        · have hSa : S a = false := by
            rw [hm4 a]
            exact decide_eq_false no
          have hne : ((rs.take i).flatten ++ r.take (j + 1)).length = ((rs.take i).flatten ++ r.take j).length + 1 := by
            rw [take_snoc ea, ← List.append_assoc, List.length_append (as := _ ++ _)]
            rfl
          refine ⟨some (.int a), fun z => S z || decide (z = a), rfl, Kp.mut kp (fun z => z rfl), ?_, ?_⟩
          · rw [hne]
            refine Eq.trans upd_same ?_
            rw [hSa]
            rfl
          · intro k
            show (S k || decide (k = a)) = _
            rw [hm4 k, take_snoc ea, ← List.append_assoc]
            by_cases h1 : k ∈ (rs.take i).flatten ++ r.take j
            · rw [decide_eq_true h1, decide_eq_true (List.mem_append_left _ h1)]
              rfl
            · rw [decide_eq_false h1, Bool.false_or]
              by_cases h2 : k = a
              · rw [decide_eq_true h2, decide_eq_true (List.mem_append_right _ (List.mem_singleton.mpr h2))]
              · rw [decide_eq_false h2, decide_eq_false fun z => (List.mem_append.mp z).elim h1 fun z => h2 (List.mem_singleton.mp z)]
      · obtain ⟨y5, S, rfl, kp, hS4, hm4⟩ := hW
        rw [List.length_map, take_full, ← take_snoc_flat er] at hS4
        refine ⟨_, _, _, S, rfl, fun b x e => kp b x (fun z => by rw [z, np] at e; cases e) (sm3 b x e), hS4, fun k => ?_⟩
        rw [hm4 k, List.length_map, take_full, ← take_snoc_flat er]
    · obtain ⟨y3, y4, y5, S, rfl, sm, hS, hm⟩ := hW
      rw [List.length_map, hR.len, take_full] at hS
      refine ⟨.ref p, rfl, p, S, _, rfl, hS, by omega, .ref d, rfl, d, _, rfl, sm _ _ hd, _, _, rfl, rfl, _, rfl, ?_⟩
      rw [pks_len, hpl, decide_eq_false (by omega)]
      exact iteF (q _ sm)
end
end El
namespace El
open PySem PySem.Spec PyProof.Rows L2
section
variable {P : Program} {w : World} {K : PySem.W.Frag} {mg : Str → Option Value} {base : Heap}
abbrev s_eldest_upset : Stmt := topS 12
abbrev N_eldest_upset : List Str := ["patience_of", "room", "elders", "age"]
abbrev P_eldest_upset : List Str := ["patience_of", "room"]
theorem sc_eldest_upset : FnScope N_eldest_upset P_eldest_upset (defScope s_eldest_upset) := ⟨rfl, rfl, rfl, by decide +kernel, rfl, by decide +kernel, by decide +kernel⟩
/-- the value told -/
def upV : Option Int → V
  | some a => .int a
  | none => .non
def sp_eldest_upset : Sp := fun vs H Q _ => ∃ (d o : Addr) (ns : List Int) (gs : List (Int × Int)), vs = [.ref d, .ref o] ∧ H d = some (.dK (pks gs)) ∧ H o = some (.lst (ns.map V.int)) ∧ (∀ a ∈ ns, a ∈ gs.map (·.1)) ∧ (gs.map (·.1)).Nodup ∧ ns.length ≤ 1000 ∧
  ∀ H', Same H H' → Q (upV (eldUp gs ns)) H'
theorem ok_eldest_upset (A : At K mg "eldest_upset" P_eldest_upset s_eldest_upset) (B : Bi mg) : Df P w K mg base 1 "eldest_upset" P_eldest_upset s_eldest_upset sp_eldest_upset := by
  refine A.df fun f fd F => F.ok sc_eldest_upset (fun vs H Q E h => ?_) (fun cdv AA outer s H vs Q E hr h => ?_)
  · obtain ⟨_, _, _, _, rfl, _⟩ := h
    rfl
  · obtain ⟨d, o, ns, gs, rfl, hd, ho, hm, hn, hl, q⟩ := h
    have nd := sc_eldest_upset.nd
    refine ⟨_, (pss_cons (ps_for PassesOwn.never rfl (pi_enum (by rfl) B.enumerate (pa_cons (pe_callBK (cr_sortedRev (b := true)) (by rfl) B.sorted (by decide +kernel) (pa_cons (pv 1) pa_nil) (pk_cons pe_bl pk_nil)) pa_nil)) (pg_tup (by rfl) (pgs_cons (pg_name (i := 2) nd rfl (.inl rfl)) (pgs_cons (pg_name (i := 3) nd rfl (.inl rfl)) pgs_nil))) (pss_one (ps_if (pt_cmpR op_gt (pv 2) (pe_dget (hu_of hr) (pv 0) (pv 3) (fun _ _ => rfl)) (nomark _)) (pss_one (ps_ret (pv 3))) pss_nil)))
    (pss_one (ps_ret pe_non))), ?_⟩
    refine ⟨.ref o, rfl, o, ns, rfl, rfl, SqL.of ho, fun ms p hp hs np => ?_⟩
    have hms : ms = down ns := down_is hp hs
    subst hms
    refine ⟨p, _, rfl, SqL.of upd_same, ?_⟩
    have sm1 : Same H (upd H p (.lst ((down ns).map V.int))) := same_new np
    have ep : upd H p (.lst ((down ns).map V.int)) p = some (.lst ((down ns).map V.int)) := upd_same
    revert sm1 ep
    generalize upd H p (.lst ((down ns).map V.int)) = H1
    intro sm1 ep
    refine for_it (walk_enum (xs := (down ns).map V.int)) (fun i σ H2 => ∃ y2 y3, σ = [some (.ref d), some (.ref o), y2, y3] ∧ Same H1 H2 ∧ ∀ (j : Nat) (b : Int), j < i → (down ns)[j]? = some b → (j : Int) ≤ pof gs b)
      ⟨none, none, rfl, Same.refl _, fun j b h => absurd h (Nat.not_lt_zero _)⟩ (fun i σ H2 _ hW => ?_) (fun i x σ H2 H3 hi hW hY => ?_) (fun σ H2 hW => ?_)
    · obtain ⟨_, _, _, sm, _⟩ := hW
      exact SqL.of (sm _ _ ep)
    · obtain ⟨y2, y3, rfl, sm, hb⟩ := hW
      obtain ⟨T, x1, x2, rfl, nT, rfl, f1, f2⟩ := hY
      obtain rfl : V.int ↑i = x1 := Option.some.inj f1
      obtain ⟨a, ea, rfl⟩ := ints_at f2
      have s3 : Same H2 (upd H2 T (.tup [.int i, .int a])) := same_new nT
      refine ⟨T, [.int i, .int a], rfl, SqT.of upd_same, rfl, .int i, [.int a], rfl, .int a, [], rfl, rfl, ?_⟩
      have sm3 : Same H (upd H2 T (.tup [.int i, .int a])) := sm1.trans (sm.trans s3)
      have ha : a ∈ gs.map (·.1) := hm a ((down_perm ns).mem_iff.mp (List.mem_of_getElem? ea))
      refine ⟨.int i, rfl, .ref d, rfl, .int a, rfl, d, _, rfl, dget_pof (sm3 _ _ hd) hn ha, _, _, rfl, rfl, _, rfl, ite2 (fun e => ?_) (fun e => ?_)⟩
      · have e := of_decide_eq_true e
        have hu : eldUp gs ns = some a := upIn_at ea (fun j b hj eb => by have := hb j b hj eb; omega) (by omega)
        have z := q _ sm3
        rw [hu] at z
        exact ⟨.int a, rfl, z⟩
      · have e : ¬ (pof gs a < (i : Int)) := fun z => e (decide_eq_true z)
        refine ⟨_, _, rfl, sm.trans s3, fun j b hj eb => ?_⟩
        by_cases h : j < i
        · exact hb j b h eb
        · have : j = i := by omega
          subst this
          obtain rfl : a = b := Option.some.inj (ea.symm.trans eb)
          omega
    · obtain ⟨y2, y3, rfl, sm, hb⟩ := hW
      have hu : eldUp gs ns = none := upIn_none fun i a e => by
        have := hb i a (by rw [List.length_map]; exact at_lt e) e
        omega
      have z := q _ (sm1.trans sm)
      rw [hu] at z
      exact z
end
end El
namespace El
open PySem PySem.Spec PyProof.Rows L2
theorem iteFx {c : Bool} {A B : Prop} (hc : c = false) (h : B) : if c = true then A else B := by
  rw [hc]
  exact iteF h
theorem iteTx {c : Bool} {A B : Prop} (hc : c = true) (h : A) : if c = true then A else B := by
  rw [hc]
  exact iteT h
section
variable {P : Program} {w : World} {K : PySem.W.Frag} {mg : Str → Option Value} {base : Heap}
abbrev s_upset : Stmt := topS 11
abbrev N_upset : List Str := ["guests", "arrangement", "patience_of", "number", "room", "age"]
abbrev P_upset : List Str := ["guests", "arrangement"]
theorem sc_upset : FnScope N_upset P_upset (defScope s_upset) := ⟨rfl, rfl, rfl, by decide +kernel, rfl, by decide +kernel, by decide +kernel⟩
def sp_upset : Sp := fun vs H Q _ => ∃ (BB : Addr → Prop) (a o : Addr) (ts us : List Addr) (gs : List (Int × Int)) (rs : List (List Int)), vs = [.ref a, .ref o] ∧ GsAt H BB a ts gs ∧ Fit gs ∧ gs.length ≤ 1000 ∧ RdAt H o us rs ∧ rs.flatten.Perm (gs.map (·.1)) ∧
  (upsetOf gs rs 0 = none → ∀ H', Same H H' → Q .non H') ∧ (∀ i x, upsetOf gs rs 0 = some (i, x) → ∀ H' t, Same H H' → H t = none → H' t = some (.tup [.int (i : Nat), .int x]) → Q (.ref t) H')
theorem ok_upset (A : At K mg "upset" P_upset s_upset) (B : Bi mg) (D_patience_by_age : Df P w K mg base 1 "patience_by_age" P_patience_by_age s_patience_by_age sp_patience_by_age)
    (D_check_arrangement : Df P w K mg base 1 "check_arrangement" P_check_arrangement s_check_arrangement sp_check_arrangement) (D_eldest_upset : Df P w K mg base 1 "eldest_upset" P_eldest_upset s_eldest_upset sp_eldest_upset) : Df P w K mg base 2 "upset" P_upset s_upset sp_upset := by
  refine A.df fun f fd F => F.ok sc_upset (fun vs H Q E h => ?_) (fun cdv AA outer s H vs Q E hr h => ?_)
  · obtain ⟨_, _, _, _, _, _, _, rfl, _⟩ := h
    rfl
  · obtain ⟨BB, a, o, ts, us, gs, rs, rfl, hG, hF, hl, hR, hp, q1, q2⟩ := h
    have nd := sc_upset.nd
    refine ⟨_, (pss_cons (ps_set (i := 2) nd rfl (.inl rfl) (pe_df D_patience_by_age (hr.mono (by decide)) (by rfl) (pa_cons (pv 0) pa_nil)))
    (pss_cons (ps_expr (pe_df D_check_arrangement (hr.mono (by decide)) (by rfl) (pa_cons (pv 2) (pa_cons (pv 1) pa_nil))))
    (pss_cons (ps_for PassesOwn.never rfl (pi_enum (by rfl) B.enumerate (pa_cons (pv 1) pa_nil)) (pg_tup (by rfl) (pgs_cons (pg_name (i := 3) nd rfl (.inl rfl)) (pgs_cons (pg_name (i := 4) nd rfl (.inl rfl)) pgs_nil))) (pss_cons (ps_set (i := 5) nd rfl (.inl rfl) (pe_df D_eldest_upset (hr.mono (by decide)) (by rfl) (pa_cons (pv 2) (pa_cons (pv 4) pa_nil)))) (pss_one (ps_if (pt_cmpR op_notN (pv 5) pe_non (nomark _)) (pss_one (ps_ret (pe_tup (pa_cons (pv 3) (pa_cons (pv 5) pa_nil))))) pss_nil))))
    (pss_one (ps_ret pe_non))))), ?_⟩
    refine ⟨.ref a, rfl, BB, a, ts, gs, rfl, hG, hF, hl, fun H1 d s1 n1 e1 => ?_⟩
    refine ⟨.ref d, rfl, .ref o, rfl, d, o, us, rs, gs, rfl, e1, hR.same s1, hp, hF.nd, hl, fun H2 s2 => ?_⟩
    have s02 := s1.trans s2
    refine ⟨.ref o, rfl, o, us.map V.ref, rfl, (hR.same s02).seq, ?_⟩
    refine for_it (walk_enum (xs := us.map V.ref)) (fun i σ H3 => ∃ y3 y4 y5, σ = [some (.ref a), some (.ref o), some (.ref d), y3, y4, y5] ∧ Same H2 H3 ∧ ∀ (j : Nat) (s : List Int), j < i → rs[j]? = some s → eldUp gs s = none)
      ⟨none, none, none, rfl, Same.refl _, fun j s h => absurd h (Nat.not_lt_zero _)⟩ (fun i σ H3 _ hW => ?_) (fun i x σ H3 H4 hi hW hY => ?_) (fun σ H3 hW => ?_)
    · obtain ⟨_, _, _, _, sm, _⟩ := hW
      exact (hR.same (s02.trans sm)).seq
    · obtain ⟨y3, y4, y5, rfl, sm, hb⟩ := hW
      obtain ⟨T, x1, x2, rfl, nT, rfl, f1, f2⟩ := hY
      obtain rfl : V.int ↑i = x1 := Option.some.inj f1
      obtain ⟨t, r, rfl, _, er, et⟩ := (hR.same (s02.trans sm)).get f2
      have s3 : Same H3 (upd H3 T (.tup [.int i, .ref t])) := same_new nT
      refine ⟨T, [.int i, .ref t], rfl, SqT.of upd_same, rfl, .int i, [.ref t], rfl, .ref t, [], rfl, rfl, ?_⟩
      have sm3 : Same H (upd H3 T (.tup [.int i, .ref t])) := s02.trans (sm.trans s3)
      have hd3 := (sm.trans s3) _ _ (s2 _ _ e1)
      refine ⟨.ref d, rfl, .ref t, rfl, d, t, r, gs, rfl, hd3, s3 _ _ et, fun b hb => hp.mem_iff.mp (List.mem_flatten.mpr ⟨r, List.mem_of_getElem? er, hb⟩), hF.nd, ?_, fun H5 s5 => ?_⟩
      · have h1 := room_le_flat rs r (List.mem_of_getElem? er)
        have h2 := hp.length_eq
        rw [List.length_map] at h2
        omega
      · have sm5 : Same H H5 := sm3.trans s5
        cases hu : eldUp gs r with
        | none =>
          refine ⟨_, rfl, rfl, _, rfl, iteFx (by show (!decide (V.non = V.non)) = false; simp) ?_⟩
          refine ⟨_, _, _, rfl, sm.trans (s3.trans s5), fun j s hj es => ?_⟩
          by_cases h : j < i
          · exact hb j s h es
          · have : j = i := by omega
            subst this
            obtain rfl : r = s := Option.some.inj (er.symm.trans es)
            exact hu
        | some b =>
          refine ⟨_, rfl, rfl, _, rfl, iteTx (by show (!decide (V.int b = V.non)) = true; simp) ?_⟩
          refine ⟨.int i, rfl, .int b, rfl, (by show 2 ≤ sizeLine; decide), fun p np => ?_⟩
          have z := upsetOf_at (k := 0) er hb hu
          exact q2 i b z _ p (sm5.trans (same_new np)) (sm5.free np) upd_same
    · obtain ⟨y3, y4, y5, rfl, sm, hb⟩ := hW
      refine q1 (upsetOf_none fun s ms => ?_) _ (s02.trans sm)
      obtain ⟨j, ej⟩ := List.mem_iff_getElem?.mp ms
      refine hb j s ?_ ej
      rw [List.length_map, hR.len]
      exact at_lt ej
end
end El
namespace El
open PySem PySem.Spec PyProof.Rows L2
def ArrRef (CR : Addr) (H : Hp) (E : XK) (ages : List Int) (rs : List (List Int)) : Prop :=
  (∃ k, FirstOdd ages rs k ∧ ∀ H' d, Same H H' → H' d = some (.xd [(("what" : Str), .int (k : Nat))]) → E (.ref CR) (some d) H') ∨ (LeftOut ages rs ∧ ∀ H' d, Same H H' → H' d = some (.xd [(("what" : Str), .non)]) → E (.ref CR) (some d) H')
def sp_check_arrangement_b (CR : Addr) : Sp := fun vs H _ E => ∃ (d o : Addr) (ts : List Addr) (rs : List (List Int)) (gs : List (Int × Int)), vs = [.ref d, .ref o] ∧ H d = some (.dK (pks gs)) ∧ RdAt H o ts rs ∧ (gs.map (·.1)).Nodup ∧ gs.length ≤ 1000 ∧ rs.length ≤ 1000 ∧
  ArrRef CR H E (gs.map (·.1)) rs
section
variable {P : Program} {w : World} {K : PySem.W.Frag} {mg : Str → Option Value} {base : Heap}
theorem okb_check_arrangement {CR : Addr} (A : At K mg "check_arrangement" P_check_arrangement s_check_arrangement) (B : Bi mg) (E_NoRoom : OwnW P w K mg base "NoRoom" CR) : DfX P w K mg base 3 "check_arrangement" P_check_arrangement s_check_arrangement (sp_check_arrangement_b CR) := by
  refine A.dfx fun f fd F => okN F sc_check_arrangement (fun vs H Q E h => ?_) (fun cdv AA outer s H vs Q E hr h => ?_)
  · obtain ⟨_, _, _, _, _, rfl, _⟩ := h
    rfl
  · obtain ⟨d, o, ts, rs, gs, rfl, hd, hR, hn, hl, hrl, q⟩ := h
    have nd := sc_check_arrangement.nd
    refine ⟨_, (pss_cons (ps_set (i := 2) nd rfl (.inl rfl) (pe_callTy0 cr_set0 (by rfl) B.set_ (by decide +kernel)))
    (pss_cons (ps_for (passes_of rfl) rfl (pi_enum (by rfl) B.enumerate (pa_cons (pv 1) pa_nil)) (pg_tup (by rfl) (pgs_cons (pg_name (i := 3) nd rfl (.inl rfl)) (pgs_cons (pg_name (i := 4) nd rfl (.inl rfl)) pgs_nil))) (pss_one (ps_for (passes_of rfl) rfl (pi_list (pv 4)) (pg_name (i := 5) nd rfl (.inl rfl)) (pss_cons (ps_if (PW.pt (pw_or (pt_cmp (pc_dnotin (hu_of hr) (pv 5) (pv 0))) (pw_or1 (pt_cmpR or_sin (pv 5) (pv 2) (by rfl))))) (pss_one (ps_raiseW E_NoRoom (hr.mono (by decide)) rfl (L2N.takes_of rfl rfl rfl rfl) (pa_cons (pv 3) pa_nil) (by rfl))) pss_nil) (pss_one (ps_expr (pe_sadd (pv 2) (pa_cons (pv 5) pa_nil))))))))
    (pss_one (ps_if (pt_cmpR op_lt (pe_callB call_lenSI (by rfl) B.len PySem.boot_len (pa_cons (pv 2) pa_nil)) (pe_callB call_lenD (by rfl) B.len PySem.boot_len (pa_cons (pv 0) pa_nil)) (nomark _)) (pss_one (ps_raiseW E_NoRoom (hr.mono (by decide)) rfl (L2N.takes_of rfl rfl rfl rfl) (pa_cons pe_non pa_nil) (by rfl))) pss_nil)))), ?_⟩
    refine ⟨rfl, fun p np => ?_⟩
    refine ⟨.ref o, rfl, o, ts.map V.ref, rfl, (hR.same (same_new np)).seq, ?_⟩
    have gl : (gs.map (·.1)).length ≤ 1000 := by
      rw [List.length_map]
      exact hl
    refine for_it (walk_enum (xs := ts.map V.ref)) (fun i σ H2 => ∃ y3 y4 y5 S, σ = [some (.ref d), some (.ref o), some (.ref p), y3, y4, y5] ∧ Same H H2 ∧ H2 p = some (SetO w p S (rs.take i).flatten.length) ∧ (∀ k, S k = decide (k ∈ (rs.take i).flatten)) ∧ Seemly (gs.map (·.1)) (rs.take i).flatten)
      ⟨none, none, none, fun _ => false, rfl, same_new np, upd_same, fun k => (decide_eq_false (List.not_mem_nil)).symm, Seemly.nil _⟩ (fun i σ H2 _ hW => ?_) (fun i x σ H2 H3 hi hW hY => ?_) (fun σ H2 hW => ?_)
    · obtain ⟨_, _, _, _, _, sm, _⟩ := hW
      exact (hR.same sm).seq
    · obtain ⟨y3, y4, y5, S, rfl, sm, hS, hm, hf⟩ := hW
      obtain ⟨T, x1, x2, rfl, nT, rfl, f1, f2⟩ := hY
      obtain rfl : V.int ↑i = x1 := Option.some.inj f1
      obtain ⟨t, r, rfl, _, er, et⟩ := (hR.same sm).get f2
      have s3 : Same H2 (upd H2 T (.tup [.int i, .ref t])) := same_new nT
      refine ⟨T, [.int i, .ref t], rfl, SqT.of upd_same, rfl, .int i, [.ref t], rfl, .ref t, [], rfl, rfl, ?_⟩
      have hp3 := s3 _ _ hS
      have sm3 : Same H (upd H2 T (.tup [.int i, .ref t])) := sm.trans s3
      have et3 := s3 _ _ et
      revert hp3 sm3 et3
      generalize upd H2 T (.tup [.int i, .ref t]) = H3
      intro hp3 sm3 et3
      refine ⟨.ref t, rfl, t, rfl, ⟨_, SqL.of et3⟩, ?_⟩
      have htp : t ≠ p := fun z => by
        rw [z, hp3] at et3
        cases et3
      refine for_it (walk_list (xs := r.map V.int)) (fun j σ H4 => ∃ y5 S, σ = [some (.ref d), some (.ref o), some (.ref p), some (.int i), some (.ref t), y5] ∧ Kp (fun b => b ≠ p) H3 H4 ∧ H4 p = some (SetO w p S ((rs.take i).flatten ++ r.take j).length) ∧ (∀ k, S k = decide (k ∈ (rs.take i).flatten ++ r.take j)) ∧ Seemly (gs.map (·.1)) ((rs.take i).flatten ++ r.take j))
        ⟨_, S, rfl, Kp.refl, by rw [List.take_zero, List.append_nil]; exact hp3, fun k => by rw [List.take_zero, List.append_nil]; exact hm k, by rw [List.take_zero, List.append_nil]; exact hf⟩ (fun j σ H4 _ hW => ?_) (fun j x σ H4 H5 hj hW hY => ?_) (fun σ H4 hW => ?_)
      · obtain ⟨_, _, _, kp, _⟩ := hW
        exact SqL.of (kp _ _ htp et3)
      · obtain ⟨y5, S, rfl, kp, hS4, hm4, hf4⟩ := hW
        obtain ⟨rfl, hx⟩ := hY
        obtain ⟨a, ea, rfl⟩ := ints_at hx
        have hdp : d ≠ p := fun z => by
          rw [z, np] at hd
          cases hd
        have hd4 := kp _ _ hdp (sm3 _ _ hd)
        have s4 : Same H H5 := fun b u e => kp b u (fun z => by rw [z, np] at e; cases e) (sm3 b u e)
        have raised : (a ∉ gs.map (·.1) ∨ a ∈ (rs.take i).flatten ++ r.take j) → ∀ d', H5 d' = none → E (.ref CR) (some d') (upd H5 d' (.xd [(("what" : Str), .int (i : Nat))])) := fun h d' nd' => by
          rcases q with ⟨k, ⟨r', j', a', er', ea', hf', hb'⟩, q⟩ | ⟨⟨hall, _⟩, _⟩
          · obtain ⟨rfl, _⟩ := odd_ahead er' ea' hb' hf' er ea hf4 h
            exact q _ d' (s4.trans (same_new nd')) upd_same
          · exact (odd_not ⟨r, j, a, er, ea, hf4, h⟩ hall).elim
        have hi1 : i ≤ 1000 := by
          have := at_lt er
          omega
        refine ⟨.int a, rfl, .ref d, rfl, d, _, rfl, DGet.k (k := Sum.inl a) hd4, _, rfl, ?_⟩
        by_cases ha : a ∈ gs.map (·.1)
        · rw [pks_get hn ha]
          refine iteF ⟨.int a, rfl, .ref p, rfl, a, p, S, _, rfl, rfl, hS4, _, rfl, ?_⟩
          by_cases no : a ∈ (rs.take i).flatten ++ r.take j
          · rw [hm4 a, decide_eq_true no]
            exact iteT ⟨.int i, rfl, .int i, rfl, .inl (.inl ⟨i, rfl, small_nat hi1⟩), raised (.inr no)⟩
          · rw [hm4 a, decide_eq_false no]
            refine iteF ⟨.ref p, rfl, ⟨p, S, _, rfl, hS4⟩, .int a, rfl, p, a, S, _, rfl, rfl, hS4, ?_, ?_⟩
            · have hlt := hf4.len
              exact Nat.lt_of_le_of_lt (Nat.succ_le_succ (Nat.le_trans hlt gl)) (by decide)
            · have hSa : S a = false := by
                rw [hm4 a]
                exact decide_eq_false no
              have hne : ((rs.take i).flatten ++ r.take (j + 1)).length = ((rs.take i).flatten ++ r.take j).length + 1 := by
                rw [take_snoc ea, ← List.append_assoc, List.length_append (as := _ ++ _)]
                rfl
              refine ⟨some (.int a), fun z => S z || decide (z = a), rfl, Kp.mut kp (fun z => z rfl), ?_, ?_, ?_⟩
              · rw [hne]
                refine Eq.trans upd_same ?_
                rw [hSa]
                rfl
              · intro k
                show (S k || decide (k = a)) = _
                rw [hm4 k, take_snoc ea, ← List.append_assoc]
                by_cases h1 : k ∈ (rs.take i).flatten ++ r.take j
                · rw [decide_eq_true h1, decide_eq_true (List.mem_append_left _ h1)]
                  rfl
                · rw [decide_eq_false h1, Bool.false_or]
                  by_cases h2 : k = a
                  · rw [decide_eq_true h2, decide_eq_true (List.mem_append_right _ (List.mem_singleton.mpr h2))]
                  · rw [decide_eq_false h2, decide_eq_false fun z => (List.mem_append.mp z).elim h1 fun z => h2 (List.mem_singleton.mp z)]
              · rw [take_snoc ea, ← List.append_assoc]
                exact hf4.snoc ha no
        · rw [pks_none ha]
          exact iteT ⟨.int i, rfl, .int i, rfl, .inl (.inl ⟨i, rfl, small_nat hi1⟩), raised (.inl ha)⟩
      · obtain ⟨y5, S, rfl, kp, hS4, hm4, hf4⟩ := hW
        rw [List.length_map, take_full, ← take_snoc_flat er] at hS4
        rw [List.length_map, take_full, ← take_snoc_flat er] at hf4
        refine ⟨_, _, _, S, rfl, fun b x e => kp b x (fun z => by rw [z, np] at e; cases e) (sm3 b x e), hS4, fun k => ?_, hf4⟩
        rw [hm4 k, List.length_map, take_full, ← take_snoc_flat er]
    · obtain ⟨y3, y4, y5, S, rfl, sm, hS, hm, hf⟩ := hW
      rw [List.length_map, hR.len, take_full] at hS hf
      have hfl := hf.len
      refine ⟨.ref p, rfl, p, S, _, rfl, hS, by omega, .ref d, rfl, d, _, rfl, sm _ _ hd, _, _, rfl, rfl, _, rfl, ?_⟩
      rcases q with ⟨k, hk, _⟩ | ⟨⟨_, hlt⟩, q⟩
      · exact (odd_not hk hf).elim
      · rw [pks_len, decide_eq_true (by rw [List.length_map] at hlt; omega)]
        exact iteT ⟨.non, rfl, .inr (.inl rfl), fun d' nd' => q _ d' (sm.trans (same_new nd')) upd_same⟩
end
end El
namespace El
open PySem PySem.Spec PyProof.Rows L2
def sp_patience_by_age_x (CG : Addr) : Sp := fun vs H Q E => sp_patience_by_age vs H Q E0 ∨ sp_bg CG 0 vs H Q E
section
variable {P : Program} {w : World} {K : PySem.W.Frag} {mg : Str → Option Value} {base : Heap}
theorem okx_patience_by_age {CG : Addr} (A : At K mg "patience_by_age" P_patience_by_age s_patience_by_age) (B : Bi mg) (E_NoGuest : OwnW P w K mg base "NoGuest" CG) : DfX P w K mg base 3 "patience_by_age" P_patience_by_age s_patience_by_age (sp_patience_by_age_x CG) :=
  Df.orx (ok_patience_by_age A B) (okb_patience_by_age A B E_NoGuest) (by decide)
end
end El
namespace El
open PySem PySem.Spec PyProof.Rows L2
def sp_check_arrangement_x (CR : Addr) : Sp := fun vs H Q E => sp_check_arrangement vs H Q E0 ∨ sp_check_arrangement_b CR vs H Q E
/-- guests as they can be, and an arrangement that is none of them -/
def sp_wrong (CR : Addr) : Sp := fun vs H _ E => ∃ (BB : Addr → Prop) (a o : Addr) (ts us : List Addr) (gs : List (Int × Int)) (rs : List (List Int)), vs = [.ref a, .ref o] ∧ GsAt H BB a ts gs ∧ Fit gs ∧ gs.length ≤ 1000 ∧ RdAt H o us rs ∧ rs.length ≤ 1000 ∧ ArrRef CR H E (gs.map (·.1)) rs
def sp_upset_x (CG CR : Addr) : Sp := fun vs H Q E => sp_upset vs H Q E0 ∨ (sp_bg CG 1 vs H Q E ∨ sp_wrong CR vs H Q E)
theorem ArrRef.same {CR : Addr} {H H1 : Hp} {E : XK} {ages : List Int} {rs : List (List Int)} (h : ArrRef CR H E ages rs) (k : Same H H1) : ArrRef CR H1 E ages rs := by
  rcases h with ⟨i, hi, q⟩ | ⟨hl, q⟩
  · exact .inl ⟨i, hi, fun H' d s => q H' d (k.trans s)⟩
  · exact .inr ⟨hl, fun H' d s => q H' d (k.trans s)⟩
section
variable {P : Program} {w : World} {K : PySem.W.Frag} {mg : Str → Option Value} {base : Heap}
theorem okx_check_arrangement {CR : Addr} (A : At K mg "check_arrangement" P_check_arrangement s_check_arrangement) (B : Bi mg) (E_NoRoom : OwnW P w K mg base "NoRoom" CR) : DfX P w K mg base 3 "check_arrangement" P_check_arrangement s_check_arrangement (sp_check_arrangement_x CR) :=
  Df.orx (ok_check_arrangement A B) (okb_check_arrangement A B E_NoRoom) (by decide)
theorem okb_upset {CG CR : Addr} (A : At K mg "upset" P_upset s_upset) (B : Bi mg) (XD_patience_by_age : DfX P w K mg base 3 "patience_by_age" P_patience_by_age s_patience_by_age (sp_patience_by_age_x CG))
    (XD_check_arrangement : DfX P w K mg base 3 "check_arrangement" P_check_arrangement s_check_arrangement (sp_check_arrangement_x CR)) (D_eldest_upset : Df P w K mg base 1 "eldest_upset" P_eldest_upset s_eldest_upset sp_eldest_upset) : DfX P w K mg base 4 "upset" P_upset s_upset (fun vs H Q E => sp_bg CG 1 vs H Q E ∨ sp_wrong CR vs H Q E) := by
  refine A.dfx fun f fd F => okN F sc_upset (fun vs H Q E h => ?_) (fun cdv AA outer s H vs Q E hr h => ?_)
  · rcases h with ⟨_, _, _, _, _, more, rfl, hm, _⟩ | ⟨_, _, _, _, _, _, _, rfl, _⟩
    · rw [List.length_cons, hm]
      rfl
    · rfl
  · have nd := sc_upset.nd
    refine ⟨_, (pss_cons (ps_set (i := 2) nd rfl (.inl rfl) (pe_dfS XD_patience_by_age (L2N.takes_of rfl rfl rfl rfl) (hr.mono (by decide)) (by rfl) (pa_cons (pv 0) pa_nil)))
    (pss_cons (ps_expr (pe_dfS XD_check_arrangement (L2N.takes_of rfl rfl rfl rfl) (hr.mono (by decide)) (by rfl) (pa_cons (pv 2) (pa_cons (pv 1) pa_nil))))
    (pss_cons (ps_for (passes_of rfl) rfl (pi_enum (by rfl) B.enumerate (pa_cons (pv 1) pa_nil)) (pg_tup (by rfl) (pgs_cons (pg_name (i := 3) nd rfl (.inl rfl)) (pgs_cons (pg_name (i := 4) nd rfl (.inl rfl)) pgs_nil))) (pss_cons (ps_set (i := 5) nd rfl (.inl rfl) (pe_df D_eldest_upset (hr.mono (by decide)) (by rfl) (pa_cons (pv 2) (pa_cons (pv 4) pa_nil)))) (pss_one (ps_if (pt_cmpR op_notN (pv 5) pe_non (nomark _)) (pss_one (ps_ret (pe_tup (pa_cons (pv 3) (pa_cons (pv 5) pa_nil))))) pss_nil))))
    (pss_one (ps_ret pe_non))))), ?_⟩
    rcases h with ⟨BB, a, ts, gs, m, more, rfl, hm, hG, hl, hb, q⟩ | ⟨BB, a, o, ts, us, gs, rs, rfl, hG, hF, hl, hR, hrl, q⟩
    · exact ⟨.ref a, rfl, .inr ⟨BB, a, ts, gs, m, [], rfl, rfl, hG, hl, hb, q⟩⟩
    · refine ⟨.ref a, rfl, .inl ⟨BB, a, ts, gs, rfl, hG, hF, hl, fun H1 d s1 n1 e1 => ?_⟩⟩
      exact ⟨.ref d, rfl, .ref o, rfl, .inr ⟨d, o, us, rs, gs, rfl, e1, hR.same s1, hF.nd, hl, hrl, q.same s1⟩⟩
theorem okx_upset {CG CR : Addr} (A : At K mg "upset" P_upset s_upset) (B : Bi mg) (XD_patience_by_age : DfX P w K mg base 3 "patience_by_age" P_patience_by_age s_patience_by_age (sp_patience_by_age_x CG))
    (XD_check_arrangement : DfX P w K mg base 3 "check_arrangement" P_check_arrangement s_check_arrangement (sp_check_arrangement_x CR)) (D_eldest_upset : Df P w K mg base 1 "eldest_upset" P_eldest_upset s_eldest_upset sp_eldest_upset) (D_upset : Df P w K mg base 2 "upset" P_upset s_upset sp_upset) : DfX P w K mg base 4 "upset" P_upset s_upset (sp_upset_x CG CR) :=
  Df.orx D_upset (okb_upset A B XD_patience_by_age XD_check_arrangement D_eldest_upset) (by decide)
end
end El
namespace El
open PySem PySem.Spec PyProof.Rows L2
/-- which of the five an error is -/
def wordsOf (l : List (Str × Bool)) : List Str := (l.filter fun x => x.2).map fun x => x.1
structure KdF (K : PySem.W.Frag) (CG CS CR CC CT D : Addr) (nm : Str) : Prop where
  ex : ∃ g s r c t : Bool, PySem.W.kitOne K (.ref D) (.ref CG) = some g ∧ PySem.W.kitOne K (.ref D) (.ref CS) = some s ∧ PySem.W.kitOne K (.ref D) (.ref CR) = some r ∧ PySem.W.kitOne K (.ref D) (.ref CC) = some c ∧ PySem.W.kitOne K (.ref D) (.ref CT) = some t ∧
    wordsOf [("NoGuest", g), ("NoRooms", s), ("NoRoom", r), ("NoCrowd", c), ("NoText", t)] = [nm]
  kv : PySem.W.kitOne K (.ref D) (.type "ValueError") = some true
/-- the words of those that are so -/
theorem words_walk {K : PySem.W.Frag} {H1 : Hp} {M D : Addr} {ts : List Addr} {l : List (Str × Bool)} {x0 x1 : Option V} {Qd : Hp → Prop} (hM : H1 M = some (.lst (ts.map V.ref))) (hD : H1 D = none) (ln : ts.length = l.length) (few : l.length ≤ 1000)
    (at_ : ∀ (i : Nat) (t : Addr) (x : Str × Bool), ts[i]? = some t → l[i]? = some x → H1 t = some (.tup [.str x.1, .bl x.2])) (hd : ∀ H2, Same H1 H2 → H2 D = some (.lst ((wordsOf l).map V.str)) → Qd H2) :
    ∃ W : Nat → Nat → Hp → Prop, (∃ m, W 0 m (upd H1 D (.lst []))) ∧ ∀ i m H, W i m H →
      ((Itl K M).stop i H ∧ Qd H) ∨ ((Itl K M).go i H ∧ ∃ Nx : Hp → Prop, (∀ H', Nx H' → ∃ m', m' < m ∧ W (i + 1) m' H') ∧ ∀ x H', (Itl K M).yld i H x H' → gTup K 2 (gCons (gName 2) (gCons (gName 3) gNil)) x (wipe [x0, x1, none, none] [2, 3]) H' fun σ2 H2 =>
        wipe σ2 [2, 3] = wipe [x0, x1, none, none] [2, 3] ∧ tB (tVar 3) σ2 H2 fun b H3 => if b = true then tVar 2 σ2 H3 fun y H4 => ∃ acc, H4 D = some (.lst acc) ∧ acc.length < sizeLine ∧ Nx (upd H4 D (.lst (acc ++ [y]))) else Nx H3) := by
  refine lc_it (walk_list (xs := ts.map V.ref)) (fun k H2 => Same H1 H2 ∧ H2 D = some (.lst ((wordsOf (l.take k)).map V.str))) ⟨same_new hD, upd_same⟩ (fun k H2 _ hW => SqL.of (hW.1 _ _ hM)) (fun k x H2 H3 hk hW hY => ?_) (fun H2 hW => ?_)
  · obtain ⟨sm, e⟩ := hW
    obtain ⟨rfl, hx⟩ := hY
    rw [List.getElem?_map] at hx
    obtain ⟨t, et, rfl⟩ := Option.map_eq_some_iff.mp hx
    obtain ⟨⟨w, b⟩, ew⟩ := at_some (l := l) (i := k) (by rw [← ln]; exact at_lt et)
    have tup := sm _ _ (at_ k t _ et ew)
    have more : wordsOf (l.take (k + 1)) = wordsOf (l.take k) ++ if b = true then [w] else [] := by
      unfold wordsOf
      rw [take_snoc ew, List.filter_append, List.map_append, List.filter_cons, List.filter_nil]
      cases b <;> rfl
    have short : (wordsOf (l.take k)).length ≤ 1000 := by
      unfold wordsOf
      rw [List.length_map]
      refine Nat.le_trans (List.length_filter_le _ _) ?_
      rw [List.length_take]
      omega
    refine ⟨t, _, rfl, SqT.of tup, rfl, .str w, _, rfl, .bl b, _, rfl, rfl, rfl, .bl b, rfl, b, rfl, ?_⟩
    cases b with
    | false =>
      refine iteF ⟨sm, ?_⟩
      rw [more]
      simpa using e
    | true =>
      refine iteT ⟨.str w, rfl, _, e, ils (by rw [List.length_map]; omega), Same.mut sm hD, ?_⟩
      rw [upd_same, more, if_pos rfl, List.map_append]
      rfl
  · obtain ⟨sm, e⟩ := hW
    rw [List.length_map, ln, List.take_length] at e
    exact hd H2 sm e
section
variable {P : Program} {w : World} {K : PySem.W.Frag} {mg : Str → Option Value} {base : Heap}
abbrev s__law_kind : Stmt := topS 18
abbrev N__law_kind : List Str := ["e", "menu", "word", "so"]
abbrev P__law_kind : List Str := ["e"]
theorem sc__law_kind : FnScope N__law_kind P__law_kind (defScope s__law_kind) := ⟨rfl, rfl, rfl, by decide +kernel, rfl, by decide +kernel, by decide +kernel⟩
/-- of one that is kept -/
def sp__law_kind (K : PySem.W.Frag) (mg : Str → Option Value) (CG CS CR CC CT : Addr) : Sp := fun vs H Q _ => ∃ (a D : Addr) (v : V) (nm : Str), vs = [.ref a] ∧ ExcAt K mg H a D v ∧ KdF K CG CS CR CC CT D nm ∧ ∀ H' r, Same H H' → H r = none → H' r = some (.lst [.str nm, v, .bl true]) → Q (.ref r) H'
/-- of the one that is handled -/
def sz__law_kind (K : PySem.W.Frag) (mg : Str → Option Value) (CG CS CR CC CT : Addr) : ZSp := fun a c d vs H Q _ => ∃ (D dd fI : Addr) (x : Str) (v : V) (nm : Str), vs = [.ref a] ∧ c = .ref D ∧ d = some dd ∧ H dd = some (.xd [(("what" : Str), v)]) ∧ Own K mg x D fI ∧ KdF K CG CS CR CC CT D nm ∧
  ∀ H' r, Same H H' → H r = none → H' r = some (.lst [.str nm, v, .bl true]) → Q (.ref r) H'
theorem okZ__law_kind {CG CS CR CC CT : Addr} (A : At K mg "_law_kind" P__law_kind s__law_kind) (B : Bi mg) (JX : IsX K) (G_NoGuest : mg "NoGuest" = some (.ref CG)) (G_NoRooms : mg "NoRooms" = some (.ref CS)) (G_NoRoom : mg "NoRoom" = some (.ref CR)) (G_NoCrowd : mg "NoCrowd" = some (.ref CC)) (G_NoText : mg "NoText" = some (.ref CT)) :
    DfZ P w K mg base 1 "_law_kind" P__law_kind s__law_kind (sz__law_kind K mg CG CS CR CC CT) := by
  refine A.dfz fun f fd F => okZ F sc__law_kind (fun a c d vs H Q E h => ?_) (fun cdv AA outer s H vs Q a oe c d hr hot hz hf h => ?_)
  · obtain ⟨_, _, _, _, _, _, rfl, _⟩ := h
    rfl
  · obtain ⟨D, dd, fI, x, v, nm, rfl, rfl, rfl, ed, T, KD, q⟩ := h
    obtain ⟨g, s1, r1, c1, t1, kg, ks, kr, kc, kt, kw⟩ := KD.ex
    have nd := sc__law_kind.nd
    refine ⟨_, (pss_cons (ps_set (i := 1) nd rfl (.inl rfl) (pe_lst (pa_cons (pe_tup (pa_cons pe_str (pa_cons (pe_callB (isAnyK K mg hz.zc hf) (by rfl) B.isinstance (by decide +kernel) (pa_cons (pv 0) (pa_cons (pe_glob rfl G_NoGuest (relRef _)) pa_nil))) pa_nil))) (pa_cons (pe_tup (pa_cons pe_str (pa_cons (pe_callB (isAnyK K mg hz.zc hf) (by rfl) B.isinstance (by decide +kernel) (pa_cons (pv 0) (pa_cons (pe_glob rfl G_NoRooms (relRef _)) pa_nil))) pa_nil))) (pa_cons (pe_tup (pa_cons pe_str (pa_cons (pe_callB (isAnyK K mg hz.zc hf) (by rfl) B.isinstance (by decide +kernel) (pa_cons (pv 0) (pa_cons (pe_glob rfl G_NoRoom (relRef _)) pa_nil))) pa_nil))) pa_nil)))))
    (pss_cons (ps_set (i := 1) nd rfl (.inl rfl) (pe_op op_cat (pv 1) (pe_lst (pa_cons (pe_tup (pa_cons pe_str (pa_cons (pe_callB (isAnyK K mg hz.zc hf) (by rfl) B.isinstance (by decide +kernel) (pa_cons (pv 0) (pa_cons (pe_glob rfl G_NoCrowd (relRef _)) pa_nil))) pa_nil))) (pa_cons (pe_tup (pa_cons pe_str (pa_cons (pe_callB (isAnyK K mg hz.zc hf) (by rfl) B.isinstance (by decide +kernel) (pa_cons (pv 0) (pa_cons (pe_glob rfl G_NoText (relRef _)) pa_nil))) pa_nil))) pa_nil)))))
    (pss_one (ps_ret (pe_op op_cat (pe_lcH (own := [("word", 2), ("so", 3)]) ⟨(a, oe), hot_of rfl hz hf, List.mem_cons_self⟩ nd (pv 1) (blkOk_by (N := N__law_kind) (sc := defScope s__law_kind) (by decide +kernel)) (fun _ _ _ _ _ hb => (pgTupH K 2 hb (pgs_cons (pg_name (i := 2) nd rfl (.inl rfl)) (pgs_cons (pg_name (i := 3) nd rfl (.inl rfl)) pgs_nil)))) (fun _ _ _ _ _ => (pts_one (pt_val (pv 3)))) (fun _ _ _ _ _ => (pv 2))) (pe_lst (pa_cons (pe_xfA K hz.zc hf (pv 0)) (pa_cons (pe_callB (isAnyK K mg hz.zc hf) (by rfl) B.isinstance (by decide +kernel) (pa_cons (pv 0) (pa_cons (pe_bltn (by rfl) B.ValueError_ bootVE (relTy _)) pa_nil))) pa_nil)))))))), ?_⟩
    have is : ∀ {C : Addr} {b : Bool} {H' : Hp} {QQ : VK}, PySem.W.kitOne K (.ref D) (.ref C) = some b → Same H H' → QQ (.bl b) H' → rIsAny K mg a (.ref D) (some dd) [.ref a, .ref C] H' QQ := fun k s' qq => ⟨x, D, fI, dd, rfl, rfl, T, JX, ⟨_, s' _ _ ed⟩, .inl ⟨_, _, _, rfl, fun u r => r, k, qq⟩⟩
    refine ⟨.ref a, rfl, is kg (Same.refl _) ⟨(by show 2 ≤ sizeLine; decide), fun u1 n1 => ?_⟩⟩
    have m1 := same_new (o := .tup [.str "NoGuest", .bl g]) n1
    refine ⟨.ref a, rfl, is ks m1 ⟨(by show 2 ≤ sizeLine; decide), fun u2 n2 => ?_⟩⟩
    have m2 := same_new (o := .tup [.str "NoRooms", .bl s1]) n2
    refine ⟨.ref a, rfl, is kr (m1.trans m2) ⟨(by show 2 ≤ sizeLine; decide), fun u3 n3 => ⟨(by show 3 ≤ sizeLine; decide), fun L1 nL1 => ?_⟩⟩⟩
    have m3 := same_new (o := .tup [.str "NoRoom", .bl r1]) n3
    have m4 := same_new (o := .lst [.ref u1, .ref u2, .ref u3]) nL1
    have b4 := m1.trans (m2.trans (m3.trans m4))
    refine ⟨.ref L1, rfl, .ref a, rfl, is kc b4 ⟨(by show 2 ≤ sizeLine; decide), fun u4 n4 => ?_⟩⟩
    have m5 := same_new (o := .tup [.str "NoCrowd", .bl c1]) n4
    refine ⟨.ref a, rfl, is kt (b4.trans m5) ⟨(by show 2 ≤ sizeLine; decide), fun u5 n5 => ⟨(by show 2 ≤ sizeLine; decide), fun L2 nL2 => ?_⟩⟩⟩
    have m6 := same_new (o := .tup [.str "NoText", .bl t1]) n5
    have m7 := same_new (o := .lst [.ref u4, .ref u5]) nL2
    have e1 := m7 _ _ (m6 _ _ (m5 _ _ (m4 _ _ (m3 _ _ (m2 _ _ (show upd H u1 (.tup [.str "NoGuest", .bl g]) u1 = _ from upd_same))))))
    have e2 := m7 _ _ (m6 _ _ (m5 _ _ (m4 _ _ (m3 _ _ (show upd (upd H u1 (.tup [.str "NoGuest", .bl g])) u2 (.tup [.str "NoRooms", .bl s1]) u2 = _ from upd_same)))))
    have e3 := m7 _ _ (m6 _ _ (m5 _ _ (m4 _ _ (show upd (upd (upd H u1 (.tup [.str "NoGuest", .bl g])) u2 (.tup [.str "NoRooms", .bl s1])) u3 (.tup [.str "NoRoom", .bl r1]) u3 = _ from upd_same))))
    have eL := m7 _ _ (m6 _ _ (m5 _ _ (show upd (upd (upd (upd H u1 (.tup [.str "NoGuest", .bl g])) u2 (.tup [.str "NoRooms", .bl s1])) u3 (.tup [.str "NoRoom", .bl r1])) L1 (.lst [.ref u1, .ref u2, .ref u3]) L1 = _ from upd_same)))
    have all := b4.trans (m5.trans (m6.trans m7))
    clear m1 m2 m3 m4 b4
    revert m5 m6 m7 e1 e2 e3 eL all n4 n5 nL2
    generalize upd (upd (upd (upd H u1 (.tup [.str "NoGuest", .bl g])) u2 (.tup [.str "NoRooms", .bl s1])) u3 (.tup [.str "NoRoom", .bl r1])) L1 (.lst [.ref u1, .ref u2, .ref u3]) = H4
    intro n4 n5 nL2 m5 m6 m7 e1 e2 e3 eL all
    have e4 := m7 _ _ (m6 _ _ (show upd H4 u4 (.tup [.str "NoCrowd", .bl c1]) u4 = _ from upd_same))
    have e5 := m7 _ _ (show upd (upd H4 u4 (.tup [.str "NoCrowd", .bl c1])) u5 (.tup [.str "NoText", .bl t1]) u5 = _ from upd_same)
    refine ⟨L1, L2, _, _, rfl, rfl, eL, upd_same, (by show 3 + 2 ≤ sizeLine; decide), fun M nM => ?_⟩
    have m8 := same_new (o := .lst ([.ref u1, .ref u2, .ref u3] ++ [.ref u4, .ref u5])) nM
    refine ⟨.ref M, rfl, M, rfl, ⟨_, SqL.of upd_same⟩, fun D2 nD2 => ?_⟩
    refine words_walk (ts := [u1, u2, u3, u4, u5]) (l := [("NoGuest", g), ("NoRooms", s1), ("NoRoom", r1), ("NoCrowd", c1), ("NoText", t1)]) upd_same nD2 rfl (by show 5 ≤ 1000; decide) (fun i t x et ex => m8 _ _ ?_) (fun H9 m9 e9 => ?_)
    · match i, et, ex with
      | 0, et, ex => cases et; cases ex; exact e1
      | 1, et, ex => cases et; cases ex; exact e2
      | 2, et, ex => cases et; cases ex; exact e3
      | 3, et, ex => cases et; cases ex; exact e4
      | 4, et, ex => cases et; cases ex; exact e5
      | i + 5, et, _ => cases et
    rw [kw] at e9
    have all9 := all.trans (m8.trans m9)
    refine ⟨D, T.xf, T.no, .ref a, rfl, rfl, rfl, dd, _, v, rfl, all9 _ _ ed, rfl, .ref a, rfl, ⟨x, D, fI, dd, rfl, rfl, T, JX, ⟨_, all9 _ _ ed⟩, .inl ⟨.ty "ValueError", .type "ValueError", true, rfl, fun u r => r, KD.kv, (by show 2 ≤ sizeLine; decide), fun P2 nP2 => ?_⟩⟩⟩
    refine ⟨D2, P2, _, _, rfl, rfl, same_new nP2 _ _ e9, upd_same, (by show 1 + 2 ≤ sizeLine; decide), fun R nR => ?_⟩
    have mP := same_new (o := .lst [v, .bl true]) nP2
    exact q _ R (all9.trans (mP.trans (same_new nR))) (all9.free (mP.free nR)) upd_same
theorem ok__law_kind {CG CS CR CC CT : Addr} (A : At K mg "_law_kind" P__law_kind s__law_kind) (B : Bi mg) (JX : IsX K) (G_NoGuest : mg "NoGuest" = some (.ref CG)) (G_NoRooms : mg "NoRooms" = some (.ref CS)) (G_NoRoom : mg "NoRoom" = some (.ref CR)) (G_NoCrowd : mg "NoCrowd" = some (.ref CC)) (G_NoText : mg "NoText" = some (.ref CT)) :
    Df P w K mg base 1 "_law_kind" P__law_kind s__law_kind (sp__law_kind K mg CG CS CR CC CT) := by
  refine A.df fun f fd F => F.ok sc__law_kind (fun vs H Q E h => ?_) (fun cdv AA outer s H vs Q E hr h => ?_)
  · obtain ⟨_, _, _, _, rfl, _⟩ := h
    rfl
  · obtain ⟨a, D, v, nm, rfl, hx, KD, q⟩ := h
    obtain ⟨g, s1, r1, c1, t1, kg, ks, kr, kc, kt, kw⟩ := KD.ex
    have nd := sc__law_kind.nd
    refine ⟨_, (pss_cons (ps_set (i := 1) nd rfl (.inl rfl) (pe_lst (pa_cons (pe_tup (pa_cons pe_str (pa_cons (pe_callB (call_isE K mg) (by rfl) B.isinstance (by decide +kernel) (pa_cons (pv 0) (pa_cons (pe_glob rfl G_NoGuest (relRef _)) pa_nil))) pa_nil))) (pa_cons (pe_tup (pa_cons pe_str (pa_cons (pe_callB (call_isE K mg) (by rfl) B.isinstance (by decide +kernel) (pa_cons (pv 0) (pa_cons (pe_glob rfl G_NoRooms (relRef _)) pa_nil))) pa_nil))) (pa_cons (pe_tup (pa_cons pe_str (pa_cons (pe_callB (call_isE K mg) (by rfl) B.isinstance (by decide +kernel) (pa_cons (pv 0) (pa_cons (pe_glob rfl G_NoRoom (relRef _)) pa_nil))) pa_nil))) pa_nil)))))
    (pss_cons (ps_set (i := 1) nd rfl (.inl rfl) (pe_op op_cat (pv 1) (pe_lst (pa_cons (pe_tup (pa_cons pe_str (pa_cons (pe_callB (call_isE K mg) (by rfl) B.isinstance (by decide +kernel) (pa_cons (pv 0) (pa_cons (pe_glob rfl G_NoCrowd (relRef _)) pa_nil))) pa_nil))) (pa_cons (pe_tup (pa_cons pe_str (pa_cons (pe_callB (call_isE K mg) (by rfl) B.isinstance (by decide +kernel) (pa_cons (pv 0) (pa_cons (pe_glob rfl G_NoText (relRef _)) pa_nil))) pa_nil))) pa_nil)))))
    (pss_one (ps_ret (pe_op op_cat (pe_lc (own := [("word", 2), ("so", 3)]) rfl nd (pi_list (pv 1)) (blkOk_by (N := N__law_kind) (sc := defScope s__law_kind) (by decide +kernel)) (fun _ _ _ _ _ => (pgTupK K 2 (by rfl) (pgs_cons (pg_name (i := 2) nd rfl (.inl rfl)) (pgs_cons (pg_name (i := 3) nd rfl (.inl rfl)) pgs_nil)))) (fun _ _ _ _ _ => (pts_one (pt_val (pv 3)))) (fun _ _ _ _ _ => (pv 2))) (pe_lst (pa_cons (pe_what K mg (pv 0)) (pa_cons (pe_callB (call_isE K mg) (by rfl) B.isinstance (by decide +kernel) (pa_cons (pv 0) (pa_cons (pe_bltn (by rfl) B.ValueError_ bootVE (relTy _)) pa_nil))) pa_nil)))))))), ?_⟩
    have is : ∀ {C : Addr} {b : Bool} {H' : Hp} {QQ : VK}, PySem.W.kitOne K (.ref D) (.ref C) = some b → Same H H' → QQ (.bl b) H' → rIsE K mg [.ref a, .ref C] H' QQ := fun k s' qq => ⟨a, D, v, hx.keep s', JX, .inl ⟨_, _, _, rfl, fun u r => r, k, qq⟩⟩
    refine ⟨.ref a, rfl, is kg (Same.refl _) ⟨(by show 2 ≤ sizeLine; decide), fun u1 n1 => ?_⟩⟩
    have m1 := same_new (o := .tup [.str "NoGuest", .bl g]) n1
    refine ⟨.ref a, rfl, is ks m1 ⟨(by show 2 ≤ sizeLine; decide), fun u2 n2 => ?_⟩⟩
    have m2 := same_new (o := .tup [.str "NoRooms", .bl s1]) n2
    refine ⟨.ref a, rfl, is kr (m1.trans m2) ⟨(by show 2 ≤ sizeLine; decide), fun u3 n3 => ⟨(by show 3 ≤ sizeLine; decide), fun L1 nL1 => ?_⟩⟩⟩
    have m3 := same_new (o := .tup [.str "NoRoom", .bl r1]) n3
    have m4 := same_new (o := .lst [.ref u1, .ref u2, .ref u3]) nL1
    have b4 := m1.trans (m2.trans (m3.trans m4))
    refine ⟨.ref L1, rfl, .ref a, rfl, is kc b4 ⟨(by show 2 ≤ sizeLine; decide), fun u4 n4 => ?_⟩⟩
    have m5 := same_new (o := .tup [.str "NoCrowd", .bl c1]) n4
    refine ⟨.ref a, rfl, is kt (b4.trans m5) ⟨(by show 2 ≤ sizeLine; decide), fun u5 n5 => ⟨(by show 2 ≤ sizeLine; decide), fun L2 nL2 => ?_⟩⟩⟩
    have m6 := same_new (o := .tup [.str "NoText", .bl t1]) n5
    have m7 := same_new (o := .lst [.ref u4, .ref u5]) nL2
    have e1 := m7 _ _ (m6 _ _ (m5 _ _ (m4 _ _ (m3 _ _ (m2 _ _ (show upd H u1 (.tup [.str "NoGuest", .bl g]) u1 = _ from upd_same))))))
    have e2 := m7 _ _ (m6 _ _ (m5 _ _ (m4 _ _ (m3 _ _ (show upd (upd H u1 (.tup [.str "NoGuest", .bl g])) u2 (.tup [.str "NoRooms", .bl s1]) u2 = _ from upd_same)))))
    have e3 := m7 _ _ (m6 _ _ (m5 _ _ (m4 _ _ (show upd (upd (upd H u1 (.tup [.str "NoGuest", .bl g])) u2 (.tup [.str "NoRooms", .bl s1])) u3 (.tup [.str "NoRoom", .bl r1]) u3 = _ from upd_same))))
    have eL := m7 _ _ (m6 _ _ (m5 _ _ (show upd (upd (upd (upd H u1 (.tup [.str "NoGuest", .bl g])) u2 (.tup [.str "NoRooms", .bl s1])) u3 (.tup [.str "NoRoom", .bl r1])) L1 (.lst [.ref u1, .ref u2, .ref u3]) L1 = _ from upd_same)))
    have all := b4.trans (m5.trans (m6.trans m7))
    clear m1 m2 m3 m4 b4
    revert m5 m6 m7 e1 e2 e3 eL all n4 n5 nL2
    generalize upd (upd (upd (upd H u1 (.tup [.str "NoGuest", .bl g])) u2 (.tup [.str "NoRooms", .bl s1])) u3 (.tup [.str "NoRoom", .bl r1])) L1 (.lst [.ref u1, .ref u2, .ref u3]) = H4
    intro n4 n5 nL2 m5 m6 m7 e1 e2 e3 eL all
    have e4 := m7 _ _ (m6 _ _ (show upd H4 u4 (.tup [.str "NoCrowd", .bl c1]) u4 = _ from upd_same))
    have e5 := m7 _ _ (show upd (upd H4 u4 (.tup [.str "NoCrowd", .bl c1])) u5 (.tup [.str "NoText", .bl t1]) u5 = _ from upd_same)
    refine ⟨L1, L2, _, _, rfl, rfl, eL, upd_same, (by show 3 + 2 ≤ sizeLine; decide), fun M nM => ?_⟩
    have m8 := same_new (o := .lst ([.ref u1, .ref u2, .ref u3] ++ [.ref u4, .ref u5])) nM
    refine ⟨.ref M, rfl, M, rfl, ⟨_, SqL.of upd_same⟩, fun D2 nD2 => ?_⟩
    refine words_walk (ts := [u1, u2, u3, u4, u5]) (l := [("NoGuest", g), ("NoRooms", s1), ("NoRoom", r1), ("NoCrowd", c1), ("NoText", t1)]) upd_same nD2 rfl (by show 5 ≤ 1000; decide) (fun i t x et ex => m8 _ _ ?_) (fun H9 m9 e9 => ?_)
    · match i, et, ex with
      | 0, et, ex => cases et; cases ex; exact e1
      | 1, et, ex => cases et; cases ex; exact e2
      | 2, et, ex => cases et; cases ex; exact e3
      | 3, et, ex => cases et; cases ex; exact e4
      | 4, et, ex => cases et; cases ex; exact e5
      | i + 5, et, _ => cases et
    rw [kw] at e9
    have all9 := all.trans (m8.trans m9)
    refine ⟨.ref a, rfl, a, D, v, rfl, hx.keep all9, .ref a, rfl, ⟨a, D, v, hx.keep all9, JX, .inl ⟨.ty "ValueError", .type "ValueError", true, rfl, fun u r => r, KD.kv, (by show 2 ≤ sizeLine; decide), fun P2 nP2 => ?_⟩⟩⟩
    refine ⟨D2, P2, _, _, rfl, rfl, same_new nP2 _ _ e9, upd_same, (by show 1 + 2 ≤ sizeLine; decide), fun R nR => ?_⟩
    have mP := same_new (o := .lst [v, .bl true]) nP2
    exact q _ R (all9.trans (mP.trans (same_new nR))) (all9.free (mP.free nR)) upd_same
end
end El
namespace El
open PySem PySem.Spec PyProof.Rows L2
/-! ### the tray of draws -/
structure Tray (H : Hp) (t g : Addr) (n : Nat) : Prop where
  ne : t ≠ g
  ex : ∃ (gs : List Int) (a c d : Int), H t = some (.lst [.ref g, .int a, .int c, .int d]) ∧ H g = some (.lst (gs.map V.int)) ∧ (∀ x ∈ gs, 0 ≤ x) ∧ gs.length ≤ 63 ∧ 0 ≤ a ∧ 0 ≤ c ∧ c < 2305843009213693951 ∧ 0 ≤ d ∧ d ≤ n
/-- what is no part of the tray -/
def Off (t g : Addr) (b : Addr) : Prop := b ≠ t ∧ b ≠ g
theorem Tray.keep {H H' : Hp} {t g : Addr} {n : Nat} (h : Tray H t g n) (k : Same H H') : Tray H' t g n := by
  obtain ⟨gs, a, c, d, h1, h2, h3⟩ := h.ex
  exact ⟨h.ne, gs, a, c, d, k _ _ h1, k _ _ h2, h3⟩
theorem Tray.more {H : Hp} {t g : Addr} {n m : Nat} (h : Tray H t g n) (k : n ≤ m) : Tray H t g m := by
  obtain ⟨gs, a, c, d, h1, h2, h3, h4, h5, h6, h7, h8, h9⟩ := h.ex
  exact ⟨h.ne, gs, a, c, d, h1, h2, h3, h4, h5, h6, h7, h8, by omega⟩
theorem Tray.off {H : Hp} {t g : Addr} {n : Nat} (h : Tray H t g n) {p : Addr} (e : H p = none) : Off t g p := by
  obtain ⟨gs, a, c, d, h1, h2, _⟩ := h.ex
  exact ⟨no_of h1 e, no_of h2 e⟩
theorem Tray.mut {H : Hp} {t g : Addr} {n : Nat} (h : Tray H t g n) {p : Addr} {o : HO} (k : Off t g p) : Tray (upd H p o) t g n := by
  obtain ⟨gs, a, c, d, h1, h2, h3⟩ := h.ex
  exact ⟨h.ne, gs, a, c, d, by rw [upd_ne k.1.symm]; exact h1, by rw [upd_ne k.2.symm]; exact h2, h3⟩
theorem Kp.off {H H' : Hp} {t g p : Addr} {o : HO} (e : Kp (Off t g) H H') (h : p = t ∨ p = g) : Kp (Off t g) H (upd H' p o) := e.mut fun z => by
  rcases h with rfl | rfl
  · exact z.1 rfl
  · exact z.2 rfl
end El
namespace El
open PySem PySem.Spec PyProof.Rows L2
section
variable {P : Program} {w : World} {K : PySem.W.Frag} {mg : Str → Option Value} {base : Heap}
abbrev s__law_tray : Stmt := topS 14
abbrev N__law_tray : List Str := ["script", "fold", "great", "cell", "much"]
abbrev P__law_tray : List Str := ["script"]
theorem sc__law_tray : FnScope N__law_tray P__law_tray (defScope s__law_tray) := ⟨rfl, rfl, rfl, by decide +kernel, rfl, by decide +kernel, by decide +kernel⟩
def sp__law_tray (K : PySem.W.Frag) : Sp := fun vs H Q _ => ∃ (a : Addr) (ns : List Int), vs = [.ref a] ∧ SqL K H a (ns.map V.int) ∧ ns.length ≤ 63 ∧
  ∀ H' t g, Same H H' → H t = none → H g = none → Tray H' t g 0 → Q (.ref t) H'
theorem ok__law_tray (A : At K mg "_law_tray" P__law_tray s__law_tray) (B : Bi mg) : Df P w K mg base 1 "_law_tray" P__law_tray s__law_tray (sp__law_tray K) := by
  refine A.df fun f fd F => F.ok sc__law_tray (fun vs H Q E h => ?_) (fun cdv AA outer s H vs Q E hr h => ?_)
  · obtain ⟨a, _, rfl, _⟩ := h
    rfl
  · obtain ⟨a, ns, rfl, hS, hl, q⟩ := h
    have nd := sc__law_tray.nd
    refine ⟨_, (pss_cons (ps_set (i := 1) nd rfl (.inl rfl) pe_int)
    (pss_cons (ps_set (i := 2) nd rfl (.inl rfl) (pe_lst pa_nil))
    (pss_cons (ps_for PassesOwn.never rfl (pi_list (pv 0)) (pg_name (i := 3) nd rfl (.inl rfl)) (pss_cons (ps_set (i := 1) nd rfl (.inl rfl) (pe_op op_mod (pe_op op_add (pe_op op_mul (pv 1) pe_int) (pv 3)) (pe_op op_sub (pe_op op_pow pe_int pe_int) pe_int))) (pss_cons (ps_set (i := 4) nd rfl (.inl rfl) (pe_callB (call_max2 rfl) (by rfl) B.max (by decide +kernel) (pa_cons (pv 3) (pa_cons (pe_op op_sub pe_int (pv 3)) pa_nil)))) (pss_one (ps_if (pt_cmpR op_ge (pv 4) (pe_op op_pow pe_int pe_int) (nomark _)) (pss_one (ps_expr (pe_bm PySem.F.plainAttrs_list PySem.F.slot_list_append PySem.F.type_list_append mt_append (pv 2) (pa_cons (pe_op op_sub (pv 4) (pe_op op_pow pe_int pe_int)) pa_nil)))) pss_nil)))))
    (pss_one (ps_ret (pe_lst (pa_cons (pv 2) (pa_cons pe_int (pa_cons (pv 1) (pa_cons pe_int pa_nil)))))))))), ?_⟩
    refine ⟨Nat.zero_le _, fun g ng => ?_⟩
    refine ⟨.ref a, rfl, a, rfl, ⟨_, (same_new ng).seq hS⟩, ?_⟩
    refine for_it (walk_list (xs := ns.map V.int)) (fun i σ H2 => ∃ (c : Int) (gs : List Int) (y3 y4 : Option V), σ = [some (.ref a), some (.int c), some (.ref g), y3, y4] ∧ Same H H2 ∧ H2 g = some (.lst (gs.map V.int)) ∧ (∀ x ∈ gs, 0 ≤ x) ∧ gs.length ≤ i ∧ 0 ≤ c ∧ c < 2305843009213693951)
      ⟨314159265358979, [], none, none, rfl, same_new ng, upd_same, fun x h => absurd h (by simp), Nat.le_refl _, by decide, by decide⟩ (fun i σ H2 _ hW => ?_) (fun i x σ H2 H3 hi hW hY => ?_) (fun σ H2 hW => ?_)
    · obtain ⟨_, _, _, _, _, sm, _⟩ := hW
      exact sm.seq hS
    · obtain ⟨c, gs, y3, y4, rfl, sm, eg, hp, hgl, c0, c1⟩ := hW
      obtain ⟨rfl, hx⟩ := hY
      obtain ⟨n, hx', rfl⟩ := ints_at hx
      have hil : i < 63 := by
        rw [List.length_map] at hi
        omega
      -- fold = (fold * 1000003 + cell) % (2 ** 61 - 1)
      refine ⟨.int c, rfl, _, _, rfl, rfl, .inl ⟨by omega, by omega⟩, .int n, rfl, _, _, rfl, rfl, _, _, rfl, rfl, ⟨by decide, by decide, by decide⟩, _, _, rfl, rfl, _, _, rfl, rfl, (by show (0 : Int) < 2 ^ 61 - 1; decide), ?_⟩
      -- much = max(cell, 0 - cell)
      refine ⟨.int n, rfl, .int n, rfl, _, _, rfl, rfl, _, _, rfl, ?_⟩
      have m0 : 0 ≤ (if 0 - n > n then 0 - n else n) := by split <;> omega
      revert m0
      generalize (if 0 - n > n then 0 - n else n) = m
      intro m0
      have em : (2 : Int) ^ 61 - 1 = 2305843009213693951 := by decide
      have f0 : 0 ≤ (c * 1000003 + n) % (2 ^ 61 - 1) := Int.emod_nonneg _ (by decide)
      have f1 : (c * 1000003 + n) % (2 ^ 61 - 1) < 2305843009213693951 := by
        have := Int.emod_lt_of_pos (c * 1000003 + n) (show (0 : Int) < 2 ^ 61 - 1 by decide)
        omega
      -- if much >= 10 ** 18
      refine ⟨.int m, rfl, _, _, rfl, rfl, ⟨by decide, by decide, by decide⟩, _, _, rfl, rfl, _, rfl, ite2 (fun e => ?_) (fun e => ?_)⟩
      · have e : (10 : Int) ^ (18 : Int).toNat ≤ m := of_decide_eq_true e
        refine ⟨.ref g, rfl, .inl ⟨rfl, _, SqL.of eg⟩, .int m, rfl, _, _, rfl, rfl, ⟨by decide, by decide, by decide⟩, _, _, rfl, rfl, g, _, _, rfl, rfl, eg, ils (by rw [List.length_map]; omega), ?_⟩
        refine ⟨_, gs ++ [m - 10 ^ (18 : Int).toNat], _, _, rfl, Same.mut sm ng, by rw [upd_same, List.map_append]; rfl, fun x hx => ?_, by rw [List.length_append, List.length_singleton]; omega, f0, f1⟩
        rcases List.mem_append.mp hx with hx | hx
        · exact hp x hx
        · rw [List.mem_singleton.mp hx]
          omega
      · exact ⟨_, gs, _, _, rfl, sm, eg, hp, Nat.le_succ_of_le hgl, f0, f1⟩
    · obtain ⟨c, gs, y3, y4, rfl, sm, eg, hp, hgl, c0, c1⟩ := hW
      rw [List.length_map] at hgl
      refine ⟨.ref g, rfl, .int c, rfl, (by show 4 ≤ sizeLine; decide), fun t nt => ?_⟩
      have ntg : g ≠ t := ne_of_none eg nt
      exact q _ t g (sm.trans (same_new nt)) (sm.free nt) ng ⟨ntg.symm, gs, 0, c, 0, upd_same, by rw [upd_ne ntg]; exact eg, hp, by omega, by decide, c0, c1, by decide, by decide⟩
end
end El
namespace El
open PySem PySem.Spec PyProof.Rows L2
section
variable {P : Program} {w : World} {K : PySem.W.Frag} {mg : Str → Option Value} {base : Heap}
abbrev s__law_draw : Stmt := topS 15
abbrev N__law_draw : List Str := ["tray", "many", "found", "mixed"]
abbrev P__law_draw : List Str := ["tray", "many"]
theorem sc__law_draw : FnScope N__law_draw P__law_draw (defScope s__law_draw) := ⟨rfl, rfl, rfl, by decide +kernel, rfl, by decide +kernel, by decide +kernel⟩
def sp__law_draw : Sp := fun vs H Q _ => ∃ (t g : Addr) (n : Nat) (m : Int), vs = [.ref t, .int m] ∧ Tray H t g n ∧ n ≤ 1000000000 ∧ 0 < m ∧ m < 2 ^ 200 ∧
  ∀ H' r, Kp (Off t g) H H' → Tray H' t g (n + 1) → 0 ≤ r → r < m → Q (.int r) H'
theorem ok__law_draw (A : At K mg "_law_draw" P__law_draw s__law_draw) (B : Bi mg) : Df P w K mg base 1 "_law_draw" P__law_draw s__law_draw sp__law_draw := by
  refine A.df fun f fd F => F.ok sc__law_draw (fun vs H Q E h => ?_) (fun cdv AA outer s H vs Q E hr h => ?_)
  · obtain ⟨_, _, _, _, rfl, _⟩ := h
    rfl
  · obtain ⟨t, g, n, m, rfl, hT, hn, m0, m1, q⟩ := h
    have nd := sc__law_draw.nd
    refine ⟨_, (pss_cons (ps_while PassesOwn.never (PW.pt (pw_and (pt_cmpR op_lt (pe_ix ix_list (pv 0) pe_int (fun _ _ => rfl)) pe_int (nomark _)) (pw_and1 (pt_cmpR (op_neD hr.units) (pe_ix ix_list (pv 0) pe_int (fun _ _ => rfl)) (pe_lst pa_nil) (nomark _))))) (pss_one (ps_asg (pe_bm PySem.F.plainAttrs_list PySem.F.slot_list_pop PySem.F.type_list_pop mt_popAt (pe_ix ix_list (pv 0) pe_int (fun _ _ => rfl)) (pa_cons pe_int pa_nil)) (pg_sub (pv 0) pe_int set_list))))
    (pss_cons (ps_if (pt_cmpR op_ge (pe_ix ix_list (pv 0) pe_int (fun _ _ => rfl)) pe_int (nomark _)) (pss_cons (ps_set (i := 2) nd rfl (.inl rfl) (pe_op op_mod (pe_ix ix_list (pv 0) pe_int (fun _ _ => rfl)) (pv 1))) (pss_cons (ps_asg (pe_op op_fdivW (pe_ix ix_list (pv 0) pe_int (fun _ _ => rfl)) (pv 1)) (pg_sub (pv 0) pe_int set_list)) (pss_one (ps_ret (pv 2))))) pss_nil)
    (pss_cons (ps_asg (pe_op op_add (pe_ix ix_list (pv 0) pe_int (fun _ _ => rfl)) pe_int) (pg_sub (pv 0) pe_int set_list))
    (pss_cons (ps_set (i := 3) nd rfl (.inl rfl) (pe_op op_mod (pe_op op_add (pe_op op_mul (pe_op op_add (pe_ix ix_list (pv 0) pe_int (fun _ _ => rfl)) pe_int) (pe_op op_pow (pe_op op_add (pe_ix ix_list (pv 0) pe_int (fun _ _ => rfl)) pe_int) pe_int)) (pe_op op_mul pe_int (pe_ix ix_list (pv 0) pe_int (fun _ _ => rfl)))) (pe_op op_sub (pe_op op_pow pe_int pe_int) pe_int)))
    (pss_one (ps_ret (pe_op op_mod (pe_op op_fdivW (pe_op op_mod (pe_op op_pow (pv 3) pe_int) (pe_op op_add (pe_op op_pow pe_int pe_int) pe_int)) pe_int) (pv 1)))))))), ?_⟩
    have ne := hT.ne
    obtain ⟨gs0, a0, c0, d0, i1, i2, i3, i4, i5, i6, i7, i8, i9⟩ := hT.ex
    refine seq_to (fun σ H2 => σ = [some (.ref t), some (.int m), none, none] ∧ Kp (Off t g) H H2 ∧ Tray H2 t g n) (fun X hX => ?_) (fun σ H2 hE => ?_)
    · -- the while
      refine while_to (fun k σ H2 => σ = [some (.ref t), some (.int m), none, none] ∧ Kp (Off t g) H H2 ∧ ∃ (gs : List Int) (a c d : Int), H2 t = some (.lst [.ref g, .int a, .int c, .int d]) ∧ H2 g = some (.lst (gs.map V.int)) ∧ (∀ x ∈ gs, 0 ≤ x) ∧ gs.length ≤ 63 ∧ 0 ≤ a ∧ 0 ≤ c ∧ c < 2305843009213693951 ∧ 0 ≤ d ∧ d ≤ n ∧ k = gs.length)
        (fun σ H2 => σ = [some (.ref t), some (.int m), none, none] ∧ Kp (Off t g) H H2 ∧ Tray H2 t g n) ⟨gs0.length, rfl, Kp.refl, gs0, a0, c0, d0, i1, i2, i3, i4, i5, i6, i7, i8, i9, rfl⟩ hX (fun X hX k σ H2 hW => ?_)
      obtain ⟨rfl, kp, gs, a, c, d, j1, j2, j3, j4, j5, j6, j7, j8, j9, rfl⟩ := hW
      refine ⟨.ref t, rfl, t, _, 1, .int a, rfl, rfl, SqL.of j1, atI_nat (j := 1) rfl, _, _, rfl, rfl, _, rfl, ite2 (fun ea => ?_) (fun ea => ?_)⟩
      · refine ⟨.ref t, rfl, t, _, 0, .ref g, rfl, rfl, SqL.of j1, atI_nat (j := 0) rfl, Nat.zero_le _, fun u nu => ?_⟩
        have s1 : Same H2 (upd H2 u (.lst [])) := same_new nu
        refine ⟨dInts gs, dInts [], Dp.ints (s1 _ _ j2), Dp.ints upd_same, (Oks.ints _).shaped, (Oks.ints _).shaped, _, rfl, ?_⟩
        rw [eqv_nil]
        cases gs with
        | nil => exact iteF (hX _ _ ⟨rfl, kp.trans (.of s1), ne, [], a, c, d, s1 _ _ j1, s1 _ _ j2, j3, j4, j5, j6, j7, j8, j9⟩)
        | cons x r =>
          refine iteT ⟨fun σ' H' => σ' = [some (.ref t), some (.int m), none, none] ∧ Kp (Off t g) H H' ∧ ∃ (gs : List Int) (a c d : Int), H' t = some (.lst [.ref g, .int a, .int c, .int d]) ∧ H' g = some (.lst (gs.map V.int)) ∧ (∀ x ∈ gs, 0 ≤ x) ∧ gs.length ≤ 63 ∧ 0 ≤ a ∧ 0 ≤ c ∧ c < 2305843009213693951 ∧ 0 ≤ d ∧ d ≤ n ∧ r.length = gs.length, fun σ' H' h => ⟨r.length, Nat.lt_succ_self _, h⟩, ?_⟩
          refine ⟨.ref t, rfl, t, _, 0, .ref g, rfl, rfl, SqL.of (s1 _ _ j1), atI_nat (j := 0) rfl, .inl ⟨rfl, _, SqL.of (s1 _ _ j2)⟩, g, _, 0, 0, .int x, rfl, rfl, s1 _ _ j2, by decide, by decide, seq_ix (j := 0) (by simp), rfl, ?_⟩
          refine ⟨.ref t, rfl, t, _, 1, 1, rfl, rfl, (by rw [upd_ne ne]; exact s1 _ _ j1), rfl, ?_⟩
          refine ⟨rfl, (Kp.off (Kp.off (kp.trans (.of s1)) (.inr rfl)) (.inl rfl)), r, x, c, d, by rw [upd_same]; rfl, by rw [upd_ne ne.symm, upd_same]; rfl, fun y hy => j3 y (List.mem_cons_of_mem _ hy), Nat.le_of_succ_le j4, j3 x List.mem_cons_self, j6, j7, j8, j9, rfl⟩
      · exact iteF (hX _ _ ⟨rfl, kp, ne, gs, a, c, d, j1, j2, j3, j4, j5, j6, j7, j8, j9⟩)
    · obtain ⟨rfl, kp, hT2⟩ := hE
      obtain ⟨gs, a, c, d, j1, j2, j3, j4, j5, j6, j7, j8, j9⟩ := hT2.ex
      have g1 : CDivW a m := ⟨m0, Nat.lt_trans (log_lt m0 m1) (by decide)⟩
      -- if tray[1] >= 2
      refine ⟨.ref t, rfl, t, _, 1, .int a, rfl, rfl, SqL.of j1, atI_nat (j := 1) rfl, _, _, rfl, rfl, _, rfl, ite2 (fun ea => ?_) (fun ea => ?_)⟩
      · refine ⟨.ref t, rfl, t, _, 1, .int a, rfl, rfl, SqL.of j1, atI_nat (j := 1) rfl, .int m, rfl, _, _, rfl, rfl, m0, ?_⟩
        refine ⟨.ref t, rfl, t, _, 1, .int a, rfl, rfl, SqL.of j1, atI_nat (j := 1) rfl, .int m, rfl, _, _, rfl, rfl, g1, ?_⟩
        refine ⟨.ref t, rfl, t, _, 1, 1, rfl, rfl, j1, rfl, _, rfl, ?_⟩
        exact q _ _ (Kp.off kp (.inl rfl)) ⟨ne, gs, a / m, c, d, by rw [upd_same]; rfl, by rw [upd_ne ne.symm]; exact j2, j3, j4, Int.ediv_nonneg j5 (by omega), j6, j7, j8, by omega⟩ (Int.emod_nonneg _ (by omega)) (Int.emod_lt_of_pos _ m0)
      · -- tray[3] = tray[3] + 1
        refine ⟨.ref t, rfl, t, _, 3, .int d, rfl, rfl, SqL.of j1, atI_nat (j := 3) rfl, _, _, rfl, rfl, ?_⟩
        refine ⟨.ref t, rfl, t, _, 3, 3, rfl, rfl, j1, rfl, ?_⟩
        have e1 : upd H2 t (.lst ([V.ref g, .int a, .int c, .int d].set 3 (.int (d + 1)))) t = some (.lst [.ref g, .int a, .int c, .int (d + 1)]) := by rw [upd_same]; rfl
        have hT3 : Tray (upd H2 t (.lst ([V.ref g, .int a, .int c, .int d].set 3 (.int (d + 1))))) t g (n + 1) := ⟨ne, gs, a, c, d + 1, e1, by rw [upd_ne ne.symm]; exact j2, j3, j4, j5, j6, j7, by omega, by omega⟩
        have k3 : Kp (Off t g) H (upd H2 t (.lst ([V.ref g, .int a, .int c, .int d].set 3 (.int (d + 1))))) := Kp.off kp (.inl rfl)
        revert e1 hT3 k3
        generalize upd H2 t (.lst ([V.ref g, .int a, .int c, .int d].set 3 (.int (d + 1)))) = H3
        intro e1 hT3 k3
        -- mixed
        refine ⟨.ref t, rfl, t, _, 2, .int c, rfl, rfl, SqL.of e1, atI_nat (j := 2) rfl, _, _, rfl, rfl, .ref t, rfl, t, _, 3, .int (d + 1), rfl, rfl, SqL.of e1, atI_nat (j := 3) rfl, _, _, rfl, rfl, _, _, rfl, rfl, ⟨by decide, by decide, ?_⟩, _, _, rfl, rfl, .inl ⟨by omega, by omega⟩,
          .ref t, rfl, t, _, 3, .int (d + 1), rfl, rfl, SqL.of e1, atI_nat (j := 3) rfl, _, _, rfl, rfl, .inl ⟨by decide, by decide⟩, _, _, rfl, rfl, _, _, rfl, rfl, ⟨by decide, by decide, by decide⟩, _, _, rfl, rfl, _, _, rfl, rfl, (by show (0 : Int) < 2 ^ 61 - 1; decide), ?_⟩
        · show (d + 1 + 2).natAbs < 2 ^ 64
          omega
        · have f0 : 0 ≤ ((c + 5) * (d + 1 + 2) ^ (3 : Int).toNat + 1000003 * (d + 1)) % (2 ^ (61 : Int).toNat - 1) := Int.emod_nonneg _ (by decide)
          have f1 : ((c + 5) * (d + 1 + 2) ^ (3 : Int).toNat + 1000003 * (d + 1)) % (2 ^ (61 : Int).toNat - 1) < 2 ^ 61 - 1 := Int.emod_lt_of_pos _ (show (0 : Int) < 2 ^ 61 - 1 by decide)
          refine ⟨_, rfl, _, _, rfl, rfl, ⟨by decide, by decide, ?_⟩, _, _, rfl, rfl, ⟨by decide, by decide, by decide⟩, _, _, rfl, rfl, _, _, rfl, rfl, (by show (0 : Int) < 10 ^ 18 + 9; decide), _, _, rfl, rfl, ⟨by decide, by decide⟩, .int m, rfl, _, _, rfl, rfl, m0, ?_⟩
          · show (((c + 5) * (d + 1 + 2) ^ (3 : Int).toNat + 1000003 * (d + 1)) % (2 ^ (61 : Int).toNat - 1)).natAbs < 2 ^ 64
            omega
          · exact q _ _ k3 hT3 (Int.emod_nonneg _ (by omega)) (Int.emod_lt_of_pos _ m0)
end
end El
namespace El
open PySem PySem.Spec PyProof.Rows L2
/-- two values that say the same, at most n deep -/
def Sca : V → Bool
  | .non => true
  | .bl _ => true
  | .int _ => true
  | .str _ => true
  | _ => false
def Alk (H : Hp) : Nat → V → V → Prop
  | 0, x, y => Sca x = true ∧ x = y
  | n + 1, x, y => (Sca x = true ∧ x = y) ∨ ∃ (a b : Addr) (xs ys : List V), x = .ref a ∧ y = .ref b ∧ ((H a = some (.lst xs) ∧ H b = some (.lst ys)) ∨ (H a = some (.tup xs) ∧ H b = some (.tup ys))) ∧ xs.length = ys.length ∧ ys.length ≤ 100000 ∧
      ∀ (i : Nat) (u v : V), xs[i]? = some u → ys[i]? = some v → Alk H n u v
theorem Alk.keep {H H' : Hp} (k : Same H H') : ∀ {n : Nat} {x y : V}, Alk H n x y → Alk H' n x y
  | 0, _, _, h => h
  | n + 1, _, _, h => by
    rcases h with h | ⟨a, b, xs, ys, rfl, rfl, h1, h2, h3, h4⟩
    · exact .inl h
    · refine .inr ⟨a, b, xs, ys, rfl, rfl, ?_, h2, h3, fun i u v e f => Alk.keep k (h4 i u v e f)⟩
      rcases h1 with ⟨h1, h2⟩ | ⟨h1, h2⟩
      · exact .inl ⟨k _ _ h1, k _ _ h2⟩
      · exact .inr ⟨k _ _ h1, k _ _ h2⟩
theorem Alk.up {H : Hp} : ∀ {n : Nat} {x y : V}, Alk H n x y → Alk H (n + 1) x y
  | 0, _, _, h => .inl h
  | n + 1, _, _, h => by
    rcases h with h | ⟨a, b, xs, ys, rfl, rfl, h1, h2, h3, h4⟩
    · exact .inl h
    · exact .inr ⟨a, b, xs, ys, rfl, rfl, h1, h2, h3, fun i u v e f => Alk.up (h4 i u v e f)⟩
theorem Alk.int {H : Hp} {n : Nat} {i : Int} : Alk H n (.int i) (.int i) := by
  cases n with
  | zero => exact ⟨rfl, rfl⟩
  | succ n => exact .inl ⟨rfl, rfl⟩
theorem Alk.ints {H : Hp} {n : Nat} {a b : Addr} {ns : List Int} (h1 : H a = some (.lst (ns.map V.int))) (h2 : H b = some (.lst (ns.map V.int))) (hl : ns.length ≤ 100000) : Alk H (n + 1) (.ref a) (.ref b) :=
  .inr ⟨a, b, _, _, rfl, rfl, .inl ⟨h1, h2⟩, rfl, by rw [List.length_map]; exact hl, fun i u v e f => by
    obtain rfl : u = v := Option.some.inj (e.symm.trans f)
    obtain ⟨n, _, rfl⟩ := ints_at e
    exact Alk.int⟩
theorem Alk.rows {H : Hp} {n : Nat} {B B' : Addr → Prop} {a b : Addr} {ts us : List Addr} {rs : List (List Int)} (h1 : RmsAt H B a ts rs) (h2 : RmsAt H B' b us rs) (hl : rs.length ≤ 100000) (hr : ∀ r ∈ rs, r.length ≤ 100000) : Alk H (n + 2) (.ref a) (.ref b) :=
  .inr ⟨a, b, _, _, rfl, rfl, .inl ⟨h1.top, h2.top⟩, by rw [List.length_map, List.length_map, h1.len, h2.len], by rw [List.length_map, h2.len]; exact hl, fun i u v e f => by
    obtain ⟨t, r, rfl, _, er, et⟩ := h1.get e
    obtain ⟨t', r', rfl, _, er', et'⟩ := h2.get f
    obtain rfl : r = r' := Option.some.inj (er.symm.trans er')
    exact Alk.ints et et' (hr r (List.mem_of_getElem? er))⟩
theorem Alk.two {H : Hp} {n : Nat} {a b : Addr} {x1 x2 y1 y2 : V} (h1 : H a = some (.lst [x1, x2])) (h2 : H b = some (.lst [y1, y2])) (k1 : Alk H n x1 y1) (k2 : Alk H n x2 y2) : Alk H (n + 1) (.ref a) (.ref b) :=
  .inr ⟨a, b, _, _, rfl, rfl, .inl ⟨h1, h2⟩, rfl, by show 2 ≤ 100000; decide, fun i u v e f => by
    match i, e, f with
    | 0, e, f =>
      obtain rfl := Option.some.inj e
      obtain rfl := Option.some.inj f
      exact k1
    | 1, e, f =>
      obtain rfl := Option.some.inj e
      obtain rfl := Option.some.inj f
      exact k2
    | i + 2, e, f => simp at e⟩
end El
namespace El
open PySem PySem.Spec PyProof.Rows L2
section
variable {P : Program} {w : World} {K : PySem.W.Frag} {mg : Str → Option Value} {base : Heap}
abbrev s__law_alike : Stmt := topS 16
abbrev N__law_alike : List Str := ["found", "due", "k"]
abbrev P__law_alike : List Str := ["found", "due"]
theorem sc__law_alike : FnScope N__law_alike P__law_alike (defScope s__law_alike) := ⟨rfl, rfl, rfl, by decide +kernel, rfl, by decide +kernel, by decide +kernel⟩
def sp__law_alike (n : Nat) : Sp := fun vs H Q _ => ∃ x y : V, vs = [x, y] ∧ Alk H n x y ∧ ∀ H', Same H H' → Q (.bl true) H'
/-- the rest behind the lengths, for what is a list or a tuple -/
theorem ok__law_alike (A : At K mg "_law_alike" P__law_alike s__law_alike) (B : Bi mg) : ∀ n : Nat, Df P w K mg base (n + 1) "_law_alike" P__law_alike s__law_alike (sp__law_alike n) := by
  intro n
  induction n with
  | zero =>
    refine A.df fun f fd F => F.ok sc__law_alike (fun vs H Q E h => ?_) (fun cdv AA outer s H vs Q E hr h => ?_)
    · obtain ⟨_, _, rfl, _⟩ := h
      rfl
    · obtain ⟨x, y, rfl, hA, q⟩ := h
      have nd := sc__law_alike.nd
      refine ⟨_, (pss_cons (ps_if (pt_cmpR op_isN (pv 1) pe_non (nomark _)) (pss_one (ps_ret (pe_cmpR op_isN (pv 0) pe_non (nomark _)))) pss_nil)
    (pss_cons (ps_if (pt_val (pe_callB call_isi (by rfl) B.isinstance (by decide +kernel) (pa_cons (pv 1) (pa_cons (pe_bltn (by rfl) B.bool_ boot_bool (relTy _)) pa_nil)))) (pss_one (ps_ret (pe_and (pe_callB call_isi (by rfl) B.isinstance (by decide +kernel) (pa_cons (pv 0) (pa_cons (pe_bltn (by rfl) B.bool_ boot_bool (relTy _)) pa_nil))) (pe_one (pe_cmpR op_eq (pv 0) (pv 1) (nomark _)))))) pss_nil)
    (pss_cons (ps_if (pt_val (pe_callB call_isi (by rfl) B.isinstance (by decide +kernel) (pa_cons (pv 1) (pa_cons (pe_bltn (by rfl) B.int_ boot_int (relTy _)) pa_nil)))) (pss_one (ps_ret (pe_and (pe_callB call_isi (by rfl) B.isinstance (by decide +kernel) (pa_cons (pv 0) (pa_cons (pe_bltn (by rfl) B.int_ boot_int (relTy _)) pa_nil))) (pe_and (pe_not (pe_callB call_isi (by rfl) B.isinstance (by decide +kernel) (pa_cons (pv 0) (pa_cons (pe_bltn (by rfl) B.bool_ boot_bool (relTy _)) pa_nil)))) (pe_one (pe_cmpR op_eq (pv 0) (pv 1) (nomark _))))))) pss_nil)
    (pss_cons (ps_if (pt_val (pe_callB call_isi (by rfl) B.isinstance (by decide +kernel) (pa_cons (pv 1) (pa_cons (pe_bltn (by rfl) B.str_ boot_str (relTy _)) pa_nil)))) (pss_one (ps_ret (pe_and (pe_callB call_isi (by rfl) B.isinstance (by decide +kernel) (pa_cons (pv 0) (pa_cons (pe_bltn (by rfl) B.str_ boot_str (relTy _)) pa_nil))) (pe_one (pe_cmpR op_eq (pv 0) (pv 1) (nomark _)))))) pss_nil)
    (pss_cons ps_never (pss_cons ps_never (pss_cons ps_never (pss_one ps_never)))))))), ?_⟩
      obtain ⟨hs, rfl⟩ := hA
      have kit : ∀ {a b : String} {r : Bool}, kitB a b = some r → PySem.W.kitOne K (.type a) (.type b) = some r := fun h => kit_ty h
      refine ⟨x, rfl, rfl, _, rfl, ite2 (fun e => ?_) (fun e => ?_)⟩
      · exact ⟨x, rfl, rfl, by rw [e]; exact q H (Same.refl _)⟩
      · cases x with
        | non => exact absurd rfl e
        | bl b =>
          refine ⟨.bl b, rfl, _, _, _, _, _, rfl, .ty _, .base (.bl b), kit_ty (by decide +kernel), _, rfl, iteT ?_⟩
          refine ⟨.bl b, rfl, _, _, _, _, _, rfl, .ty _, .base (.bl b), kit_ty (by decide +kernel), _, rfl, iteT ?_⟩
          exact ⟨.bl b, rfl, .bl b, rfl, rfl, by rw [decide_eq_true rfl]; exact q H (Same.refl _)⟩
        | int i =>
          refine ⟨.int i, rfl, _, _, _, _, _, rfl, .ty _, .base (.int i), kit_ty (by decide +kernel), _, rfl, iteF ?_⟩
          refine ⟨.int i, rfl, _, _, _, _, _, rfl, .ty _, .base (.int i), kit_ty (by decide +kernel), _, rfl, iteT ?_⟩
          refine ⟨.int i, rfl, _, _, _, _, _, rfl, .ty _, .base (.int i), kit_ty (by decide +kernel), _, rfl, iteT ?_⟩
          refine ⟨.int i, rfl, _, _, _, _, _, rfl, .ty _, .base (.int i), (show PySem.W.kitOne K (.type "int") (.type "bool") = some false from kit_ty (by decide +kernel)), _, rfl, _, rfl, iteT ?_⟩
          exact ⟨.int i, rfl, .int i, rfl, rfl, by rw [decide_eq_true rfl]; exact q H (Same.refl _)⟩
        | str z =>
          refine ⟨.str z, rfl, _, _, _, _, _, rfl, .ty _, .base (.str z), kit_ty (by decide +kernel), _, rfl, iteF ?_⟩
          refine ⟨.str z, rfl, _, _, _, _, _, rfl, .ty _, .base (.str z), kit_ty (by decide +kernel), _, rfl, iteF ?_⟩
          refine ⟨.str z, rfl, _, _, _, _, _, rfl, .ty _, .base (.str z), kit_ty (by decide +kernel), _, rfl, iteT ?_⟩
          refine ⟨.str z, rfl, _, _, _, _, _, rfl, .ty _, .base (.str z), kit_ty (by decide +kernel), _, rfl, iteT ?_⟩
          exact ⟨.str z, rfl, .str z, rfl, rfl, by rw [decide_eq_true rfl]; exact q H (Same.refl _)⟩
        | byt _ => cases hs
        | flt _ => cases hs
        | ref _ => cases hs
        | ty _ => cases hs
  | succ n ih =>
    obtain ⟨f, fd, F, m, G, b⟩ := ih.ex
    refine ⟨f, fd, F, m, ?_, b⟩
    have G2 : FnOk P w K mg base CX0 (n + 1 + 1) f fd P__law_alike (fun vs H Q _ => ∃ (a b : Addr) (xs ys : List V), vs = [.ref a, .ref b] ∧ ((H a = some (.lst xs) ∧ H b = some (.lst ys)) ∨ (H a = some (.tup xs) ∧ H b = some (.tup ys))) ∧ xs.length = ys.length ∧ ys.length ≤ 100000 ∧
        (∀ (i : Nat) (u v : V), xs[i]? = some u → ys[i]? = some v → Alk H n u v) ∧ ∀ H', Same H H' → Q (.bl true) H') := by
      refine F.ok sc__law_alike (fun vs H Q E h => ?_) (fun cdv AA outer s H vs Q E hr h => ?_)
      · obtain ⟨_, _, _, _, rfl, _⟩ := h
        rfl
      · obtain ⟨a, b', xs, ys, rfl, hab, hl, hz, hA, q⟩ := h
        have nd := sc__law_alike.nd
        have D__law_alike := ih
        refine ⟨_, (pss_cons (ps_if (pt_cmpR op_isN (pv 1) pe_non (nomark _)) (pss_one (ps_ret (pe_cmpR op_isN (pv 0) pe_non (nomark _)))) pss_nil)
    (pss_cons (ps_if (pt_val (pe_callB call_isi (by rfl) B.isinstance (by decide +kernel) (pa_cons (pv 1) (pa_cons (pe_bltn (by rfl) B.bool_ boot_bool (relTy _)) pa_nil)))) (pss_one (ps_ret (pe_and (pe_callB call_isi (by rfl) B.isinstance (by decide +kernel) (pa_cons (pv 0) (pa_cons (pe_bltn (by rfl) B.bool_ boot_bool (relTy _)) pa_nil))) (pe_one (pe_cmpR op_eq (pv 0) (pv 1) (nomark _)))))) pss_nil)
    (pss_cons (ps_if (pt_val (pe_callB call_isi (by rfl) B.isinstance (by decide +kernel) (pa_cons (pv 1) (pa_cons (pe_bltn (by rfl) B.int_ boot_int (relTy _)) pa_nil)))) (pss_one (ps_ret (pe_and (pe_callB call_isi (by rfl) B.isinstance (by decide +kernel) (pa_cons (pv 0) (pa_cons (pe_bltn (by rfl) B.int_ boot_int (relTy _)) pa_nil))) (pe_and (pe_not (pe_callB call_isi (by rfl) B.isinstance (by decide +kernel) (pa_cons (pv 0) (pa_cons (pe_bltn (by rfl) B.bool_ boot_bool (relTy _)) pa_nil)))) (pe_one (pe_cmpR op_eq (pv 0) (pv 1) (nomark _))))))) pss_nil)
    (pss_cons (ps_if (pt_val (pe_callB call_isi (by rfl) B.isinstance (by decide +kernel) (pa_cons (pv 1) (pa_cons (pe_bltn (by rfl) B.str_ boot_str (relTy _)) pa_nil)))) (pss_one (ps_ret (pe_and (pe_callB call_isi (by rfl) B.isinstance (by decide +kernel) (pa_cons (pv 0) (pa_cons (pe_bltn (by rfl) B.str_ boot_str (relTy _)) pa_nil))) (pe_one (pe_cmpR op_eq (pv 0) (pv 1) (nomark _)))))) pss_nil)
    (pss_cons (ps_if (PW.pt (pw_or (pt_cmpR op_ne (pe_callB call_isi (by rfl) B.isinstance (by decide +kernel) (pa_cons (pv 0) (pa_cons (pe_bltn (by rfl) B.list_ boot_list (relTy _)) pa_nil))) (pe_callB call_isi (by rfl) B.isinstance (by decide +kernel) (pa_cons (pv 1) (pa_cons (pe_bltn (by rfl) B.list_ boot_list (relTy _)) pa_nil))) (nomark _)) (pw_or1 (pt_cmpR op_ne (pe_callB call_isi (by rfl) B.isinstance (by decide +kernel) (pa_cons (pv 0) (pa_cons (pe_bltn (by rfl) B.tuple_ boot_tuple (relTy _)) pa_nil))) (pe_callB call_isi (by rfl) B.isinstance (by decide +kernel) (pa_cons (pv 1) (pa_cons (pe_bltn (by rfl) B.tuple_ boot_tuple (relTy _)) pa_nil))) (nomark _))))) (pss_one (ps_ret pe_bl)) pss_nil)
    (pss_cons (ps_if (pt_cmpR op_ne (pe_callB call_len_seq (by rfl) B.len PySem.boot_len (pa_cons (pv 0) pa_nil)) (pe_callB call_len_seq (by rfl) B.len PySem.boot_len (pa_cons (pv 1) pa_nil)) (nomark _)) (pss_one (ps_ret pe_bl)) pss_nil)
    (pss_cons (ps_for PassesOwn.never rfl (pi_range1 (by rfl) B.range (pa_cons (pe_callB call_len_seq (by rfl) B.len PySem.boot_len (pa_cons (pv 1) pa_nil)) pa_nil)) (pg_name (i := 2) nd rfl (.inl rfl)) (pss_one (ps_if (pt_not (pt_val (pe_df D__law_alike hr (by rfl) (pa_cons (pe_ix ix_seq (pv 0) (pv 2) (fun _ _ => rfl)) (pa_cons (pe_ix ix_seq (pv 1) (pv 2) (fun _ _ => rfl)) pa_nil))))) (pss_one (ps_ret pe_bl)) pss_nil)))
    (pss_one (ps_ret pe_bl))))))))), ?_⟩
        have sq : ∀ {H' : Hp}, Same H H' → (SqL K H' a xs ∨ SqT K H' a xs) ∧ (SqL K H' b' ys ∨ SqT K H' b' ys) := fun k => by
          rcases hab with ⟨h1, h2⟩ | ⟨h1, h2⟩
          · exact ⟨.inl (SqL.of (k _ _ h1)), .inl (SqL.of (k _ _ h2))⟩
          · exact ⟨.inr (SqT.of (k _ _ h1)), .inr (SqT.of (k _ _ h2))⟩
        -- none of the flat kinds
        have ty : ∃ T : String, TyX K H (.ref a) (.type T) ∧ TyX K H (.ref b') (.type T) ∧ (T = "list" ∨ T = "tuple") := by
          rcases hab with ⟨h1, h2⟩ | ⟨h1, h2⟩
          · exact ⟨"list", .base (.lst h1), .base (.lst h2), .inl rfl⟩
          · exact ⟨"tuple", .base (.tup h1), .base (.tup h2), .inr rfl⟩
        obtain ⟨T, t1, t2, hT⟩ := ty
        have nb : PySem.W.kitOne K (.type T) (.type "bool") = some false := by
          rcases hT with rfl | rfl
          · exact kit_ty (by decide +kernel)
          · exact kit_ty (by decide +kernel)
        have ni : PySem.W.kitOne K (.type T) (.type "int") = some false := by
          rcases hT with rfl | rfl
          · exact kit_ty (by decide +kernel)
          · exact kit_ty (by decide +kernel)
        have ns : PySem.W.kitOne K (.type T) (.type "str") = some false := by
          rcases hT with rfl | rfl
          · exact kit_ty (by decide +kernel)
          · exact kit_ty (by decide +kernel)
        obtain ⟨kl, hkl⟩ : ∃ k, PySem.W.kitOne K (.type T) (.type "list") = some k := by
          rcases hT with rfl | rfl
          · exact ⟨true, kit_ty (by decide +kernel)⟩
          · exact ⟨false, kit_ty (by decide +kernel)⟩
        obtain ⟨kt, hkt⟩ : ∃ k, PySem.W.kitOne K (.type T) (.type "tuple") = some k := by
          rcases hT with rfl | rfl
          · exact ⟨false, kit_ty (by decide +kernel)⟩
          · exact ⟨true, kit_ty (by decide +kernel)⟩
        refine ⟨.ref b', rfl, rfl, _, rfl, iteF ?_⟩
        refine ⟨.ref b', rfl, _, _, _, _, _, rfl, .ty _, t2, nb, _, rfl, iteF ?_⟩
        refine ⟨.ref b', rfl, _, _, _, _, _, rfl, .ty _, t2, ni, _, rfl, iteF ?_⟩
        refine ⟨.ref b', rfl, _, _, _, _, _, rfl, .ty _, t2, ns, _, rfl, iteF ?_⟩
        refine ⟨.ref a, rfl, _, _, _, _, _, rfl, .ty _, t1, hkl, .ref b', rfl, _, _, _, _, _, rfl, .ty _, t2, hkl, rfl, _, rfl, ?_⟩
        rw [decide_eq_true rfl]
        refine iteF ?_
        refine ⟨.ref a, rfl, _, _, _, _, _, rfl, .ty _, t1, hkt, .ref b', rfl, _, _, _, _, _, rfl, .ty _, t2, hkt, rfl, _, rfl, ?_⟩
        rw [decide_eq_true rfl]
        refine iteF ?_
        -- the lengths
        refine ⟨.ref a, rfl, a, _, rfl, (sq (Same.refl _)).1, .ref b', rfl, b', _, rfl, (sq (Same.refl _)).2, rfl, _, rfl, ?_⟩
        rw [hl, decide_eq_true rfl]
        refine iteF ?_
        -- the loop
        refine ⟨.ref b', rfl, b', _, rfl, (sq (Same.refl _)).2, _, rfl, by omega, by omega, ?_⟩
        refine for_it (walk_range (n := ys.length)) (fun i σ H2 => ∃ y2, σ = [some (.ref a), some (.ref b'), y2] ∧ Same H H2) ⟨none, rfl, Same.refl _⟩ (fun _ _ _ _ _ => trivial) (fun i x σ H2 H3 hi hW hY => ?_) (fun σ H2 hW => ?_)
        · obtain ⟨y2, rfl, sm⟩ := hW
          obtain ⟨rfl, rfl⟩ := hY
          obtain ⟨v, ev⟩ := at_some hi
          obtain ⟨u, eu⟩ := at_some (show i < xs.length by omega)
          have e0 : (0 : Int) + (i : Int) = (i : Int) := by omega
          have ix : ∀ {p : Addr} {zs : List V} {z : V} {Q' : VK}, (SqL K H3 p zs ∨ SqT K H3 p zs) → zs[i]? = some z → Q' z H3 → rIxL K (.ref p) (.int (0 + (i : Int))) H3 Q' ∨ rIxT K (.ref p) (.int (0 + (i : Int))) H3 Q' ∨ rIxS (.ref p) (.int (0 + (i : Int))) H3 Q' := fun {p zs z Q'} h e q => by
            rw [e0]
            rcases h with h | h
            · exact .inl ⟨p, zs, _, z, rfl, rfl, h, atI_nat e, q⟩
            · exact .inr (.inl ⟨p, zs, _, z, rfl, rfl, h, atI_nat e, q⟩)
          refine ⟨.ref a, rfl, _, rfl, ix (sq sm).1 eu ⟨.ref b', rfl, _, rfl, ix (sq sm).2 ev ⟨u, v, rfl, (hA i u v eu ev).keep sm, fun H4 s4 => ⟨_, rfl, iteF ⟨_, rfl, Same.trans sm s4⟩⟩⟩⟩⟩
        · obtain ⟨y2, rfl, sm⟩ := hW
          exact q H2 sm
    refine (FnOk.or (G.mono (Nat.le_succ _)) G2).imp (fun vs H Q E h => ?_)
    obtain ⟨x, y, rfl, hA, q⟩ := h
    rcases hA with ⟨h1, rfl⟩ | ⟨a, b', xs, ys, rfl, rfl, h1, h2, h3, h4⟩
    · exact .inl ⟨x, x, rfl, by cases n with | zero => exact ⟨h1, rfl⟩ | succ n => exact .inl ⟨h1, rfl⟩, q⟩
    · exact .inr ⟨a, b', xs, ys, rfl, h1, h2, h3, h4, q⟩
end
end El
namespace El
open PySem PySem.Spec PyProof.Rows L2
section
variable {P : Program} {w : World} {K : PySem.W.Frag} {mg : Str → Option Value} {base : Heap}
abbrev s__law_shuffled : Stmt := topS 17
abbrev N__law_shuffled : List Str := ["tray", "things", "left", "k"]
abbrev P__law_shuffled : List Str := ["tray", "things"]
theorem sc__law_shuffled : FnScope N__law_shuffled P__law_shuffled (defScope s__law_shuffled) := ⟨rfl, rfl, rfl, by decide +kernel, rfl, by decide +kernel, by decide +kernel⟩
def sp__law_shuffled (K : PySem.W.Frag) : Sp := fun vs H Q _ => ∃ (t g : Addr) (n : Nat) (a : Addr) (xs : List V), vs = [.ref t, .ref a] ∧ Tray H t g n ∧ SqL K H a xs ∧ xs.length ≤ 1000 ∧ n + xs.length ≤ 1000000000 ∧
  ∀ H' o ys, Kp (Off t g) H H' → Tray H' t g (n + xs.length) → H o = none → H' o = some (.lst ys) → ys.Perm xs → Q (.ref o) H'
theorem ok__law_shuffled (A : At K mg "_law_shuffled" P__law_shuffled s__law_shuffled) (B : Bi mg) (D__law_draw : Df P w K mg base 1 "_law_draw" P__law_draw s__law_draw sp__law_draw) :
    Df P w K mg base 2 "_law_shuffled" P__law_shuffled s__law_shuffled (sp__law_shuffled K) := by
  refine A.df fun f fd F => F.ok sc__law_shuffled (fun vs H Q E h => ?_) (fun cdv AA outer s H vs Q E hr h => ?_)
  · obtain ⟨_, _, _, _, _, rfl, _⟩ := h
    rfl
  · obtain ⟨t, g, n, a, xs, rfl, hT, hS, hl, hn, q⟩ := h
    have nd := sc__law_shuffled.nd
    refine ⟨_, (pss_cons (ps_set (i := 2) nd rfl (.inr rfl) (pe_callTy call_list_of (by rfl) B.list_ (by decide +kernel) (pa_cons (pv 1) pa_nil)))
    (pss_one (ps_ret (pe_lc (own := [("k", 3)]) (tt := tYes) rfl nd (pi_range1 (by rfl) B.range (pa_cons (pe_callB call_len_seq (by rfl) B.len PySem.boot_len (pa_cons (pv 2) pa_nil)) pa_nil)) (blkOk_by (N := N__law_shuffled) (sc := defScope s__law_shuffled) (by decide +kernel)) (fun _ _ _ _ _ => (pg_name (i := 3) nd rfl (.inl rfl))) (fun _ _ _ _ _ => pts_nil) (fun _ _ _ _ _ => (bmK K PySem.F.plainAttrs_list PySem.F.slot_list_pop PySem.F.type_list_pop mt_popAt (pv 2) (pa_cons (pe_df D__law_draw (hr.mono (by decide)) (by rfl) (pa_cons (pv 0) (pa_cons (pe_callB (lenK K) (by rfl) B.len PySem.boot_len (pa_cons (pv 2) pa_nil)) pa_nil))) pa_nil))))))), ?_⟩
    refine ⟨.ref a, rfl, a, xs, rfl, .inl hS, fun l nl => ?_⟩
    have el : upd H l (.lst xs) l = some (.lst xs) := upd_same
    have sl : Same H (upd H l (.lst xs)) := same_new nl
    refine ⟨.ref l, rfl, l, xs, rfl, .inl (SqL.of el), _, rfl, by omega, by omega, fun D nD => ?_⟩
    have nDl : l ≠ D := ne_of_none el nD
    have nD0 : H D = none := sl.free nD
    have ol : Off t g l := hT.off nl
    have oD : Off t g D := hT.off nD0
    refine lc_it (walk_range (n := xs.length)) (fun i H2 => ∃ ls acc, Kp (Off t g) H H2 ∧ H2 l = some (.lst ls) ∧ H2 D = some (.lst acc) ∧ (acc ++ ls).Perm xs ∧ ls.length + i = xs.length ∧ acc.length = i ∧ Tray H2 t g (n + i))
      ⟨xs, [], (Kp.of sl).trans (Kp.of (same_new nD)), by rw [upd_ne nDl]; exact el, upd_same, by simp, rfl, rfl, (hT.keep sl).keep (same_new nD)⟩ (fun _ _ _ _ => trivial) (fun i x H2 H3 hi hW hY => ?_) (fun H2 hW => ?_)
    · obtain ⟨ls, acc, kp, e1, e2, pm, hlen, ha, hT2⟩ := hW
      obtain ⟨rfl, rfl⟩ := hY
      have hm : (1 : Nat) ≤ ls.length := by omega
      refine ⟨rfl, .ref l, rfl, .inl ⟨rfl, _, SqL.of e1⟩, .ref t, rfl, .ref l, rfl, l, ls, rfl, .inl (SqL.of e1), t, g, n + i, _, rfl, hT2, by omega, by omega, ?_, fun H4 r k4 T4 r0 r1 => ?_⟩
      · exact Int.lt_of_lt_of_le (show (ls.length : Int) < 1001 by omega) (by decide)
      · obtain ⟨k, rfl⟩ : ∃ k : Nat, r = k := ⟨r.toNat, by omega⟩
        have hk : k < ls.length := by omega
        obtain ⟨y, ey⟩ := at_some hk
        have e1' := k4 _ _ ol e1
        have e2' := k4 _ _ oD e2
        refine ⟨l, ls, _, k, y, rfl, rfl, e1', by omega, by omega, seq_ix hk, ey, acc, by rw [upd_ne nDl.symm]; exact e2', ils (by omega), ls.eraseIdx k, acc ++ [y], ?_, ?_, upd_same, ?_, ?_, ?_, ?_⟩
        · exact (Kp.mutF (Kp.mutF (kp.trans k4) nl) nD0)
        · rw [upd_ne nDl, upd_same]
        · refine List.Perm.trans ?_ pm
          rw [List.append_assoc]
          exact List.Perm.append_left _ (erase_perm ey)
        · rw [List.length_eraseIdx_of_lt hk]
          omega
        · rw [List.length_append, ha]
          rfl
        · exact (T4.mut ol).mut oD
    · obtain ⟨ls, acc, kp, e1, e2, pm, hlen, ha, hT2⟩ := hW
      have : ls = [] := List.eq_nil_of_length_eq_zero (by omega)
      subst this
      rw [List.append_nil] at pm
      exact q H2 D acc kp hT2 nD0 e2 pm
end
end El
namespace El
open PySem PySem.Spec PyProof.Rows L2
section
variable {P : Program} {w : World} {K : PySem.W.Frag} {mg : Str → Option Value} {base : Heap}
abbrev s__law_ages : Stmt := topS 19
abbrev N__law_ages : List Str := ["tray", "many", "here", "far", "found", "k"]
abbrev P__law_ages : List Str := ["tray", "many"]
theorem sc__law_ages : FnScope N__law_ages P__law_ages (defScope s__law_ages) := ⟨rfl, rfl, rfl, by decide +kernel, rfl, by decide +kernel, by decide +kernel⟩
def sp__law_ages : Sp := fun vs H Q _ => ∃ (t g : Addr) (n many : Nat), vs = [.ref t, .int (many : Int)] ∧ Tray H t g n ∧ many ≤ 60 ∧ n ≤ 900000000 ∧
  ∀ H' o (ns : List Int), Kp (Off t g) H H' → Tray H' t g (n + 200) → H o = none → H' o = some (.lst (ns.map V.int)) → ns.length = many → ns.Nodup → (∀ x ∈ ns, -1000000000000000000000000000000 < x ∧ x < 1000000000000000000000000000000) → Q (.ref o) H'
theorem ok__law_ages (A : At K mg "_law_ages" P__law_ages s__law_ages) (B : Bi mg) (D__law_draw : Df P w K mg base 1 "_law_draw" P__law_draw s__law_draw sp__law_draw)
    (D__law_shuffled : Df P w K mg base 2 "_law_shuffled" P__law_shuffled s__law_shuffled (sp__law_shuffled K)) : Df P w K mg base 3 "_law_ages" P__law_ages s__law_ages sp__law_ages := by
  refine A.df fun f fd F => F.ok sc__law_ages (fun vs H Q E h => ?_) (fun cdv AA outer s H vs Q E hr h => ?_)
  · obtain ⟨_, _, _, _, rfl, _⟩ := h
    rfl
  · obtain ⟨t, g, n, many, rfl, hT, hm, hn, q⟩ := h
    have nd := sc__law_ages.nd
    refine ⟨_, (pss_cons (ps_set (i := 2) nd rfl (.inl rfl) (pe_ix ix_list (pe_lst (pa_cons (pe_op op_sub (pe_df D__law_draw (hr.mono (by decide)) (by rfl) (pa_cons (pv 0) (pa_cons pe_int pa_nil))) pe_int) (pa_cons (pe_op op_sub (pe_df D__law_draw (hr.mono (by decide)) (by rfl) (pa_cons (pv 0) (pa_cons (pe_op op_pow pe_int pe_int) pa_nil))) (pe_op op_mul pe_int (pe_op op_pow pe_int pe_int))) pa_nil))) (pe_df D__law_draw (hr.mono (by decide)) (by rfl) (pa_cons (pv 0) (pa_cons pe_int pa_nil))) (fun _ _ => rfl)))
    (pss_cons (ps_set (i := 3) nd rfl (.inl rfl) (pe_ix ix_list (pe_lst (pa_cons pe_int (pa_cons pe_int (pa_cons (pe_op op_pow pe_int pe_int) pa_nil)))) (pe_df D__law_draw (hr.mono (by decide)) (by rfl) (pa_cons (pv 0) (pa_cons pe_int pa_nil))) (fun _ _ => rfl)))
    (pss_cons (ps_set (i := 4) nd rfl (.inl rfl) (pe_lst pa_nil))
    (pss_cons (ps_for PassesOwn.never rfl (pi_range1 (by rfl) B.range (pa_cons (pv 1) pa_nil)) (pg_name (i := 5) nd rfl (.inl rfl)) (pss_cons (ps_set (i := 2) nd rfl (.inl rfl) (pe_op op_add (pe_op op_add (pv 2) pe_int) (pe_df D__law_draw (hr.mono (by decide)) (by rfl) (pa_cons (pv 0) (pa_cons (pv 3) pa_nil))))) (pss_one (ps_expr (pe_bm PySem.F.plainAttrs_list PySem.F.slot_list_append PySem.F.type_list_append mt_append (pv 4) (pa_cons (pv 2) pa_nil))))))
    (pss_one (ps_ret (pe_df D__law_shuffled (hr.mono (by decide)) (by rfl) (pa_cons (pv 0) (pa_cons (pv 4) pa_nil))))))))), ?_⟩
    -- here
    refine ⟨.ref t, rfl, t, g, n, 30, rfl, hT, by omega, by decide, by decide, fun H1 r1 k1 T1 a1 b1 => ?_⟩
    refine ⟨_, _, rfl, rfl, .ref t, rfl, _, _, rfl, rfl, ⟨by decide, by decide, by decide⟩, t, g, n + 1, _, rfl, T1, by omega, by decide, by decide, fun H2 r2 k2 T2 a2 b2 => ?_⟩
    refine ⟨_, _, rfl, rfl, ⟨by decide, by decide, by decide⟩, _, _, rfl, rfl, .inl ⟨by decide, by decide⟩, _, _, rfl, rfl, (by show 2 ≤ sizeLine; decide), fun p np => ?_⟩
    have op : Off t g p := T2.off np
    refine ⟨.ref t, rfl, t, g, n + 2, 2, rfl, T2.mut op, by omega, by decide, by decide, fun H3 r3 k3 T3 a3 b3 => ?_⟩
    obtain ⟨v, hv, mv⟩ := at_pick (xs := [V.int (r1 - 15), .int (r2 - 5 * 10 ^ Int.toNat 28)]) a3 b3
    refine ⟨p, _, _, v, rfl, rfl, SqL.of (k3 _ _ op upd_same), hv, ?_⟩
    have kA : Kp (Off t g) H H3 := (k1.trans k2).trans ((Kp.of (same_new np)).trans k3)
    have e28 : (10 : Int) ^ Int.toNat 28 = 10000000000000000000000000000 := by decide
    have e29 : (10 : Int) ^ Int.toNat 29 = 100000000000000000000000000000 := by decide
    have e27 : (10 : Int) ^ Int.toNat 27 = 1000000000000000000000000000 := by decide
    obtain ⟨here, rfl, he0, he1⟩ : ∃ i : Int, v = .int i ∧ -100000000000000000000000000000 ≤ i ∧ i ≤ 100000000000000000000000000000 := by
      rcases List.mem_cons.mp mv with e | mv
      · exact ⟨_, e, by omega, by omega⟩
      · exact ⟨_, List.mem_singleton.mp mv, by omega, by omega⟩
    -- far
    refine ⟨_, _, rfl, rfl, ⟨by decide, by decide, by decide⟩, (by show 3 ≤ sizeLine; decide), fun p' np' => ?_⟩
    have op' : Off t g p' := T3.off np'
    refine ⟨.ref t, rfl, t, g, n + 3, 3, rfl, T3.mut op', by omega, by decide, by decide, fun H4 r4 k4 T4 a4 b4 => ?_⟩
    obtain ⟨v, hv', mv'⟩ := at_pick (xs := [V.int 1, .int 9, .int (10 ^ Int.toNat 27)]) a4 b4
    refine ⟨p', _, _, v, rfl, rfl, SqL.of (k4 _ _ op' upd_same), hv', ?_⟩
    have kB : Kp (Off t g) H H4 := kA.trans ((Kp.of (same_new np')).trans k4)
    obtain ⟨far, rfl, f0, f1, f2⟩ : ∃ i : Int, v = .int i ∧ 0 < i ∧ i < 2 ^ 200 ∧ i ≤ 1000000000000000000000000000 := by
      rcases List.mem_cons.mp mv' with e | mv'
      · exact ⟨_, e, by decide, by decide, by decide⟩
      · rcases List.mem_cons.mp mv' with e | mv'
        · exact ⟨_, e, by decide, by decide, by decide⟩
        · exact ⟨_, List.mem_singleton.mp mv', by decide, by decide, by decide⟩
    -- found = []
    refine ⟨Nat.zero_le _, fun o no => ?_⟩
    have oo : Off t g o := T4.off no
    have no0 : H o = none := kB.none oo no
    -- the loop
    refine ⟨_, rfl, _, rfl, by omega, by omega, ?_⟩
    refine for_it (walk_range (n := ((many : Int)).toNat)) (fun i σ H5 => ∃ (h : Int) (ns : List Int) (y5 : Option V), σ = [some (.ref t), some (.int (many : Int)), some (.int h), some (.int far), some (.ref o), y5] ∧ Kp (Off t g) H H5 ∧ Tray H5 t g (n + 4 + i) ∧ H5 o = some (.lst (ns.map V.int)) ∧ ns.length = i ∧ ns.Pairwise (· < ·) ∧ (∀ x ∈ ns, x ≤ h) ∧ (∀ x ∈ ns, -100000000000000000000000000000 ≤ x) ∧ -100000000000000000000000000000 ≤ h ∧ h ≤ 100000000000000000000000000000 + 10000000000000000000000000000 * (i : Int))
      ⟨here, [], none, rfl, kB.new no, T4.mut oo, upd_same, rfl, List.Pairwise.nil, fun x h => absurd h (by simp), fun x h => absurd h (by simp), he0, by omega⟩ (fun _ _ _ _ _ => trivial) (fun i x σ H5 H6 hi hW hY => ?_) (fun σ H5 hW => ?_)
    · obtain ⟨h, ns, y5, rfl, kp, T5, e5, hl, pw, hx, hlo, hh0, hh1⟩ := hW
      obtain ⟨rfl, rfl⟩ := hY
      have hi' : i < many := by omega
      refine ⟨.int h, rfl, _, _, rfl, rfl, .ref t, rfl, .int far, rfl, t, g, n + 4 + i, far, rfl, T5, by omega, f0, f1, fun H7 r7 k7 T7 a7 b7 => ?_⟩
      refine ⟨_, _, rfl, rfl, .ref o, rfl, .inl ⟨rfl, _, SqL.of (k7 _ _ oo e5)⟩, _, rfl, o, _, _, rfl, rfl, k7 _ _ oo e5, ils (by rw [List.length_map]; omega), ?_⟩
      refine ⟨h + 1 + r7, ns ++ [h + 1 + r7], _, rfl, Kp.mutF (kp.trans k7) no0, T7.mut oo, by rw [upd_same, List.map_append]; rfl, by rw [List.length_append, hl]; rfl, ?_, fun x m => ?_, fun x m => ?_, by omega, by omega⟩
      · rw [List.pairwise_append]
        refine ⟨pw, List.pairwise_singleton _ _, fun x m y my => ?_⟩
        rw [List.mem_singleton.mp my]
        have := hx x m
        omega
      · rcases List.mem_append.mp m with m | m
        · have := hx x m
          omega
        · rw [List.mem_singleton.mp m]
          exact Int.le_refl _
      · rcases List.mem_append.mp m with m | m
        · exact hlo x m
        · rw [List.mem_singleton.mp m]
          omega
    · obtain ⟨h, ns, y5, rfl, kp, T5, e5, hl, pw, hx, hlo, hh0, hh1⟩ := hW
      have hl' : ns.length = many := by omega
      refine ⟨.ref t, rfl, .ref o, rfl, t, g, _, o, _, rfl, T5, SqL.of e5, by rw [List.length_map]; omega, by rw [List.length_map]; omega, fun H8 o' ys k8 T8 no' e8 pm => ?_⟩
      obtain ⟨ms, rfl⟩ : ∃ ms : List Int, ys = ms.map V.int := by
        have : ∀ y ∈ ys, ∃ i, y = V.int i := fun y m => by
          obtain ⟨i, _, rfl⟩ := List.mem_map.mp (pm.mem_iff.mp m)
          exact ⟨i, rfl⟩
        clear pm e8
        induction ys with
        | nil => exact ⟨[], rfl⟩
        | cons y ys ih =>
          obtain ⟨i, rfl⟩ := this y List.mem_cons_self
          obtain ⟨ms, rfl⟩ := ih fun z m => this z (List.mem_cons_of_mem _ m)
          exact ⟨i :: ms, rfl⟩
      have pm' : ms.Perm ns := by
        have := pm.map (fun v : V => match v with | .int i => i | _ => 0)
        rw [List.map_map, List.map_map] at this
        simpa [Function.comp_def] using this
      have oo' : Off t g o' := T5.off no'
      refine q H8 o' ms (kp.trans k8) (T8.more (by rw [List.length_map]; omega)) (kp.none oo' no') e8 (by rw [pm'.length_eq, hl']) (pm'.nodup_iff.mpr (pw.imp fun h => Int.ne_of_lt h)) fun x m => ?_
      have m := pm'.mem_iff.mp m
      have h1 := hx x m
      have h2 := hlo x m
      omega
end
end El
namespace El
open PySem PySem.Spec PyProof.Rows L2
section
variable {P : Program} {w : World} {K : PySem.W.Frag} {mg : Str → Option Value} {base : Heap}
abbrev s__law_patience : Stmt := topS 20
abbrev N__law_patience : List Str := ["tray", "lot", "many", "some"]
abbrev P__law_patience : List Str := ["tray", "lot", "many"]
theorem sc__law_patience : FnScope N__law_patience P__law_patience (defScope s__law_patience) := ⟨rfl, rfl, rfl, by decide +kernel, rfl, by decide +kernel, by decide +kernel⟩
def sp__law_patience : Sp := fun vs H Q _ => ∃ (t g : Addr) (n many : Nat) (lot : Int), vs = [.ref t, .int lot, .int (many : Int)] ∧ Tray H t g n ∧ many ≤ 60 ∧ n ≤ 900000000 ∧ 0 ≤ lot ∧ lot ≤ 5 ∧
  ∀ H' (p : Int), Kp (Off t g) H H' → Tray H' t g (n + 5) → 0 ≤ p → p < 1000000000000000000000000000000 → Q (.int p) H'
theorem ok__law_patience (A : At K mg "_law_patience" P__law_patience s__law_patience) (B : Bi mg) (D__law_draw : Df P w K mg base 1 "_law_draw" P__law_draw s__law_draw sp__law_draw) : Df P w K mg base 2 "_law_patience" P__law_patience s__law_patience sp__law_patience := by
  refine A.df fun f fd F => F.ok sc__law_patience (fun vs H Q E h => ?_) (fun cdv AA outer s H vs Q E hr h => ?_)
  · obtain ⟨_, _, _, _, _, rfl, _⟩ := h
    rfl
  · obtain ⟨t, g, n, many, lot, rfl, hT, hm, hn, l0, l5, q⟩ := h
    have nd := sc__law_patience.nd
    refine ⟨_, (pss_cons (ps_set (i := 3) nd rfl (.inl rfl) (pe_lst (pa_cons pe_int (pa_cons (pe_df D__law_draw (hr.mono (by decide)) (by rfl) (pa_cons (pv 0) (pa_cons pe_int pa_nil))) (pa_cons (pe_df D__law_draw (hr.mono (by decide)) (by rfl) (pa_cons (pv 0) (pa_cons pe_int pa_nil))) (pa_cons (pe_df D__law_draw (hr.mono (by decide)) (by rfl) (pa_cons (pv 0) (pa_cons (pe_op op_add (pv 2) pe_int) pa_nil))) (pa_cons (pe_op op_sub (pe_op op_sub (pe_op op_pow pe_int pe_int) pe_int) (pe_df D__law_draw (hr.mono (by decide)) (by rfl) (pa_cons (pv 0) (pa_cons pe_int pa_nil)))) pa_nil)))))))
    (pss_one (ps_ret (pe_ix ix_list (pv 3) (pe_ifExp (pt_cmpR op_lt (pv 1) pe_int (nomark _)) (pv 1) (pe_ix ix_list (pe_lst (pa_cons pe_int (pa_cons pe_int (pa_cons pe_int (pa_cons pe_int (pa_cons pe_int (pa_cons pe_int pa_nil))))))) (pe_df D__law_draw (hr.mono (by decide)) (by rfl) (pa_cons (pv 0) (pa_cons pe_int pa_nil))) (fun _ _ => rfl))) (fun _ _ => rfl))))), ?_⟩
    refine ⟨.ref t, rfl, t, g, n, 3, rfl, hT, by omega, by decide, by decide, fun H1 r1 k1 T1 a1 b1 => ?_⟩
    refine ⟨.ref t, rfl, t, g, n + 1, 8, rfl, T1, by omega, by decide, by decide, fun H2 r2 k2 T2 a2 b2 => ?_⟩
    refine ⟨.ref t, rfl, _, rfl, _, _, rfl, rfl, t, g, n + 2, _, rfl, T2, by omega, by omega, ?_, fun H3 r3 k3 T3 a3 b3 => ?_⟩
    · exact Int.lt_of_le_of_lt (show (many : Int) + 2 ≤ 62 by omega) (by decide)
    · refine ⟨_, _, rfl, rfl, ⟨by decide, by decide, by decide⟩, _, _, rfl, rfl, .ref t, rfl, t, g, n + 3, 9, rfl, T3, by omega, by decide, by decide, fun H4 r4 k4 T4 a4 b4 => ?_⟩
      refine ⟨_, _, rfl, rfl, (by show 5 ≤ sizeLine; decide), fun p np => ?_⟩
      have op : Off t g p := T4.off np
      have kA : Kp (Off t g) H (upd H4 p (.lst [.int 0, .int r1, .int r2, .int r3, .int (10 ^ Int.toNat 30 - 1 - r4)])) := (((k1.trans k2).trans k3).trans k4).new np
      have TA := T4.mut (o := .lst [.int 0, .int r1, .int r2, .int r3, .int (10 ^ Int.toNat 30 - 1 - r4)]) op
      have eA : upd H4 p (.lst [.int 0, .int r1, .int r2, .int r3, .int (10 ^ Int.toNat 30 - 1 - r4)]) p = some (.lst [.int 0, .int r1, .int r2, .int r3, .int (10 ^ Int.toNat 30 - 1 - r4)]) := upd_same
      have fin : ∀ {H5 : Hp} {i : Int}, 0 ≤ i → i < 5 → Kp (Off t g) H H5 → Tray H5 t g (n + 5) → H5 p = some (.lst [.int 0, .int r1, .int r2, .int r3, .int (10 ^ Int.toNat 30 - 1 - r4)]) → rIxL K (.ref p) (.int i) H5 Q := by
        intro H5 i i0 i5 k5 T5 e5
        obtain ⟨v, hv, mv⟩ := at_pick (xs := [V.int 0, .int r1, .int r2, .int r3, .int (10 ^ Int.toNat 30 - 1 - r4)]) i0 i5
        refine ⟨p, _, _, v, rfl, rfl, SqL.of e5, hv, ?_⟩
        have e30 : (10 : Int) ^ Int.toNat 30 = 1000000000000000000000000000000 := by decide
        rcases List.mem_cons.mp mv with rfl | mv
        · exact q _ _ k5 T5 (by decide) (by decide)
        rcases List.mem_cons.mp mv with rfl | mv
        · exact q _ _ k5 T5 a1 (by omega)
        rcases List.mem_cons.mp mv with rfl | mv
        · exact q _ _ k5 T5 a2 (by omega)
        rcases List.mem_cons.mp mv with rfl | mv
        · exact q _ _ k5 T5 a3 (by omega)
        rw [List.mem_singleton.mp mv]
        exact q _ _ k5 T5 (by omega) (by omega)
      refine ⟨.ref p, rfl, .int lot, rfl, _, _, rfl, rfl, _, rfl, ite2 (fun e => ?_) (fun e => ?_)⟩
      · have e : lot < 5 := of_decide_eq_true e
        exact ⟨.int lot, rfl, fin l0 e kA (TA.more (Nat.le_succ _)) eA⟩
      · refine ⟨(by show 6 ≤ sizeLine; decide), fun p' np' => ?_⟩
        have op' : Off t g p' := TA.off np'
        refine ⟨.ref t, rfl, t, g, n + 4, 6, rfl, TA.mut op', by omega, by decide, by decide, fun H6 r6 k6 T6 a6 b6 => ?_⟩
        obtain ⟨v, hv, mv⟩ := at_pick (xs := [V.int 1, .int 1, .int 2, .int 3, .int 4, .int 0]) a6 b6
        refine ⟨p', _, _, v, rfl, rfl, SqL.of (k6 _ _ op' upd_same), hv, ?_⟩
        have k7 : Kp (Off t g) H H6 := kA.trans ((Kp.of (same_new np')).trans k6)
        have e7 := k6 _ _ op (by rw [upd_ne (no_of eA np').symm]; exact eA)
        have mv' : ∃ i : Int, v = .int i ∧ 0 ≤ i ∧ i < 5 := by
          rcases List.mem_cons.mp mv with rfl | mv
          · exact ⟨_, rfl, by decide, by decide⟩
          rcases List.mem_cons.mp mv with rfl | mv
          · exact ⟨_, rfl, by decide, by decide⟩
          rcases List.mem_cons.mp mv with rfl | mv
          · exact ⟨_, rfl, by decide, by decide⟩
          rcases List.mem_cons.mp mv with rfl | mv
          · exact ⟨_, rfl, by decide, by decide⟩
          rcases List.mem_cons.mp mv with rfl | mv
          · exact ⟨_, rfl, by decide, by decide⟩
          rw [List.mem_singleton.mp mv]
          exact ⟨_, rfl, by decide, by decide⟩
        obtain ⟨i, rfl, i0, i5⟩ := mv'
        exact fin i0 i5 k7 T6 e7
end
end El
namespace El
open PySem PySem.Spec PyProof.Rows L2
section
variable {P : Program} {w : World} {K : PySem.W.Frag} {mg : Str → Option Value} {base : Heap}
abbrev s__law_guests : Stmt := topS 21
abbrev N__law_guests : List Str := ["tray", "most", "many", "lot", "age"]
abbrev P__law_guests : List Str := ["tray", "most"]
theorem sc__law_guests : FnScope N__law_guests P__law_guests (defScope s__law_guests) := ⟨rfl, rfl, rfl, by decide +kernel, rfl, by decide +kernel, by decide +kernel⟩
def sp__law_guests : Sp := fun vs H Q _ => ∃ (t g : Addr) (n most : Nat), vs = [.ref t, .int (most : Int)] ∧ Tray H t g n ∧ most ≤ 60 ∧ n ≤ 800000000 ∧
  ∀ H' o ts gs, Kp (Off t g) H H' → Tray H' t g (n + 600) → GsAt H' (fun b => H b = none) o ts gs → o ∉ ts → Fit gs → gs.length ≤ most → (∀ g ∈ gs, (-1000000000000000000000000000000 < g.1 ∧ g.1 < 1000000000000000000000000000000) ∧ g.2 < 1000000000000000000000000000000) → Q (.ref o) H'
theorem ok__law_guests (A : At K mg "_law_guests" P__law_guests s__law_guests) (B : Bi mg) (D__law_draw : Df P w K mg base 1 "_law_draw" P__law_draw s__law_draw sp__law_draw)
    (D__law_ages : Df P w K mg base 3 "_law_ages" P__law_ages s__law_ages sp__law_ages) (D__law_patience : Df P w K mg base 2 "_law_patience" P__law_patience s__law_patience sp__law_patience) : Df P w K mg base 4 "_law_guests" P__law_guests s__law_guests sp__law_guests := by
  refine A.df fun f fd F => F.ok sc__law_guests (fun vs H Q E h => ?_) (fun cdv AA outer s H vs Q E hr h => ?_)
  · obtain ⟨_, _, _, _, rfl, _⟩ := h
    rfl
  · obtain ⟨t, g, n, most, rfl, hT, hm, hn, q⟩ := h
    have nd := sc__law_guests.nd
    refine ⟨_, (pss_cons (ps_set (i := 2) nd rfl (.inr rfl) (pe_df D__law_draw (hr.mono (by decide)) (by rfl) (pa_cons (pv 0) (pa_cons (pe_op op_add (pv 1) pe_int) pa_nil))))
    (pss_cons (ps_set (i := 3) nd rfl (.inr rfl) (pe_ix ix_list (pe_lst (pa_cons pe_int (pa_cons pe_int (pa_cons pe_int (pa_cons pe_int (pa_cons pe_int (pa_cons pe_int (pa_cons pe_int (pa_cons pe_int pa_nil))))))))) (pe_df D__law_draw (hr.mono (by decide)) (by rfl) (pa_cons (pv 0) (pa_cons pe_int pa_nil))) (fun _ _ => rfl)))
    (pss_one (ps_ret (pe_lc (own := [("age", 4)]) (tt := tYes) rfl nd (pi_list (pe_df D__law_ages (hr.mono (by decide)) (by rfl) (pa_cons (pv 0) (pa_cons (pv 2) pa_nil)))) (blkOk_by (N := N__law_guests) (sc := defScope s__law_guests) (by decide +kernel)) (fun _ _ _ _ _ => (pg_name (i := 4) nd rfl (.inl rfl))) (fun _ _ _ _ _ => pts_nil) (fun _ _ _ _ _ => (pe_tup (pa_cons (pv 4) (pa_cons (pe_df D__law_patience (hr.mono (by decide)) (by rfl) (pa_cons (pv 0) (pa_cons (pv 3) (pa_cons (pv 2) pa_nil)))) pa_nil))))))))), ?_⟩
    refine ⟨.ref t, rfl, _, rfl, _, _, rfl, rfl, t, g, n, _, rfl, hT, by omega, by omega, ?_, fun H1 r1 k1 T1 a1 b1 => ?_⟩
    · exact Int.lt_of_le_of_lt (show (most : Int) + 1 ≤ 61 by omega) (by decide)
    obtain ⟨many, rfl⟩ : ∃ k : Nat, r1 = k := ⟨r1.toNat, by omega⟩
    have hmany : many ≤ most := by omega
    -- lot
    refine ⟨(by show 8 ≤ sizeLine; decide), fun p np => ?_⟩
    have op : Off t g p := T1.off np
    refine ⟨.ref t, rfl, t, g, n + 1, 8, rfl, T1.mut op, by omega, by decide, by decide, fun H2 r2 k2 T2 a2 b2 => ?_⟩
    obtain ⟨v, hv, mv⟩ := at_pick (xs := [V.int 0, .int 1, .int 2, .int 3, .int 4, .int 5, .int 5, .int 5]) a2 b2
    refine ⟨p, _, _, v, rfl, rfl, SqL.of (k2 _ _ op upd_same), hv, ?_⟩
    have mv' : ∃ i : Int, v = .int i ∧ 0 ≤ i ∧ i ≤ 5 := by
      rcases List.mem_cons.mp mv with rfl | mv
      · exact ⟨_, rfl, by decide, by decide⟩
      rcases List.mem_cons.mp mv with rfl | mv
      · exact ⟨_, rfl, by decide, by decide⟩
      rcases List.mem_cons.mp mv with rfl | mv
      · exact ⟨_, rfl, by decide, by decide⟩
      rcases List.mem_cons.mp mv with rfl | mv
      · exact ⟨_, rfl, by decide, by decide⟩
      rcases List.mem_cons.mp mv with rfl | mv
      · exact ⟨_, rfl, by decide, by decide⟩
      rcases List.mem_cons.mp mv with rfl | mv
      · exact ⟨_, rfl, by decide, by decide⟩
      rcases List.mem_cons.mp mv with rfl | mv
      · exact ⟨_, rfl, by decide, by decide⟩
      rw [List.mem_singleton.mp mv]
      exact ⟨_, rfl, by decide, by decide⟩
    obtain ⟨lot, rfl, l0, l5⟩ := mv'
    have kA : Kp (Off t g) H H2 := k1.trans ((Kp.of (same_new np)).trans k2)
    -- the ages
    refine ⟨.ref t, rfl, _, rfl, t, g, n + 2, many, rfl, T2, by omega, by omega, fun H3 o ns k3 T3 no e3 hl hnd hbn => ?_⟩
    refine ⟨o, rfl, ⟨_, SqL.of e3⟩, fun D nD => ?_⟩
    have oD : Off t g D := T3.off nD
    have oo : Off t g o := T2.off no
    have kB : Kp (Off t g) H H3 := kA.trans k3
    have hDo : o ≠ D := ne_of_none e3 nD
    have nD0 : H D = none := kB.none oD nD
    refine lc_it (walk_list (xs := ns.map V.int)) (fun i H4 => ∃ ts gs, Kp (Off t g) H H4 ∧ H4 o = some (.lst (ns.map V.int)) ∧ GsAt H4 (fun b => H b = none) D ts gs ∧ D ∉ ts ∧ gs.map (·.1) = ns.take i ∧ (∀ g ∈ gs, 0 ≤ g.2) ∧ (∀ g ∈ gs, g.2 < 1000000000000000000000000000000) ∧ Tray H4 t g (n + 202 + 5 * i))
      ⟨[], [], kB.new nD, by rw [upd_ne hDo]; exact e3, ⟨upd_same, nD0, rfl, fun i t g e _ => by simp at e, fun t m => by simp at m⟩, by simp, rfl, fun g m => by simp at m, fun g m => by simp at m, T3.mut oD⟩ (fun i H4 _ hW => ?_) (fun i x H4 H5 hi hW hY => ?_) (fun H4 hW => ?_)
    · obtain ⟨_, _, _, e4, _⟩ := hW
      exact SqL.of e4
    · obtain ⟨ts, gs, kp, e4, hG, hD, hgs, hpos, hbp, T4⟩ := hW
      obtain ⟨rfl, hx⟩ := hY
      obtain ⟨a, ea, rfl⟩ := ints_at hx
      have hi' : i < ns.length := at_lt ea
      have hgl : gs.length = i := by
        have := congrArg List.length hgs
        rw [List.length_map, List.length_take] at this
        omega
      refine ⟨rfl, .int a, rfl, .ref t, rfl, .int lot, rfl, _, rfl, t, g, n + 202 + 5 * i, many, lot, rfl, T4, by omega, by omega, l0, l5, fun H6 b k6 T6 b0 b1' => ?_⟩
      refine ⟨(by show 2 ≤ sizeLine; decide), fun u nu => ?_⟩
      have ou : Off t g u := T6.off nu
      have k7 : Kp (Off t g) H (upd H6 u (.tup [.int a, .int b])) := (kp.trans k6).new nu
      have nu0 : H u = none := (kp.trans k6).none ou nu
      have offD : ∀ z, H z = none → Off t g z := fun z hz => hT.off hz
      have hG6 : GsAt H6 (fun b => H b = none) D ts gs := hG.keep (fun z x hz e => k6 z x (offD z hz) e)
      have hG7 : GsAt (upd H6 u (.tup [.int a, .int b])) (fun b => H b = none) D ts gs := hG6.same (same_new nu)
      refine ⟨ts.map V.ref, hG7.top, ils (by rw [List.length_map, hG.len]; omega), ts ++ [u], gs ++ [(a, b)], ?_, ?_, hG7.push hD (g := (a, b)) upd_same nu0, ?_, ?_, ?_, ?_, ?_⟩
      · exact k7.mutF nD0
      · rw [upd_ne hDo, upd_ne (ne_of_none (k6 _ _ oo e4) nu)]
        exact k6 _ _ oo e4
      · intro m
        rcases List.mem_append.mp m with m | m
        · exact hD m
        · exact (ne_of_none hG6.top nu) (List.mem_singleton.mp m)
      · rw [List.map_append, hgs, take_snoc ea]
        rfl
      · intro g m
        rcases List.mem_append.mp m with m | m
        · exact hpos g m
        · rw [List.mem_singleton.mp m]
          exact b0
      · intro g m
        rcases List.mem_append.mp m with m | m
        · exact hbp g m
        · rw [List.mem_singleton.mp m]
          exact b1'
      · exact (T6.mut ou).mut oD
    · obtain ⟨ts, gs, kp, e4, hG, hD, hgs, hpos, hbp, T4⟩ := hW
      rw [List.length_map, take_full] at hgs
      have hgl : gs.length = many := by
        have := congrArg List.length hgs
        rw [List.length_map] at this
        omega
      exact q H4 D ts gs kp (T4.more (by rw [List.length_map]; omega)) hG hD ⟨by rw [hgs]; exact hnd, hpos⟩ (by omega) fun z mz => ⟨hbn z.1 (by rw [← hgs]; exact List.mem_map_of_mem mz), hbp z mz⟩
end
end El
namespace El
open PySem PySem.Spec PyProof.Rows L2
section
variable {P : Program} {w : World} {K : PySem.W.Frag} {mg : Str → Option Value} {base : Heap}
abbrev s__law_parted : Stmt := topS 22
abbrev N__law_parted : List Str := ["tray", "some", "way", "found", "age", "bears", "spots", "at", "turn", "room"]
abbrev P__law_parted : List Str := ["tray", "some", "way"]
theorem sc__law_parted : FnScope N__law_parted P__law_parted (defScope s__law_parted) := ⟨rfl, rfl, rfl, by decide +kernel, rfl, by decide +kernel, by decide +kernel⟩
def sp__law_parted : Sp := fun vs H Q _ => ∃ (BB : Addr → Prop) (t g a : Addr) (n : Nat) (ts : List Addr) (gs : List (Int × Int)) (wy : Int), vs = [.ref t, .ref a, .int wy] ∧ (wy = 0 ∨ wy = 1) ∧ Tray H t g n ∧ GsAt H BB a ts gs ∧ (∀ b, BB b → Off t g b) ∧ Fit gs ∧ gs.length ≤ 60 ∧ n ≤ 800000000 ∧
  ∀ H' o us os, Kp (Off t g) H H' → Tray H' t g (n + 5000) → RmsAt H' (fun z => H z = none) o us os → os.flatten.Perm (gs.map (·.1)) → (wy = 0 → ∀ r ∈ os, eldUp gs r = none) → os.length ≤ 100 → Q (.ref o) H'
/-- placed one after another, the eldest first; in peace where the way is 0 -/
structure Pld (wy : Int) (L : List (Int × Int)) (rs : List (List Int)) : Prop where
  all : rs.flatten.Perm (L.map (·.1))
  calm : wy = 0 → ∀ r ∈ rs, Fine L r
theorem Pld.nil (wy : Int) (n : Nat) : Pld wy [] (List.replicate n []) := ⟨(Put.nil n).all, fun _ => (Put.nil n).calm⟩
theorem Pld.set {wy : Int} {L : List (Int × Int)} {rs : List (List Int)} {g : Int × Int} {k : Nat} {r : List Int} (h : Pld wy L rs) (hle : ∀ x ∈ L, g.1 ≤ x.1) (e : rs[k]? = some r) (hb : wy = 0 → (r.length : Int) ≤ g.2) : Pld wy (L ++ [g]) (rs.set k (r ++ [g.1])) := by
  refine ⟨?_, fun w q m => ?_⟩
  · rw [List.map_append]
    exact (set_flat g.1 e).trans ((List.Perm.cons g.1 h.all).trans (List.perm_append_singleton g.1 _).symm)
  · rcases List.mem_or_eq_of_mem_set m with m | rfl
    · exact (h.calm w q m).more fun x hx => List.mem_append_left _ hx
    · exact (h.calm w r (List.mem_of_getElem? e)).snoc hle (hb w)
theorem Pld.new {wy : Int} {L : List (Int × Int)} {rs : List (List Int)} {g : Int × Int} (h : Pld wy L rs) (hle : ∀ x ∈ L, g.1 ≤ x.1) (hp : 0 ≤ g.2) : Pld wy (L ++ [g]) (rs ++ [[g.1]]) := by
  refine ⟨?_, fun w q m => ?_⟩
  · rw [List.map_append, List.flatten_append]
    exact h.all.append (.refl _)
  · rcases List.mem_append.mp m with m | m
    · exact (h.calm w q m).more fun x hx => List.mem_append_left _ hx
    · rw [List.mem_singleton.mp m]
      exact Fine.snoc (r := []) .nil hle hp
def spL (wy : Int) (os : List (List Int)) (b : Int) (k : Nat) : List Nat := (List.range k).filter fun j => decide (0 < wy) || decide (((os.getD j []).length : Int) ≤ b)
theorem spL_succ (wy : Int) (os : List (List Int)) (b : Int) {k : Nat} {r : List Int} (e : os[k]? = some r) : spL wy os b (k + 1) = spL wy os b k ++ if (decide (0 < wy) || decide ((r.length : Int) ≤ b)) = true then [k] else [] := by
  unfold spL
  rw [List.range_succ, List.filter_append, List.filter_cons, List.filter_nil, List.getD_eq_getElem?_getD, e]
  rfl
theorem iteD {c : Bool} {A B : Prop} (h1 : c = true → A) (h2 : ¬ c = true → B) : if c = true then A else B := by
  by_cases h : c = true
  · rw [if_pos h]
    exact h1 h
  · rw [if_neg h]
    exact h2 h
theorem byAge_older {gs : List (Int × Int)} {i : Nat} {x : Int × Int} (e : (byAge gs)[i]? = some x) : ∀ y ∈ (byAge gs).take i, x.1 ≤ y.1 := fun y m => by
  have hk := (List.getElem?_eq_some_iff.mp e).1
  have hx := (List.getElem?_eq_some_iff.mp e).2
  have h1 : byAge gs = (byAge gs).take i ++ x :: (byAge gs).drop (i + 1) := by
    rw [← hx, ← List.drop_eq_getElem_cons hk, List.take_append_drop]
  have hs := byAge_sorted gs
  rw [h1] at hs
  exact (List.pairwise_append.mp hs).2.2 y m x List.mem_cons_self
theorem ptw : ∀ {xs ys : List (List Int)}, xs.length = ys.length → (∀ (j : Nat) (x y : List Int), xs[j]? = some x → ys[j]? = some y → x.Perm y) → xs.flatten.Perm ys.flatten
  | [], [], _, _ => .refl _
  | x :: xs, y :: ys, hl, h => by
    have h0 := h 0 x y rfl rfl
    have h2 := ptw (xs := xs) (ys := ys) (by simpa using hl) fun j a b e f => h (j + 1) a b (by simpa using e) (by simpa using f)
    rw [List.flatten_cons, List.flatten_cons]
    exact h0.append h2
  | [], _ :: _, hl, _ => by simp at hl
  | _ :: _, [], hl, _ => by simp at hl
def cnt (H : Hp) (u : Addr) : List Int := match H u with
  | some (.lst xs) => xs.map fun v => match v with | .int i => i | _ => 0
  | _ => []
theorem cnt_is {H : Hp} {u : Addr} {r : List Int} (e : H u = some (.lst (r.map V.int))) : cnt H u = r := by
  unfold cnt
  rw [e]
  show (r.map V.int).map _ = r
  rw [List.map_map]
  exact List.map_id' r
theorem cnt_all {H : Hp} {B : Addr → Prop} {o : Addr} {us : List Addr} {os : List (List Int)} (h : RmsAt H B o us os) : us.map (cnt H) = os := by
  refine List.ext_getElem? fun i => ?_
  rw [List.getElem?_map]
  cases e : us[i]? with
  | none =>
    have : os.length ≤ i := by
      rw [← h.len]
      exact List.getElem?_eq_none_iff.mp e
    rw [List.getElem?_eq_none this]
    rfl
  | some u =>
    have hi := at_lt e
    rw [h.len] at hi
    obtain ⟨r, er⟩ := at_some hi
    rw [er]
    show some (cnt H u) = some r
    rw [cnt_is (h.at' i u r e er)]
theorem refs_perm {ys : List V} {us : List Addr} (p : ys.Perm (us.map V.ref)) : ∃ us' : List Addr, ys = us'.map V.ref ∧ us'.Perm us := by
  have h1 : ys = (ys.map fun v => match v with | .ref a => a | _ => 0).map V.ref := by
    have : ∀ y ∈ ys, ∃ a, y = V.ref a := fun y m => by
      obtain ⟨a, _, rfl⟩ := List.mem_map.mp (p.mem_iff.mp m)
      exact ⟨a, rfl⟩
    clear p
    induction ys with
    | nil => rfl
    | cons y ys ih =>
      obtain ⟨a, rfl⟩ := this y List.mem_cons_self
      rw [List.map_cons, List.map_cons, ← ih fun z m => this z (List.mem_cons_of_mem _ m)]
  refine ⟨_, h1, ?_⟩
  have := p.map fun v : V => match v with | .ref a => a | _ => 0
  rw [List.map_map] at this
  rw [show us.map ((fun v : V => match v with | .ref a => a | _ => 0) ∘ V.ref) = us from List.map_id' us] at this
  exact this
theorem ints_perm {ys : List V} {r : List Int} (p : ys.Perm (r.map V.int)) : ∃ ms : List Int, ys = ms.map V.int ∧ ms.Perm r := by
  have h1 : ys = (ys.map fun v => match v with | .int i => i | _ => 0).map V.int := by
    have : ∀ y ∈ ys, ∃ i, y = V.int i := fun y m => by
      obtain ⟨a, _, rfl⟩ := List.mem_map.mp (p.mem_iff.mp m)
      exact ⟨a, rfl⟩
    clear p
    induction ys with
    | nil => rfl
    | cons y ys ih =>
      obtain ⟨a, rfl⟩ := this y List.mem_cons_self
      rw [List.map_cons, List.map_cons, ← ih fun z m => this z (List.mem_cons_of_mem _ m)]
  refine ⟨_, h1, ?_⟩
  have := p.map fun v : V => match v with | .int i => i | _ => 0
  rw [List.map_map] at this
  rw [show r.map ((fun v : V => match v with | .int i => i | _ => 0) ∘ V.int) = r from List.map_id' r] at this
  exact this
theorem spL_len (wy : Int) (os : List (List Int)) (b : Int) (k : Nat) : (spL wy os b k).length ≤ k := by
  unfold spL
  refine Nat.le_trans (List.length_filter_le _ _) ?_
  rw [List.length_range]
  exact Nat.le_refl _
theorem spL_mem {wy : Int} {os : List (List Int)} {b : Int} {k j : Nat} (h : j ∈ spL wy os b k) : j < k ∧ (wy = 0 → ((os.getD j []).length : Int) ≤ b) := by
  unfold spL at h
  rw [List.mem_filter] at h
  refine ⟨List.mem_range.mp h.1, fun w => ?_⟩
  have h2 := h.2
  rw [w] at h2
  exact of_decide_eq_true h2
theorem ok__law_parted (A : At K mg "_law_parted" P__law_parted s__law_parted) (B : Bi mg) (D__law_draw : Df P w K mg base 1 "_law_draw" P__law_draw s__law_draw sp__law_draw)
    (D__law_shuffled : Df P w K mg base 2 "_law_shuffled" P__law_shuffled s__law_shuffled (sp__law_shuffled K)) : Df P w K mg base 3 "_law_parted" P__law_parted s__law_parted sp__law_parted := by
  refine A.df fun f fd F => F.ok sc__law_parted (fun vs H Q E h => ?_) (fun cdv AA outer s H vs Q E hr h => ?_)
  · obtain ⟨_, _, _, _, _, _, _, _, rfl, _⟩ := h
    rfl
  · obtain ⟨BB, t, g, a, n, ts, gs, wy, rfl, hwy, hT, hG, hBB, hF, hgl, hn, q⟩ := h
    have nd := sc__law_parted.nd
    refine ⟨_, (pss_cons (ps_set (i := 3) nd rfl (.inr rfl) (pe_lc (own := [("turn", 8)]) (tt := tYes) rfl nd (pi_range1 (by rfl) B.range (pa_cons (pe_df D__law_draw (hr.mono (by decide)) (by rfl) (pa_cons (pv 0) (pa_cons pe_int pa_nil))) pa_nil)) (blkOk_by (N := N__law_parted) (sc := defScope s__law_parted) (by decide +kernel)) (fun _ _ _ _ _ => (pg_name (i := 8) nd rfl (.inl rfl))) (fun _ _ _ _ _ => pts_nil) (fun _ _ _ _ _ => (pe_lst pa_nil))))
    (pss_cons (ps_for PassesOwn.never rfl (pi_list (pe_revL (pe_callB cr_sortedPO (by rfl) B.sorted (by decide +kernel) (pa_cons (pv 1) pa_nil)))) (pg_tup (by rfl) (pgs_cons (pg_name (i := 4) nd rfl (.inl rfl)) (pgs_cons (pg_name (i := 5) nd rfl (.inr rfl)) pgs_nil))) (pss_cons (ps_set (i := 6) nd rfl (.inl rfl) (pe_op op_cat (pe_lc (own := [("at", 7)]) rfl nd (pi_range1 (by rfl) B.range (pa_cons (pe_callB call_len_seq (by rfl) B.len PySem.boot_len (pa_cons (pv 3) pa_nil)) pa_nil)) (blkOk_by (N := N__law_parted) (sc := defScope s__law_parted) (by decide +kernel)) (fun _ _ _ _ _ => (pg_name (i := 7) nd rfl (.inl rfl))) (fun _ _ _ _ _ => (pts_one (PW.pt (pw_or (pt_cmpR op_gt (pv 2) pe_int (nomark _)) (pw_or1 (pt_cmpR op_le (pe_callB (lenK K) (by rfl) B.len PySem.boot_len (pa_cons (pe_ix (ixlK K) (pv 3) (pv 7) (fun _ _ => rfl)) pa_nil)) (pv 5) (nomark _))))))) (fun _ _ _ _ _ => (pv 7))) (pe_lst (pa_cons (pe_callB call_len_seq (by rfl) B.len PySem.boot_len (pa_cons (pv 3) pa_nil)) pa_nil)))) (pss_cons (ps_set (i := 7) nd rfl (.inl rfl) (pe_ix ix_list (pv 6) (pe_ix ix_list (pe_lst (pa_cons pe_int (pa_cons (pe_op op_sub (pe_callB call_len_seq (by rfl) B.len PySem.boot_len (pa_cons (pv 6) pa_nil)) pe_int) (pa_cons (pe_df D__law_draw (hr.mono (by decide)) (by rfl) (pa_cons (pv 0) (pa_cons (pe_callB call_len_seq (by rfl) B.len PySem.boot_len (pa_cons (pv 6) pa_nil)) pa_nil))) pa_nil)))) (pe_df D__law_draw (hr.mono (by decide)) (by rfl) (pa_cons (pv 0) (pa_cons pe_int pa_nil))) (fun _ _ => rfl)) (fun _ _ => rfl))) (pss_cons (ps_if (pt_cmpR op_eq (pv 7) (pe_callB call_len_seq (by rfl) B.len PySem.boot_len (pa_cons (pv 3) pa_nil)) (nomark _)) (pss_one (ps_expr (pe_bm PySem.F.plainAttrs_list PySem.F.slot_list_append PySem.F.type_list_append mt_append (pv 3) (pa_cons (pe_lst pa_nil) pa_nil)))) pss_nil) (pss_one (ps_expr (pe_bm PySem.F.plainAttrs_list PySem.F.slot_list_append PySem.F.type_list_append mt_append (pe_ix ix_list (pv 3) (pv 7) (fun _ _ => rfl)) (pa_cons (pv 4) pa_nil))))))))
    (pss_one (ps_ret (pe_lc (own := [("room", 9)]) (tt := tYes) rfl nd (pi_list (pe_df D__law_shuffled (hr.mono (by decide)) (by rfl) (pa_cons (pv 0) (pa_cons (pv 3) pa_nil)))) (blkOk_by (N := N__law_parted) (sc := defScope s__law_parted) (by decide +kernel)) (fun _ _ _ _ _ => (pg_name (i := 9) nd rfl (.inl rfl))) (fun _ _ _ _ _ => pts_nil) (fun _ _ _ _ _ => (pe_df D__law_shuffled (hr.mono (by decide)) (by rfl) (pa_cons (pv 0) (pa_cons (pv 9) pa_nil))))))))), ?_⟩
    refine ⟨.ref t, rfl, t, g, n, 3, rfl, hT, by omega, by decide, by decide, fun H1 r1 k1 T1 a1 b1 => ?_⟩
    obtain ⟨e, rfl⟩ : ∃ e : Nat, r1 = (e : Int) := ⟨r1.toNat, by omega⟩
    have hG1 := (hG.weaken hBB).keep k1
    refine ⟨_, rfl, by omega, by omega, fun D nD => ?_⟩
    refine lc_it walk_range (fun i H2 => Same H1 H2 ∧ ∃ lts, RmsAt H2 (fun z => H1 z = none) D lts (List.replicate i [])) ⟨same_new nD, [], RmsAt.nil upd_same nD⟩ (fun _ _ _ _ => trivial) (fun i x H2 H5 hi hW hY => ?_) (fun H5 hW => ?_)
    · obtain ⟨sm, lts, hL⟩ := hW
      obtain ⟨rfl, rfl⟩ := hY
      refine ⟨rfl, Nat.zero_le _, fun c nc => ?_⟩
      have ncD : D ≠ c := ne_of_none hL.top nc
      refine ⟨_, by rw [upd_ne ncD]; exact hL.top, ils (by rw [List.length_map, hL.len, List.length_replicate]; omega), Same.mut (Same.trans sm (same_new nc)) nD, lts ++ [c], ?_⟩
      rw [List.replicate_succ']
      exact hL.push (r := []) nc (sm.free nc)
    obtain ⟨s5, lts, hL⟩ := hW
    have T5 := T1.keep s5
    have hG5 := hG1.same s5
    have he : (((e : Int) - 0).toNat) = e := by omega
    -- sorted(some)[::-1]
    refine ⟨.ref a, rfl, a, _, prOf H5, rfl, hG5.seq, hG5.mem, fun ys p hsd hb np => ?_⟩
    have hys := sorted_prs hF hG5.prs hsd hb
    refine ⟨p, ys, rfl, SqL.of upd_same, fun p2 np2 => ?_⟩
    refine ⟨p2, rfl, ⟨_, SqL.of upd_same⟩, ?_⟩
    have s6 : Same H5 (upd (upd H5 p (.lst ys)) p2 (.lst ys.reverse)) := (same_new np).trans (same_new np2)
    obtain ⟨ws, hS6, huy, hwt⟩ := hG5.sortedN s6 ((List.reverse_perm ys).trans hb.perm) hys (upd_same (o := .lst ys.reverse))
    have ne2 : ∀ z o, H5 z = some o → z ≠ p2 := fun z o e4 z2 => by
      have := (same_new (o := .lst ys) np) _ _ e4
      rw [z2, np2] at this
      cases this
    have op2 : Off t g p2 := (T5.keep (same_new (o := .lst ys) np)).off np2
    have T6 := T5.keep s6
    generalize upd (upd H5 p (.lst ys)) p2 (.lst ys.reverse) = H6 at s6 hS6 T6 ⊢
    have hLt : ∀ u ∈ lts, ∃ xs, H5 u = some (.lst xs) := fun u m => by
      obtain ⟨i, e4⟩ := List.mem_iff_getElem?.mp m
      have hi := at_lt e4
      rw [hL.len] at hi
      obtain ⟨r, er⟩ := at_some hi
      exact ⟨_, hL.at' i u r e4 er⟩
    let Bz : Addr → Prop := fun z => z = D ∨ z ∈ lts ∨ H6 z = none
    have hL6 : RmsAt H6 Bz D lts (List.replicate ((e : Int) - 0).toNat []) := hL.newTop (fun b u _ e4 => s6 _ _ e4) (fun b hb => hb.elim .inl fun m => .inr (.inl m))
    have offB : ∀ z, Bz z → Off t g z := fun z hz => by
      rcases hz with rfl | m | hz
      · exact T1.off nD
      · exact T1.off (hL.b z m)
      · exact T6.off hz
    have notB : ∀ z o, H6 z = some o → z ≠ D → z ∉ lts → ¬ Bz z := fun z o e4 h1 h2 hz => by
      rcases hz with h | h | h
      · exact h1 h
      · exact h2 h
      · rw [h] at e4
        cases e4
    have eD5 := hL.top
    have p2D : p2 ≠ D := (ne2 D _ eD5).symm
    have p2l : p2 ∉ lts := fun m => by
      obtain ⟨xs, e4⟩ := hLt p2 m
      exact ne2 p2 _ e4 rfl
    have p2B : ¬ Bz p2 := notB p2 _ hS6.top p2D p2l
    have tupB : ∀ z xs, H6 z = some (.tup xs) → ¬ Bz z := fun z xs e4 => notB z _ e4 (fun h => by
      have := s6 _ _ eD5
      rw [← h, e4] at this
      cases this) (fun m => by
      obtain ⟨ys', e7⟩ := hLt z m
      have := s6 _ _ e7
      rw [e4] at this
      cases this)
    have hlen : (byAge gs).length ≤ 60 := by rw [byAge_length]; exact hgl
    have hP0 : Pld wy [] (List.replicate ((e : Int) - 0).toNat []) := Pld.nil _ _
    refine for_it (walk_list (xs := ws.map V.ref)) (fun i σ H2 => ∃ us os y4 y5 y6 y7, σ = [some (.ref t), some (.ref a), some (.int wy), some (.ref D), y4, y5, y6, y7, none, none] ∧ Kp (fun z => ¬ Bz z ∧ Off t g z) H6 H2 ∧ Tray H2 t g (n + 1 + 2 * i) ∧ RmsAt H2 Bz D us os ∧ Pld wy ((byAge gs).take i) os ∧ os.length ≤ 3 + i)
      ⟨lts, _, none, none, none, none, rfl, Kp.refl, T6, hL6, hP0, by rw [List.length_replicate]; omega⟩ (fun i σ H2 _ hW => ?_) (fun i x σ H2 H3 hi hW hY => ?_) (fun σ H2 hW => ?_)
    · obtain ⟨_, _, _, _, _, _, _, kp, _⟩ := hW
      exact SqL.of (kp _ _ ⟨p2B, op2⟩ hS6.top)
    · obtain ⟨us, os, y4, y5, y6, y7, rfl, kp, T3, hR, hP, hol⟩ := hW
      obtain ⟨rfl, hx⟩ := hY
      obtain ⟨u, x, rfl, ex, eu⟩ := hS6.get hx
      have mu : u ∈ ws := by
        rw [List.getElem?_map] at hx
        cases e4 : ws[i]? with
        | none => rw [e4] at hx; cases hx
        | some u' =>
          rw [e4] at hx
          injection hx with hx
          injection hx with hx
          exact hx ▸ List.mem_of_getElem? e4
      have eu3 := kp _ _ ⟨tupB u _ eu, hG5.b u (hwt u mu)⟩ eu
      have hi60 : i < 60 := by have := at_lt ex; omega
      refine ⟨u, _, rfl, SqT.of eu3, rfl, .int x.1, _, rfl, .int x.2, _, rfl, rfl, ?_⟩
      -- spots
      refine ⟨.ref D, rfl, D, _, rfl, .inl hR.seq, _, rfl, by omega, by rw [List.length_map, hR.len]; omega, fun D1 nD1 => ?_⟩
      refine lc_it walk_range (fun k H4 => Same H3 H4 ∧ H4 D1 = some (.lst ((spL wy os x.2 k).map fun j : Nat => V.int (j : Int)))) ⟨same_new nD1, upd_same⟩ (fun _ _ _ _ => trivial) (fun k y H4 H5 hk hW hY => ?_) (fun H4 hW => ?_)
      · obtain ⟨sm, e4⟩ := hW
        obtain ⟨rfl, hy⟩ := hY
        obtain rfl := rg0 hy
        rw [List.length_map, hR.len] at hk
        have hk : k < os.length := by omega
        obtain ⟨r, er⟩ := at_some hk
        obtain ⟨uk, euk⟩ := at_some (show k < us.length by rw [hR.len]; exact hk)
        have hR4 := hR.same sm
        have eur := hR4.at' k uk r euk er
        have hsl := spL_len wy os x.2 k
        have yes : (decide (0 < wy) || decide ((r.length : Int) ≤ x.2)) = true → ∃ acc, H5 D1 = some (.lst acc) ∧ acc.length < sizeLine ∧ (Same H3 (upd H5 D1 (.lst (acc ++ [V.int k]))) ∧ upd H5 D1 (.lst (acc ++ [V.int k])) D1 = some (.lst ((spL wy os x.2 (k + 1)).map fun j : Nat => V.int (j : Int)))) := fun hb2 => by
          refine ⟨_, e4, ils (by rw [List.length_map]; omega), Same.mut sm nD1, ?_⟩
          rw [upd_same, spL_succ wy os x.2 er, if_pos hb2, List.map_append]
          rfl
        refine ⟨rfl, .int wy, rfl, _, _, rfl, rfl, _, rfl, ?_⟩
        rcases hwy with rfl | rfl
        · refine iteX rfl ?_
          refine ⟨.ref D, rfl, .int k, rfl, D, _, _, .ref uk, rfl, rfl, hR4.seq, atI_nat (j := k) (by rw [List.getElem?_map, euk]; rfl), uk, _, rfl, .inl (SqL.of eur), .int x.2, rfl, _, _, rfl, rfl, _, rfl, ?_⟩
          rw [List.length_map]
          refine iteD (fun hb2 => ?_) (fun hb2 => ?_)
          · exact ⟨.int k, rfl, yes hb2⟩
          · refine ⟨sm, ?_⟩
            rw [spL_succ 0 os x.2 er, if_neg (show ¬ (decide ((0 : Int) < 0) || decide ((r.length : Int) ≤ x.2)) = true from hb2), List.append_nil]
            exact e4
        · exact iteT (iteT ⟨.int k, rfl, yes rfl⟩)
      · obtain ⟨sm, e4⟩ := hW
        rw [List.length_map, hR.len, Int.toNat_natCast] at e4
        have hsl := spL_len wy os x.2 os.length
        have hR4 := hR.same sm
        have kp4 := kp.trans (Kp.of sm)
        have T4 := T3.keep sm
        refine ⟨.ref D, rfl, D, _, rfl, .inl hR4.seq, (by show 1 ≤ sizeLine; decide), fun z nz => ?_⟩
        rw [List.length_map, hR.len]
        have sz := same_new (o := .lst [.int (os.length : Int)]) nz
        refine ⟨D1, z, _, _, rfl, rfl, sz _ _ e4, upd_same, ile (by rw [List.length_map]; show _ + 1 ≤ _; omega), fun Sx nS => ?_⟩
        have eS : ((spL wy os x.2 os.length).map fun j : Nat => V.int (j : Int)) ++ [V.int (os.length : Int)] = (spL wy os x.2 os.length ++ [os.length]).map fun j : Nat => V.int (j : Int) := by rw [List.map_append]; rfl
        rw [eS]
        have hmem : ∀ j ∈ spL wy os x.2 os.length ++ [os.length], j ≤ os.length ∧ (j < os.length → wy = 0 → ((os.getD j []).length : Int) ≤ x.2) := fun j m => by
          rcases List.mem_append.mp m with m | m
          · have := spL_mem m
            exact ⟨by omega, fun _ => this.2⟩
          · rw [List.mem_singleton.mp m]
            exact ⟨Nat.le_refl _, fun h => absurd h (Nat.lt_irrefl _)⟩
        have hm1 : 0 < (spL wy os x.2 os.length ++ [os.length]).length := by rw [List.length_append]; show 0 < _ + 1; omega
        have hm2 : (spL wy os x.2 os.length ++ [os.length]).length ≤ 64 := by rw [List.length_append]; show _ + 1 ≤ _; omega
        generalize spL wy os x.2 os.length ++ [os.length] = sp at hmem hm1 hm2 ⊢
        have s45 := sz.trans (same_new (o := .lst (sp.map fun j : Nat => V.int (j : Int))) nS)
        have eSx : (upd (upd H4 z (.lst [.int (os.length : Int)])) Sx (.lst (sp.map fun j : Nat => V.int (j : Int)))) Sx = some (.lst (sp.map fun j : Nat => V.int (j : Int))) := upd_same
        have oS : Off t g Sx := (T4.keep sz).off nS
        generalize upd (upd H4 z (.lst [.int (os.length : Int)])) Sx (.lst (sp.map fun j : Nat => V.int (j : Int))) = H5' at s45 eSx ⊢
        have hR5 := hR4.same s45
        have kp5 := kp4.trans (Kp.of s45)
        have T5' := T4.keep s45
        -- at
        refine ⟨.ref Sx, rfl, .ref Sx, rfl, Sx, _, rfl, .inl (SqL.of eSx), _, _, rfl, rfl, .ref t, rfl, .ref Sx, rfl, Sx, _, rfl, .inl (SqL.of eSx), t, g, _, _, rfl, T5', by omega, by rw [List.length_map]; omega, ?_, fun H7 r7 k7 T7 a7 b7 => ⟨(by show 3 ≤ sizeLine; decide), fun l nl => ?_⟩⟩
        · rw [List.length_map]
          exact Int.lt_of_le_of_lt (show (sp.length : Int) ≤ 64 by omega) (by decide)
        rw [List.length_map] at b7
        have ol : Off t g l := T7.off nl
        rw [List.length_map]
        refine ⟨.ref t, rfl, t, g, _, 3, rfl, T7.mut ol, by omega, by decide, by decide, fun H8 r8 k8 T8 a8 b8 => ?_⟩
        obtain ⟨ix, hv, i0, i1⟩ := pick3 (P := fun v => 0 ≤ v ∧ v < (sp.length : Int)) (a := 0) (b := (sp.length : Int) - 1) (c := r7) a8 b8 ⟨by omega, by omega⟩ ⟨by omega, by omega⟩ ⟨a7, b7⟩
        have k58 : Kp (Off t g) H5' H8 := (k7.new nl).trans k8
        refine ⟨l, _, _, _, rfl, rfl, SqL.of (k8 _ _ ol upd_same), hv, ?_⟩
        obtain ⟨v, hv2, mv⟩ := at_pick (xs := sp.map fun j : Nat => V.int (j : Int)) i0 (by rw [List.length_map]; exact i1)
        obtain ⟨at', mat, rfl⟩ := List.mem_map.mp mv
        obtain ⟨hat1, hat2⟩ := hmem at' mat
        refine ⟨Sx, _, _, _, rfl, rfl, SqL.of (k58 _ _ oS eSx), hv2, ?_⟩
        have hR8 : RmsAt H8 Bz D us os := hR5.keep fun z o hz e9 => k58 z o (offB z hz) e9
        have kp8 : Kp (fun z => ¬ Bz z ∧ Off t g z) H6 H8 := kp5.trans fun z o hz e9 => k58 z o hz.2 e9
        have hx2 : 0 ≤ x.2 := hF.byAge.pos x (List.mem_of_getElem? ex)
        have hold := byAge_older ex
        have etk := take_snoc ex
        have fin : ∀ {H9 : Hp} {us' : List Addr} {os' : List (List Int)} {v : Addr} {r : List Int}, Kp (fun z => ¬ Bz z ∧ Off t g z) H6 H9 → Tray H9 t g (n + 1 + 2 * i + 1 + 1) → RmsAt H9 Bz D us' os' → us'[at']? = some v → Pld wy ((byAge gs).take (i + 1)) (os'.set at' (r ++ [x.1])) → os'.length ≤ 3 + (i + 1) →
            ∃ us os y4' y5' y6' y7', [some (V.ref t), some (.ref a), some (.int wy), some (.ref D), some (.int x.1), some (.int x.2), some (.ref Sx), some (.int (at' : Int)), none, none] = [some (V.ref t), some (.ref a), some (.int wy), some (.ref D), y4', y5', y6', y7', none, none] ∧ Kp (fun z => ¬ Bz z ∧ Off t g z) H6 (upd H9 v (.lst (r.map V.int ++ [.int x.1]))) ∧ Tray (upd H9 v (.lst (r.map V.int ++ [.int x.1]))) t g (n + 1 + 2 * (i + 1)) ∧ RmsAt (upd H9 v (.lst (r.map V.int ++ [.int x.1]))) Bz D us os ∧ Pld wy ((byAge gs).take (i + 1)) os ∧ os.length ≤ 3 + (i + 1) := by
          intro H9 us' os' v r k9 T9 hR9 ev hP' hl'
          have bv := hR9.b v (List.mem_of_getElem? ev)
          refine ⟨us', os'.set at' (r ++ [x.1]), _, _, _, _, rfl, k9.mut (fun hz => hz.1 bv), (T9.mut (offB v bv)).more (by omega), ?_, hP', by rw [List.length_set]; exact hl'⟩
          have z := hR9.set ev (r ++ [x.1])
          rw [List.map_append] at z
          exact z
        refine ⟨_, rfl, .ref D, rfl, D, _, rfl, .inl hR8.seq, rfl, _, rfl, ite2 (fun e => ?_) (fun e => ?_)⟩
        · have e := V.int.inj (of_decide_eq_true e)
          rw [List.length_map, hR.len] at e
          have e : at' = os.length := by omega
          refine ⟨.ref D, rfl, .inl ⟨rfl, _, hR8.seq⟩, Nat.zero_le _, fun nr nnr => ?_⟩
          have nrD : D ≠ nr := ne_of_none hR8.top nnr
          refine ⟨D, _, _, rfl, rfl, (by rw [upd_ne nrD]; exact hR8.top), ils (by rw [List.length_map, hR.len]; omega), ?_⟩
          have onr : Off t g nr := T8.off nnr
          have bnr : Bz nr := by
            by_cases hb3 : Bz nr
            · exact hb3
            · exfalso
              cases e9 : H6 nr with
              | none => exact hb3 (.inr (.inr e9))
              | some o9 =>
                have := kp8 nr o9 ⟨hb3, onr⟩ e9
                rw [nnr] at this
                cases this
          have hR9 := hR8.push (r := []) nnr bnr
          have k9 : Kp (fun z => ¬ Bz z ∧ Off t g z) H6 (upd (upd H8 nr (.lst [])) D (.lst (us.map V.ref ++ [.ref nr]))) := (kp8.mut (fun hz => hz.1 bnr)).mut (fun hz => hz.1 (.inl rfl))
          have T9 : Tray (upd (upd H8 nr (.lst [])) D (.lst (us.map V.ref ++ [.ref nr]))) t g (n + 1 + 2 * i + 1 + 1) := (T8.mut onr).mut (offB D (.inl rfl))
          have et : (us ++ [nr])[at']? = some nr := by
            rw [e, ← hR.len, List.getElem?_append_right (Nat.le_refl _), Nat.sub_self]
            rfl
          have er : (os ++ [[]])[at']? = some [] := by
            rw [e, List.getElem?_append_right (Nat.le_refl _), Nat.sub_self]
            rfl
          have eu9 := hR9.at' _ _ _ et er
          refine ⟨.ref D, rfl, _, rfl, D, _, _, .ref nr, rfl, rfl, SqL.of (by rw [upd_same]), atI_nat (j := at') ?_, .inl ⟨rfl, _, SqL.of eu9⟩, .int x.1, rfl, nr, _, _, rfl, rfl, eu9, ils (Nat.zero_le _), ?_⟩
          · have z := congrArg (Option.map V.ref) et
            rw [← List.getElem?_map, List.map_append] at z
            exact z
          · have es : (os ++ [[]]).set at' ([] ++ [x.1]) = os ++ [[x.1]] := by
              rw [e, List.set_append_right _ _ (Nat.le_refl _), Nat.sub_self]
              rfl
            refine fin (r := []) k9 T9 hR9 et ?_ (by rw [List.length_append]; show _ + 1 ≤ _; omega)
            rw [es, etk]
            exact hP.new hold hx2
        · have e' : ¬ ((at' : Int) = ((os.length : Nat) : Int)) := fun z => e (decide_eq_true (by rw [List.length_map, hR.len, z]))
          have hlt : at' < os.length := by omega
          obtain ⟨r, er⟩ := at_some hlt
          obtain ⟨v, ev⟩ := at_some (show at' < us.length by rw [hR.len]; exact hlt)
          have evr := hR8.at' _ _ _ ev er
          have hb := hat2 hlt
          rw [List.getD_eq_getElem?_getD, er] at hb
          have hrl : r.length ≤ 100 := by
            have h1 := room_le_flat os r (List.mem_of_getElem? er)
            rw [hP.all.length_eq, List.length_map, List.length_take] at h1
            omega
          refine ⟨.ref D, rfl, _, rfl, D, _, _, .ref v, rfl, rfl, hR8.seq, atI_nat (j := at') (by rw [List.getElem?_map, ev]; rfl), .inl ⟨rfl, _, SqL.of evr⟩, .int x.1, rfl, v, _, _, rfl, rfl, evr, ils (by rw [List.length_map]; omega), ?_⟩
          refine fin kp8 T8 hR8 ev ?_ (by omega)
          rw [etk]
          exact hP.set hold er hb
    · obtain ⟨us, os, y4, y5, y6, y7, rfl, kp, T2, hR, hP, hol⟩ := hW
      have hwl : ws.length = (byAge gs).length := hS6.len
      rw [List.length_map, hwl, List.take_length] at hP
      rw [List.length_map, hwl] at T2 hol
      have hfl : os.flatten.length ≤ 60 := by
        rw [hP.all.length_eq, List.length_map]
        exact hlen
      refine ⟨.ref t, rfl, .ref D, rfl, t, g, _, D, us.map V.ref, rfl, T2, hR.seq, by rw [List.length_map, hR.len]; omega, by rw [List.length_map, hR.len]; omega, fun H8 o' ys' k8 T8 no' e8 pm => ?_⟩
      rw [List.length_map, hR.len] at T8
      obtain ⟨us', rfl, pm'⟩ := refs_perm pm
      have hR8 : RmsAt H8 Bz D us os := hR.keep fun z x hz e9 => k8 z x (offB z hz) e9
      have hcnt := cnt_all hR8
      have pmo : (us'.map (cnt H8)).Perm os := by
        rw [← hcnt]
        exact pm'.map _
      have hu8 : ∀ u ∈ us', H8 u = some (.lst ((cnt H8 u).map V.int)) ∧ Off t g u := fun u m => by
        have m2 := pm'.mem_iff.mp m
        obtain ⟨i, e9⟩ := List.mem_iff_getElem?.mp m2
        have hi := at_lt e9
        rw [hR8.len] at hi
        obtain ⟨r, er⟩ := at_some hi
        have := hR8.at' i u r e9 er
        rw [cnt_is this]
        exact ⟨this, offB u (hR8.b u m2)⟩
      have hcl : ∀ u ∈ us', (cnt H8 u).length ≤ 60 := fun u m => by
        have h1 := room_le_flat os (cnt H8 u) (pmo.mem_iff.mp (List.mem_map.mpr ⟨u, m, rfl⟩))
        omega
      have hul : us'.length ≤ 63 := by
        rw [pm'.length_eq, hR.len]
        omega
      have oo' : Off t g o' := T2.off no'
      refine ⟨o', rfl, ⟨_, SqL.of e8⟩, fun D3 nD3 => ?_⟩
      have oD3 := T8.off nD3
      have hoD : o' ≠ D3 := ne_of_none e8 nD3
      refine lc_it (walk_list (xs := us'.map V.ref)) (fun k H9 => Kp (Liv H8 (Off t g)) H8 H9 ∧ Tray H9 t g (n + 1 + 2 * 60 + 63 + 60 * k) ∧ ∃ cs os3, RmsAt H9 (fun z => H8 z = none) D3 cs os3 ∧ os3.length = k ∧ ∀ (j : Nat) (r3 : List Int) (u : Addr), os3[j]? = some r3 → us'[j]? = some u → r3.Perm (cnt H8 u))
        ⟨Kp.of (same_new nD3), (T8.mut oD3).more (by omega), [], [], RmsAt.nil upd_same nD3, rfl, fun j r3 u e9 _ => by simp at e9⟩ (fun k H9 _ hW => SqL.of (hW.1 _ _ (Liv.of e8 oo') e8)) (fun k x H9 H10 hk hW hY => ?_) (fun H9 hW => ?_)
      · obtain ⟨k9, T9, cs, os3, hL3, hl3, hp3⟩ := hW
        obtain ⟨rfl, hx⟩ := hY
        rw [List.length_map] at hk
        obtain ⟨u, eu⟩ := at_some hk
        rw [List.getElem?_map, eu] at hx
        obtain rfl : V.ref u = x := Option.some.inj hx
        have mu := List.mem_of_getElem? eu
        obtain ⟨eu8, ou⟩ := hu8 u mu
        have eu9 := k9 _ _ (Liv.of eu8 ou) eu8
        have hc60 := hcl u mu
        refine ⟨rfl, .ref t, rfl, .ref u, rfl, t, g, _, u, _, rfl, T9, SqL.of eu9, by rw [List.length_map]; omega, by rw [List.length_map]; omega, fun H11 o11 zs k11 T11 no11 e11 pm11 => ?_⟩
        rw [List.length_map] at T11
        obtain ⟨ms, rfl, pms⟩ := ints_perm pm11
        have o11f : Off t g o11 := T9.off no11
        have n8 : H8 o11 = none := by
          cases e12 : H8 o11 with
          | none => rfl
          | some x12 => exact absurd (k9 _ _ (Liv.of e12 o11f) e12) (by rw [no11]; simp)
        have hL11 : RmsAt H11 (fun z => H8 z = none) D3 cs os3 := hL3.keep fun z x12 hz e12 => k11 z x12 (T8.off hz) e12
        have h11D : o11 ≠ D3 := fun z => by
          have := hL3.top
          rw [← z, no11] at this
          cases this
        have h11c : o11 ∉ cs := fun m => by
          obtain ⟨j, e12⟩ := List.mem_iff_getElem?.mp m
          have hj := at_lt e12
          rw [hL3.len] at hj
          obtain ⟨r', er'⟩ := at_some hj
          have := hL3.at' j o11 r' e12 er'
          rw [no11] at this
          cases this
        refine ⟨_, hL11.top, ils (by rw [List.length_map, hL3.len, hl3]; omega), (k9.trans k11.liv).mut (Liv.no nD3), (T11.mut oD3).more (by omega), cs ++ [o11], os3 ++ [ms], hL11.addN e11 n8 h11c h11D, by rw [List.length_append, hl3]; rfl, fun j r3 u3 e12 e13 => ?_⟩
        by_cases hj : j < os3.length
        · rw [List.getElem?_append_left hj] at e12
          exact hp3 j r3 u3 e12 e13
        · have hj2 := at_lt e12
          rw [List.length_append, List.length_singleton] at hj2
          have : j = os3.length := by omega
          subst this
          rw [List.getElem?_append_right (Nat.le_refl _), Nat.sub_self] at e12
          obtain rfl : ms = r3 := Option.some.inj e12
          rw [hl3, eu] at e13
          obtain rfl := Option.some.inj e13
          exact pms
      · obtain ⟨k9, T9, cs, os3, hL3, hl3, hp3⟩ := hW
        rw [List.length_map] at hl3 T9
        have hKH8 : Kp (Off t g) H H8 := fun z x hz e9 => by
          have e1 := k1 z x hz e9
          have e6 := s6 _ _ (s5 _ _ e1)
          refine k8 z x hz (kp z x ⟨fun hb3 => ?_, hz⟩ e6)
          rcases hb3 with rfl | m | hn6
          · rw [nD] at e1
            cases e1
          · rw [hL.b z m] at e1
            cases e1
          · rw [hn6] at e6
            cases e6
        have hpw := ptw (xs := os3) (ys := us'.map (cnt H8)) (by rw [hl3, List.length_map]) fun j x y e9 e10 => by
          rw [List.getElem?_map] at e10
          cases eu : us'[j]? with
          | none => rw [eu] at e10; cases e10
          | some u =>
            rw [eu] at e10
            obtain rfl := Option.some.inj e10
            exact hp3 j x u e9 eu
        refine q H9 D3 cs os3 (fun z x hz e9 => k9 z x (Liv.of (hKH8 z x hz e9) hz) (hKH8 z x hz e9)) (T9.more (by omega)) (hL3.weaken fun z hz => hKH8.none (T8.off hz) hz) ?_ (fun w r m => ?_) (by rw [hl3]; omega)
        · exact (hpw.trans pmo.flatten).trans (hP.all.trans ((byAge_perm gs).map _))
        · obtain ⟨j, ej⟩ := List.mem_iff_getElem?.mp m
          have hj := at_lt ej
          rw [hl3] at hj
          obtain ⟨u, eu⟩ := at_some hj
          have hpr := hp3 j r u ej eu
          have hfn := hP.calm w _ (pmo.mem_iff.mp (List.mem_map.mpr ⟨u, List.mem_of_getElem? eu, rfl⟩))
          exact fine_calm hF (hfn.more fun g hg => (byAge_perm gs).mem_iff.mp hg) hpr
end
end El
namespace El
open PySem PySem.Spec PyProof.Rows L2
theorem with_key {W : WX} {G : Prop} {Pk : Value → Option Addr → Hp → Prop} {σ : L2.St} (main : (∀ c d H1, Pk c d H1 → W c d σ H1) → G) (k : ∀ c d H1, Pk c d H1 → W c d σ H1) : G := main k
theorem with_heap {R : Hp → Prop} {G : Prop} {Pk : Hp → Prop} (main : (∀ H, Pk H → R H) → G) (k : ∀ H, Pk H → R H) : G := main k
/-- an error of the class at C, as the suite asks -/
structure KdZ (K : PySem.W.Frag) (mg : Str → Option Value) (C0 CG CS CR CC CT C : Addr) (nm : Str) : Prop where
  ex : ∃ (x : Str) (fI : Addr), Own K mg x C fI
  te : PySem.W.exmOne K (.ref C) (.ref C0) = some true
  kd : KdF K CG CS CR CC CT C nm
/-- what is told of a refusal: its word, and a number or None -/
def whV : Option Int → V
  | none => .non
  | some z => .int z
def TolN (H : Hp) (v : V) : Option (Str × Option Int) → Prop
  | none => v = .non
  | some (w, z) => ∃ r, v = .ref r ∧ H r = some (.lst [.str w, whV z, .bl true])
theorem TolN.keep {H H' : Hp} {v : V} {D : Option (Str × Option Int)} (h : TolN H v D) (k : Same H H') : TolN H' v D := by
  cases D with
  | none => exact h
  | some d =>
    obtain ⟨r, e, er⟩ := h
    exact ⟨r, e, k _ _ er⟩
theorem TolN.alk {H : Hp} {v u : V} {D : Option (Str × Option Int)} (h : TolN H v D) (k : TolN H u D) : Alk H 1 v u := by
  cases D with
  | none =>
    obtain rfl : v = .non := h
    obtain rfl : u = .non := k
    exact .inl ⟨rfl, rfl⟩
  | some d =>
    obtain ⟨w, z⟩ := d
    obtain ⟨r, rfl, er⟩ := h
    obtain ⟨r2, rfl, er2⟩ := k
    refine .inr ⟨r, r2, _, _, rfl, rfl, .inl ⟨er, er2⟩, rfl, by show 3 ≤ 100000; decide, fun i x y ex ey => ?_⟩
    obtain rfl : x = y := Option.some.inj (ex.symm.trans ey)
    match i, ex with
    | 0, ex => cases ex; exact ⟨rfl, rfl⟩
    | 1, ex => cases ex; exact ⟨by cases z <;> rfl, rfl⟩
    | 2, ex => cases ex; exact ⟨rfl, rfl⟩
    | i + 3, ex => cases ex
/-- what an arrangement is to be refused with -/
def ArrIs (gs : List (Int × Int)) (rs : List (List Int)) (D : Option (Str × Option Int)) : Prop :=
  (∃ i : Nat, FirstBad gs i ∧ D = some (("NoGuest" : Str), some (i : Int))) ∨ (Fit gs ∧ ((∃ k : Nat, FirstOdd (gs.map (·.1)) rs k ∧ D = some (("NoRoom" : Str), some (k : Int))) ∨ (LeftOut (gs.map (·.1)) rs ∧ D = some (("NoRoom" : Str), none)) ∨ (rs.flatten.Perm (gs.map (·.1)) ∧ D = none)))
theorem odd_or (ages : List Int) (rs : List (List Int)) : Seemly ages rs.flatten ∨ ∃ k, FirstOdd ages rs k := by
  by_cases z : ∃ k, FirstOdd ages rs k
  · exact .inr z
  · refine .inl ?_
    have all : ∀ n : Nat, Seemly ages (rs.take n).flatten := by
      intro n
      induction n with
      | zero => exact Seemly.nil ages
      | succ n ih =>
        by_cases hn : n < rs.length
        · obtain ⟨r, er⟩ := at_some hn
          rw [take_snoc_flat er]
          have one : ∀ j : Nat, Seemly ages ((rs.take n).flatten ++ r.take j) := by
            intro j
            induction j with
            | zero =>
              rw [List.take_zero, List.append_nil]
              exact ih
            | succ j ihj =>
              by_cases hj : j < r.length
              · obtain ⟨a, ea⟩ := at_some hj
                rw [take_snoc ea, ← List.append_assoc]
                by_cases ha : a ∈ ages
                · by_cases no : a ∈ (rs.take n).flatten ++ r.take j
                  · exact absurd ⟨n, r, j, a, er, ea, ihj, .inr no⟩ z
                  · exact ihj.snoc ha no
                · exact absurd ⟨n, r, j, a, er, ea, ihj, .inl ha⟩ z
              · have e : r.take (j + 1) = r.take j := by rw [List.take_of_length_le (by omega), List.take_of_length_le (by omega)]
                rw [e]
                exact ihj
          have := one r.length
          rwa [List.take_length] at this
        · have e : rs.take (n + 1) = rs.take n := by rw [List.take_of_length_le (by omega), List.take_of_length_le (by omega)]
          rw [e]
          exact ih
    have := all rs.length
    rwa [List.take_length] at this
theorem bad_or (gs : List (Int × Int)) : Fit gs ∨ ∃ i, FirstBad gs i := by
  by_cases h : ∃ i, BadAt gs i
  · obtain ⟨i, hi⟩ := h
    have first : ∀ m : Nat, (∃ j, j ≤ m ∧ BadAt gs j) → ∃ j, FirstBad gs j := by
      intro m
      induction m with
      | zero =>
        rintro ⟨j, hj, hb⟩
        obtain rfl : j = 0 := by omega
        exact ⟨0, hb, fun j h => absurd h (Nat.not_lt_zero _)⟩
      | succ m ih =>
        rintro ⟨j, hj, hb⟩
        by_cases z : ∃ j, j ≤ m ∧ BadAt gs j
        · exact ih z
        · exact ⟨j, hb, fun l hl hbl => z ⟨l, by omega, hbl⟩⟩
    exact .inr (first i ⟨i, Nat.le_refl _, hi⟩)
  · exact .inl (fit_of fun i hb => h ⟨i, hb⟩)
theorem arr_is (gs : List (Int × Int)) (rs : List (List Int)) : ∃ D, ArrIs gs rs D := by
  rcases bad_or gs with F | ⟨i, hi⟩
  · rcases odd_or (gs.map (·.1)) rs with h | ⟨k, hk⟩
    · by_cases hl : rs.flatten.length < (gs.map (·.1)).length
      · exact ⟨_, .inr ⟨F, .inr (.inl ⟨⟨h, hl⟩, rfl⟩)⟩⟩
      · exact ⟨_, .inr ⟨F, .inr (.inr ⟨h.perm F.nd hl, rfl⟩)⟩⟩
    · exact ⟨_, .inr ⟨F, .inl ⟨k, hk, rfl⟩⟩⟩
  · exact ⟨_, .inl ⟨i, hi, rfl⟩⟩
theorem FirstBad.one {gs : List (Int × Int)} {i j : Nat} (h : FirstBad gs i) (k : FirstBad gs j) : i = j := by
  rcases Nat.lt_trichotomy i j with z | z | z
  · exact absurd h.1 (k.2 i z)
  · exact z
  · exact absurd k.1 (h.2 j z)
/-- who is left of the ages when some have been gone through -/
def lft (ages pre : List Int) : List Int := ages.filter fun a => decide (a ∉ pre)
theorem lft_mem {ages pre : List Int} {a : Int} : a ∈ lft ages pre ↔ a ∈ ages ∧ a ∉ pre := by
  unfold lft
  rw [List.mem_filter, decide_eq_true_iff]
theorem lft_nil (ages : List Int) : lft ages [] = ages := by
  unfold lft
  rw [List.filter_eq_self]
  intro a _
  exact decide_eq_true List.not_mem_nil
theorem lft_nd {ages pre : List Int} (h : ages.Nodup) : (lft ages pre).Nodup := List.Nodup.sublist List.filter_sublist h
theorem out_at : ∀ {l : List Int} {j : Nat} {a : Int}, l.Nodup → l[j]? = some a → l.eraseIdx j = l.filter fun b => b != a
  | [], _, _, _, e => by cases e
  | x :: l, 0, a, nd, e => by
    obtain rfl : x = a := Option.some.inj e
    have h : l.filter (fun b => b != x) = l := List.filter_eq_self.mpr fun b m => by
      rw [bne_iff_ne]
      exact fun z => (List.nodup_cons.mp nd).1 (z ▸ m)
    rw [List.filter_cons, if_neg (by simp), h]
    rfl
  | x :: l, j + 1, a, nd, e => by
    have e : l[j]? = some a := by simpa using e
    have ne : x ≠ a := fun z => (List.nodup_cons.mp nd).1 (z ▸ List.mem_of_getElem? e)
    rw [List.filter_cons, if_pos (by simpa using ne), ← out_at (List.nodup_cons.mp nd).2 e]
    rfl
theorem lft_out {ages pre : List Int} {a : Int} {j : Nat} (nd : ages.Nodup) (e : (lft ages pre)[j]? = some a) : (lft ages pre).eraseIdx j = lft ages (pre ++ [a]) := by
  have h1 : lft ages (pre ++ [a]) = (lft ages pre).filter fun b => b != a := by
    unfold lft
    rw [List.filter_filter]
    refine List.filter_congr fun b _ => ?_
    rw [Bool.eq_iff_iff, decide_eq_true_iff, Bool.and_eq_true, decide_eq_true_iff, bne_iff_ne, List.mem_append, List.mem_singleton]
    exact ⟨fun h => ⟨fun z => h (.inr z), fun z => h (.inl z)⟩, fun h z => z.elim h.2 h.1⟩
  rw [h1]
  exact out_at (lft_nd nd) e
theorem lft_len (ages pre : List Int) : (lft ages pre).length ≤ ages.length := List.length_filter_le _ _
theorem lft_some {ages pre : List Int} (nd : ages.Nodup) (h : pre.length < ages.length) : lft ages pre ≠ [] := fun z => by
  have : ages.length ≤ pre.length := List.Nodup.length_le_of_subset nd fun a m => Classical.byContradiction fun no => by
    have := lft_mem.mpr ⟨m, no⟩
    rw [z] at this
    cases this
  omega
theorem lft_none {ages pre : List Int} (h : pre.Perm ages) : lft ages pre = [] := by
  unfold lft
  rw [List.filter_eq_nil_iff]
  intro a m
  simp [h.mem_iff.mpr m]
/-- rows of numbers that can be shown -/
def Smal (rs : List (List Int)) : Prop := ∀ r ∈ rs, ∀ x ∈ r, x.natAbs < 10 ^ 200
theorem Smal.set {rs : List (List Int)} {r : List Int} {i : Nat} (h : Smal rs) (k : ∀ x ∈ r, x.natAbs < 10 ^ 200) : Smal (rs.set i r) := fun q m => by
  rcases List.mem_or_eq_of_mem_set m with m | rfl
  · exact h q m
  · exact k
theorem flat_set_len {rs : List (List Int)} {r q : List Int} : ∀ {i : Nat}, rs[i]? = some r → (rs.set i q).flatten.length + r.length = rs.flatten.length + q.length := by
  induction rs with
  | nil => intro i e; cases e
  | cons x xs ih =>
    intro i e
    cases i with
    | zero =>
      obtain rfl : x = r := Option.some.inj e
      simp only [List.set_cons_zero, List.flatten_cons, List.length_append]
      omega
    | succ i =>
      have := ih (i := i) (by simpa using e)
      simp only [List.set_cons_succ, List.flatten_cons, List.length_append]
      omega
theorem RdAt.dp5 {K : PySem.W.Frag} {H : Hp} {a : Addr} {ts : List Addr} {rs : List (List Int)} (h : RdAt H a ts rs) : Dp K H (.ref a) (dRows rs) := by
  refine .lst h.seq (dpAll_of (by rw [List.length_map, List.length_map, h.len]) fun i v d e f => ?_)
  obtain ⟨t, r, rfl, _, er, et⟩ := h.get e
  rw [List.getElem?_map, er] at f
  obtain rfl := Option.some.inj f
  exact Dp.ints et
theorem eqv_rows_nil (rs : List (List Int)) : PyData.eqv (dRows rs) (dInts []) = rs.isEmpty := by cases rs <;> rfl
end El
namespace El
open PySem PySem.Spec PyProof.Rows L2
section
variable {P : Program} {w : World} {K : PySem.W.Frag} {mg : Str → Option Value} {base : Heap}
abbrev s__law_due : Stmt := topS 23
abbrev N__law_due : List Str := ["some", "line", "at", "age", "bears", "left", "room", "one", "other"]
abbrev P__law_due : List Str := ["some", "line"]
theorem sc__law_due : FnScope N__law_due P__law_due (defScope s__law_due) := ⟨rfl, rfl, rfl, by decide +kernel, rfl, by decide +kernel, by decide +kernel⟩
def sp__law_due : Sp := fun vs H Q _ => ∃ (BB : Addr → Prop) (a o : Addr) (ts us : List Addr) (gs : List (Int × Int)) (rs : List (List Int)) (D : Option (Str × Option Int)), vs = [.ref a, .ref o] ∧ GsAt H BB a ts gs ∧ RdAt H o us rs ∧ gs.length ≤ 900 ∧ rs.length ≤ 900 ∧
  ArrIs gs rs D ∧ ∀ H' v, Same H H' → TolN H' v D → Q v H'
theorem ok__law_due (A : At K mg "_law_due" P__law_due s__law_due) (B : Bi mg) : Df P w K mg base 1 "_law_due" P__law_due s__law_due sp__law_due := by
  refine A.df fun f fd F => F.ok sc__law_due (fun vs H Q E h => ?_) (fun cdv AA outer s H vs Q E hr h => ?_)
  · obtain ⟨_, _, _, _, _, _, _, _, rfl, _⟩ := h
    rfl
  · obtain ⟨BB, a, o, ts, us, gs, rs, D, rfl, hG, hR, hl, hrl, hD, q⟩ := h
    have nd := sc__law_due.nd
    refine ⟨_, (pss_cons (ps_for PassesOwn.never rfl (pi_enum (by rfl) B.enumerate (pa_cons (pv 0) pa_nil)) (pg_tup (by rfl) (pgs_cons (pg_name (i := 2) nd rfl (.inl rfl)) (pgs_cons (pg_tup (by rfl) (pgs_cons (pg_name (i := 3) nd rfl (.inl rfl)) (pgs_cons (pg_name (i := 4) nd rfl (.inl rfl)) pgs_nil))) pgs_nil))) (pss_one (ps_if (PW.pt (pw_or (pt_cmpR op_lt (pv 4) pe_int (nomark _)) (pw_or1 (pt_cmpR op_in_seq (pv 3) (pe_lc (own := [("one", 7), ("other", 8)]) (tt := tYes) rfl nd (pi_list (pe_slice sl_list (pv 0) po_none (po_some (pv 2)))) (blkOk_by (N := N__law_due) (sc := defScope s__law_due) (by decide +kernel)) (fun _ _ _ _ _ => (pgTupK K 2 (by rfl) (pgs_cons (pg_name (i := 7) nd rfl (.inl rfl)) (pgs_cons (pg_name (i := 8) nd rfl (.inl rfl)) pgs_nil)))) (fun _ _ _ _ _ => pts_nil) (fun _ _ _ _ _ => (pv 7))) (by rfl))))) (pss_one (ps_ret (pe_lst (pa_cons pe_str (pa_cons (pv 2) (pa_cons pe_bl pa_nil)))))) pss_nil)))
    (pss_cons (ps_setLc (i := 5) (own := [("age", 3), ("bears", 4)]) (tt := tYes) rfl nd rfl rfl (sw_true rfl rfl rfl (by decide +kernel)) (pi_list (pv 0)) (blkOk_by (N := N__law_due) (sc := defScope s__law_due) (by decide +kernel)) (fun _ _ _ _ _ => (pgTupK K 2 (by rfl) (pgs_cons (pg_name (i := 3) nd rfl (.inl rfl)) (pgs_cons (pg_name (i := 4) nd rfl (.inl rfl)) pgs_nil)))) (fun _ _ _ _ _ => pts_nil) (fun _ _ _ _ _ => (pv 3)))
    (pss_cons (ps_for PassesOwn.never rfl (pi_enum (by rfl) B.enumerate (pa_cons (pv 1) pa_nil)) (pg_tup (by rfl) (pgs_cons (pg_name (i := 2) nd rfl (.inl rfl)) (pgs_cons (pg_name (i := 6) nd rfl (.inl rfl)) pgs_nil))) (pss_one (ps_for PassesOwn.never rfl (pi_list (pv 6)) (pg_name (i := 3) nd rfl (.inl rfl)) (pss_cons (ps_if (pt_cmpR op_notIn_seq (pv 3) (pv 5) (by rfl)) (pss_one (ps_ret (pe_lst (pa_cons pe_str (pa_cons (pv 2) (pa_cons pe_bl pa_nil)))))) pss_nil) (pss_one (ps_expr (pe_bm PySem.F.plainAttrs_list PySem.F.slot_list_remove PySem.F.type_list_remove mt_remove (pv 5) (pa_cons (pv 3) pa_nil))))))))
    (pss_one (ps_ret (pe_ifExp (pt_cmpR (op_neD hr.units) (pv 5) (pe_lst pa_nil) (nomark _)) (pe_lst (pa_cons pe_str (pa_cons pe_non (pa_cons pe_bl pa_nil)))) pe_non)))))), ?_⟩
    refine ⟨.ref a, rfl, a, ts.map V.ref, rfl, hG.seq, ?_⟩
    have told : ∀ (H1 : Hp) (w : Str) (z : Option Int), Same H H1 → D = some (w, z) → ∀ r, H1 r = none → Q (.ref r) (upd H1 r (.lst [.str w, whV z, .bl true])) := fun H1 w z s1 e r nr => q _ _ (s1.trans (same_new nr)) (by rw [e]; exact ⟨r, rfl, upd_same⟩)
    refine for_it (walk_enum (xs := ts.map V.ref)) (fun i σ H2 => ∃ y4 y5 y6, σ = [some (.ref a), some (.ref o), y4, y5, y6, none, none, none, none] ∧ Same H H2 ∧ ∀ j, j < i → ¬ BadAt gs j) ⟨none, none, none, rfl, Same.refl _, fun j h => absurd h (Nat.not_lt_zero _)⟩ (fun i σ H2 _ hW => ?_) (fun i v σ H2 H3 hi hW hY => ?_) (fun σ H2 hW => ?_)
    · obtain ⟨_, _, _, _, sm, _⟩ := hW
      exact (hG.same sm).seq
    · obtain ⟨y4, y5, y6, rfl, sm, ok⟩ := hW
      obtain ⟨T, x1, x2, rfl, nT, rfl, f1, f2⟩ := hY
      obtain rfl : V.int ↑i = x1 := Option.some.inj f1
      obtain ⟨t, g, rfl, eg, et⟩ := (hG.same sm).get f2
      have s3 : Same H2 (upd H2 T (.tup [.int i, .ref t])) := same_new nT
      refine ⟨T, [.int i, .ref t], rfl, SqT.of upd_same, rfl, .int i, [.ref t], rfl, .ref t, [], rfl, ?_⟩
      refine ⟨t, _, rfl, SqT.of (s3 _ _ et), rfl, .int g.1, [.int g.2], rfl, .int g.2, [], rfl, rfl, rfl, ?_⟩
      have bad : BadAt gs i → D = some (("NoGuest" : Str), some (i : Int)) := fun hb => by
        rcases hD with ⟨i', hb', e⟩ | ⟨hF, _⟩
        · rw [e, FirstBad.one ⟨hb, ok⟩ hb']
        · exact absurd hb (hF.none_bad i)
      refine ⟨.int g.2, rfl, _, _, rfl, rfl, _, rfl, ?_⟩
      by_cases hneg : g.2 < 0
      · rw [decide_eq_true hneg]
        exact iteT ⟨(.int i), rfl, (by show 3 ≤ sizeLine; decide), fun r nr => told _ _ _ (sm.trans s3) (bad ⟨g, eg, .inl hneg⟩) r nr⟩
      · rw [decide_eq_false hneg]
        refine iteF ?_
        have sm3 := sm.trans s3
        have hG3 := hG.same sm3
        revert s3 sm3 hG3
        generalize upd H2 T (.tup [.int i, .ref t]) = H3
        intro s3 sm3 hG3
        refine ⟨.int g.1, rfl, .ref a, rfl, .int i, rfl, _, rfl, a, _, rfl, SqL.of hG3.top, fun p np => ?_⟩
        rw [cut_to]
        have sp := same_new (o := .lst ((ts.map V.ref).take i)) np
        have hG4 := hG3.same sp
        refine ⟨p, rfl, ⟨_, SqL.of upd_same⟩, fun D1 nD => ?_⟩
        have hi9 : i ≤ 900 := Nat.le_trans (Nat.le_of_lt (at_lt eg)) hl
        refine lc_it (walk_list (xs := (ts.map V.ref).take i)) (fun k H5 => Same (upd H3 p (.lst ((ts.map V.ref).take i))) H5 ∧ H5 D1 = some (.lst (((gs.take k).map (·.1)).map V.int))) ⟨same_new nD, upd_same⟩ (fun k H5 _ hW => SqL.of (hW.1 _ _ upd_same)) (fun k v H5 H6 hk hW hY => ?_) (fun H5 hW => ?_)
        · obtain ⟨s5, e5⟩ := hW
          obtain ⟨rfl, hv⟩ := hY
          have hki : k < i := by
            have := hk
            rw [List.length_take] at this
            omega
          rw [List.getElem?_take_of_lt hki] at hv
          obtain ⟨t2, g2, rfl, eg2, et2⟩ := (hG4.same s5).get hv
          refine ⟨t2, _, rfl, SqT.of et2, rfl, .int g2.1, _, rfl, .int g2.2, _, rfl, rfl, rfl, .int g2.1, rfl, _, e5, ils ?_, Same.mut s5 nD, ?_⟩
          · rw [List.length_map, List.length_map, List.length_take]
            omega
          · rw [upd_same, take_snoc eg2, List.map_append, List.map_append]
            rfl
        · obtain ⟨s5, e5⟩ := hW
          have lti : ((ts.map V.ref).take i).length = i := by
            rw [List.length_take, List.length_map, hG.len]
            exact Nat.min_eq_left (Nat.le_of_lt (at_lt eg))
          rw [lti] at e5
          refine ⟨D1, _, rfl, .inl (SqL.of e5), rfl, ?_, _, rfl, ?_⟩
          · rw [List.all_eq_true]
            intro y m
            obtain ⟨_, _, rfl⟩ := List.mem_map.mp m
            rfl
          · show if inV (.int g.1) (((gs.take i).map (·.1)).map V.int) = true then _ else _
            rw [inV_ints]
            have s25 := sm3.trans (sp.trans s5)
            by_cases hin : g.1 ∈ (gs.take i).map (·.1)
            · rw [decide_eq_true hin]
              exact iteT ⟨(.int i), rfl, (by show 3 ≤ sizeLine; decide), fun r nr => told _ _ _ s25 (bad ⟨g, eg, .inr hin⟩) r nr⟩
            · rw [decide_eq_false hin]
              refine iteF ⟨_, _, _, rfl, s25, fun j hj => ?_⟩
              by_cases z : j = i
              · subst z
                rintro ⟨g', e', h'⟩
                obtain rfl : g = g' := Option.some.inj (eg.symm.trans e')
                exact h'.elim hneg hin
              · exact ok j (by omega)
    · obtain ⟨y4, y5, y6, rfl, sm, ok⟩ := hW
      rw [List.length_map, hG.len] at ok
      have hF : Fit gs := fit_of fun j hb => by
        obtain ⟨g, e, z⟩ := hb
        exact ok j (at_lt e) ⟨g, e, z⟩
      have rest : (∃ k : Nat, FirstOdd (gs.map (·.1)) rs k ∧ D = some (("NoRoom" : Str), some (k : Int))) ∨ (LeftOut (gs.map (·.1)) rs ∧ D = some (("NoRoom" : Str), none)) ∨ (rs.flatten.Perm (gs.map (·.1)) ∧ D = none) := by
        rcases hD with ⟨i, hb, _⟩ | ⟨_, h⟩
        · exact absurd hb.1 (hF.none_bad i)
        · exact h
      have hG2 := hG.same sm
      have hR2 := hR.same sm
      dsimp only [gName]
      refine ⟨.ref a, rfl, a, rfl, ⟨_, hG2.seq⟩, fun D1 nD => ?_⟩
      refine lc_it (walk_list (xs := ts.map V.ref)) (fun j Hx => Same H2 Hx ∧ Hx D1 = some (.lst (((gs.take j).map (·.1)).map V.int))) ⟨same_new nD, upd_same⟩ (fun j Hx _ hW => (hG2.same hW.1).seq) (fun j v Hx Hy hj hW hY => ?_) (fun Hx hW => ?_)
      · obtain ⟨sx, ex⟩ := hW
        obtain ⟨rfl, hv2⟩ := hY
        obtain ⟨tt, g2, rfl, eg, et⟩ := (hG2.same sx).get hv2
        refine ⟨tt, _, rfl, SqT.of et, rfl, .int g2.1, _, rfl, .int g2.2, _, rfl, rfl, rfl, .int g2.1, rfl, _, ex, ils ?_, Same.mut sx nD, ?_⟩
        · rw [List.length_map, List.length_map, List.length_take]
          omega
        · rw [upd_same, take_snoc eg, List.map_append, List.map_append]
          rfl
      · obtain ⟨sx, ex⟩ := hW
        rw [List.length_map, hG.len, List.take_length] at ex
        have nd1 : (gs.map (·.1)).Nodup := hF.nd
        have off : ∀ b, (∃ u, H2 b = some u) → b ≠ D1 := fun b ⟨u, e⟩ => ne_of_none e nD
        refine ⟨.ref o, rfl, o, us.map V.ref, rfl, (hR2.same sx).seq, ?_⟩
        refine for_it (walk_enum (xs := us.map V.ref)) (fun i σ H3 => ∃ y2 y3 y4 y6, σ = [some (.ref a), some (.ref o), y2, y3, y4, some (.ref D1), y6, none, none] ∧ Kp (fun b => b ≠ D1) H2 H3 ∧ H3 D1 = some (.lst ((lft (gs.map (·.1)) (rs.take i).flatten).map V.int)) ∧ Seemly (gs.map (·.1)) (rs.take i).flatten)
          ⟨_, _, _, _, rfl, .of sx, by rw [List.take_zero, List.flatten_nil, lft_nil]; exact ex, Seemly.nil _⟩ (fun i σ H3 _ hW => ?_) (fun i v σ H3 H4 hi hW hY => ?_) (fun σ H3 hW => ?_)
        · obtain ⟨_, _, _, _, _, kp, _⟩ := hW
          exact SqL.of (kp _ _ (off o ⟨_, hR2.top⟩) hR2.top)
        · obtain ⟨y2, y3, y4, y6, rfl, kp, eL, sf⟩ := hW
          obtain ⟨T, x1, x2, rfl, nT, rfl, f1, f2⟩ := hY
          obtain rfl : V.int ↑i = x1 := Option.some.inj f1
          obtain ⟨t, r, rfl, et0, er, et2⟩ := hR2.get f2
          have s4 : Same H3 (upd H3 T (.tup [.int i, .ref t])) := same_new nT
          refine ⟨T, [.int i, .ref t], rfl, SqT.of upd_same, rfl, .int i, [.ref t], rfl, .ref t, [], rfl, rfl, ?_⟩
          have kp4 := kp.trans (.of s4)
          have eL4 := s4 _ _ eL
          revert kp4 eL4
          generalize upd H3 T (.tup [.int i, .ref t]) = H4
          intro kp4 eL4
          have tD := off t ⟨_, et2⟩
          refine ⟨.ref t, rfl, t, rfl, ⟨_, SqL.of (kp4 _ _ tD et2)⟩, ?_⟩
          refine for_it (walk_list (xs := r.map V.int)) (fun j σ H5 => ∃ y3, σ = [some (.ref a), some (.ref o), some (.int i), y3, y4, some (.ref D1), some (.ref t), none, none] ∧ Kp (fun b => b ≠ D1) H2 H5 ∧ H5 D1 = some (.lst ((lft (gs.map (·.1)) ((rs.take i).flatten ++ r.take j)).map V.int)) ∧ Seemly (gs.map (·.1)) ((rs.take i).flatten ++ r.take j))
            ⟨_, rfl, kp4, by rw [List.take_zero, List.append_nil]; exact eL4, by rw [List.take_zero, List.append_nil]; exact sf⟩ (fun j σ H5 _ hW => ?_) (fun j x σ H5 H6 hj hW hY => ?_) (fun σ H5 hW => ?_)
          · obtain ⟨_, _, k5, _⟩ := hW
            exact SqL.of (k5 _ _ tD et2)
          · obtain ⟨y3, rfl, k5, e5, sf5⟩ := hW
            obtain ⟨rfl, hx⟩ := hY
            obtain ⟨x, ea, rfl⟩ := ints_at hx
            dsimp only [gName]
            refine ⟨.int x, rfl, .ref D1, rfl, D1, _, rfl, .inl (SqL.of e5), rfl, ?_, _, rfl, ?_⟩
            · rw [List.all_eq_true]
              intro y m
              obtain ⟨_, _, rfl⟩ := List.mem_map.mp m
              rfl
            · rw [inV_ints]
              have hs : ∀ {H6 : Hp}, Kp (fun b => b ≠ D1) H2 H6 → Same H H6 := fun k b u e => k b u (off b ⟨_, sm _ _ e⟩) (sm _ _ e)
              by_cases hin : x ∈ lft (gs.map (·.1)) ((rs.take i).flatten ++ r.take j)
              · rw [decide_eq_true hin]
                refine iteF ?_
                obtain ⟨hm, hno⟩ := lft_mem.mp hin
                obtain ⟨m, em⟩ := List.mem_iff_getElem?.mp hin
                refine ⟨.ref D1, rfl, .inl ⟨rfl, _, SqL.of e5⟩, .int x, rfl, D1, _, x, m, rfl, rfl, e5, em, fun m' hm' z => ?_, ?_⟩
                · have := nd_ix (lft_nd nd1) z em
                  omega
                · refine ⟨_, rfl, Kp.mut k5 fun z => z rfl, ?_, ?_⟩
                  · rw [upd_same, lft_out nd1 em, take_snoc ea, ← List.append_assoc]
                  · rw [take_snoc ea, ← List.append_assoc]
                    exact sf5.snoc hm hno
              · rw [decide_eq_false hin]
                have hodd : x ∉ gs.map (·.1) ∨ x ∈ (rs.take i).flatten ++ r.take j := by
                  by_cases hm : x ∈ gs.map (·.1)
                  · exact .inr (Classical.byContradiction fun z => hin (lft_mem.mpr ⟨hm, z⟩))
                  · exact .inl hm
                have e : D = some (("NoRoom" : Str), some (i : Int)) := by
                  rcases rest with ⟨k, ⟨r', j', a', er', ea', hf', hb'⟩, e⟩ | ⟨⟨hall, _⟩, _⟩ | ⟨pm, _⟩
                  · obtain ⟨rfl, _⟩ := odd_ahead er' ea' hb' hf' er ea sf5 hodd
                    exact e
                  · exact (odd_not ⟨r, j, x, er, ea, sf5, hodd⟩ hall).elim
                  · exact (odd_not ⟨r, j, x, er, ea, sf5, hodd⟩ ⟨pm.nodup_iff.mpr nd1, fun b m => pm.mem_iff.mp m⟩).elim
                exact iteT ⟨.int i, rfl, (by show 3 ≤ sizeLine; decide), fun rr nr => told _ _ _ (hs k5) e rr nr⟩
          · obtain ⟨y3, rfl, k5, e5, sf5⟩ := hW
            rw [List.length_map, take_full, ← take_snoc_flat er] at e5 sf5
            exact ⟨_, _, _, _, rfl, k5, e5, sf5⟩
        · obtain ⟨y2, y3, y4, y6, rfl, kp, eL, sf⟩ := hW
          rw [List.length_map, hR.len, take_full] at eL sf
          have hs : Same H H3 := fun b u e => kp b u (off b ⟨_, sm _ _ e⟩) (sm _ _ e)
          refine ⟨.ref D1, rfl, Nat.zero_le _, fun em nem => ?_⟩
          have s5 := same_new (o := .lst []) nem
          refine ⟨dInts (lft (gs.map (·.1)) rs.flatten), dInts [], Dp.ints (s5 _ _ eL), Dp.ints (ns := []) upd_same, (Oks.ints _).shaped, (Oks.ints _).shaped, _, rfl, ?_⟩
          rw [eqv_nil]
          rcases rest with ⟨k, hk, _⟩ | ⟨⟨hall, hlt⟩, e⟩ | ⟨pm, e⟩
          · exact (odd_not hk sf).elim
          · have ne := lft_some nd1 hlt
            cases hh : lft (gs.map (·.1)) rs.flatten with
            | nil => exact absurd hh ne
            | cons _ _ => exact iteT ⟨(by show 3 ≤ sizeLine; decide), fun rr nr => told _ _ _ (hs.trans s5) e rr nr⟩
          · rw [lft_none pm]
            exact iteF (q _ _ (hs.trans s5) (by rw [e]; rfl))
end
end El
namespace El
open PySem PySem.Spec PyProof.Rows L2
theorem RdAt.snoc5 {H : Hp} {D u : Addr} {fs : List Addr} {frs : List (List Int)} {r : List Int} (h : RdAt H D fs frs) (e : H u = some (.lst (r.map V.int))) (uD : u ≠ D) (no : D ∉ fs) : RdAt (upd H D (.lst (fs.map V.ref ++ [.ref u]))) D (fs ++ [u]) (frs ++ [r]) := by
  refine ⟨by rw [upd_same, List.map_append]; rfl, by rw [List.length_append, List.length_append, h.len]; rfl, fun i t x e1 e2 => ?_⟩
  rcases Nat.lt_or_ge i fs.length with hi | hi
  · rw [List.getElem?_append_left hi] at e1
    rw [List.getElem?_append_left (by rw [← h.len]; exact hi)] at e2
    have nt : t ≠ D := fun z => no (by rw [← z]; exact List.mem_of_getElem? e1)
    rw [upd_ne nt]
    exact h.at' i t x e1 e2
  · rw [List.getElem?_append_right hi] at e1
    rw [List.getElem?_append_right (by rw [← h.len]; exact hi), ← h.len] at e2
    generalize i - fs.length = j at e1 e2
    cases j with
    | zero =>
      obtain rfl : u = t := Option.some.inj e1
      obtain rfl : r = x := Option.some.inj e2
      rw [upd_ne uD]
      exact e
    | succ j => cases e1
section
variable {P : Program} {w : World} {K : PySem.W.Frag} {mg : Str → Option Value} {base : Heap}
abbrev s__law_bent : Stmt := topS 24
abbrev N__law_bent : List Str := ["tray", "some", "line", "turn", "full", "lot", "room", "ages", "age", "bears"]
abbrev P__law_bent : List Str := ["tray", "some", "line"]
theorem sc__law_bent : FnScope N__law_bent P__law_bent (defScope s__law_bent) := ⟨rfl, rfl, rfl, by decide +kernel, rfl, by decide +kernel, by decide +kernel⟩
/-- what is neither of the tray nor of the line -/
def Bes (t g o : Addr) (us : List Addr) (b : Addr) : Prop := Off t g b ∧ b ∉ us ∧ b ≠ o
def sp__law_bent : Sp := fun vs H Q _ => ∃ (t g a o : Addr) (n : Nat) (ts us : List Addr) (gs : List (Int × Int)) (rs : List (List Int)), vs = [.ref t, .ref a, .ref o] ∧ Tray H t g n ∧ n ≤ 900000000 ∧ GsAt H (Bes t g o us) a ts gs ∧ RmsAt H (Off t g) o us rs ∧ gs.length ≤ 60 ∧ rs.length ≤ 200 ∧ rs.flatten.length ≤ 60 ∧
  (∀ x ∈ gs, x.1.natAbs < 10 ^ 200) ∧ Smal rs ∧ ∀ H' rs', Tray H' t g (n + 20) → GsAt H' (Bes t g o us) a ts gs → RmsAt H' (Off t g) o us rs' → Smal rs' → rs'.length = rs.length → rs'.flatten.length ≤ 63 → Q .non H'
theorem ok__law_bent (A : At K mg "_law_bent" P__law_bent s__law_bent) (B : Bi mg) (D__law_draw : Df P w K mg base 1 "_law_draw" P__law_draw s__law_draw sp__law_draw) : Df P w K mg base 2 "_law_bent" P__law_bent s__law_bent sp__law_bent := by
  refine A.df fun f fd F => F.ok sc__law_bent (fun vs H Q E h => ?_) (fun cdv AA outer s H vs Q E hr h => ?_)
  · obtain ⟨_, _, _, _, _, _, _, _, _, rfl, _⟩ := h
    rfl
  · obtain ⟨t, g, a, o, n, ts, us, gs, rs, rfl, hT, hn, hG, hR, hl, hrl, hfl, hgs, hsm, q⟩ := h
    have nd := sc__law_bent.nd
    refine ⟨_, (pss_one (ps_for PassesOwn.never rfl (pi_range1 (by rfl) B.range (pa_cons (pe_df D__law_draw (hr.mono (by decide)) (by rfl) (pa_cons (pv 0) (pa_cons pe_int pa_nil))) pa_nil)) (pg_name (i := 3) nd rfl (.inl rfl)) (pss_cons (ps_setLc (i := 4) (own := [("room", 6)]) rfl nd rfl rfl (sw_true rfl rfl rfl (by decide +kernel)) (pi_list (pv 2)) (blkOk_by (N := N__law_bent) (sc := defScope s__law_bent) (by decide +kernel)) (fun _ _ _ _ _ => (pg_name (i := 6) nd rfl (.inl rfl))) (fun _ _ _ _ _ => (pts_one (pt_cmpR (neDK K hr.units) (pv 6) (pe_lst pa_nil) (nomark _)))) (fun _ _ _ _ _ => (pv 6))) (pss_cons (ps_set (i := 5) nd rfl (.inl rfl) (pe_df D__law_draw (hr.mono (by decide)) (by rfl) (pa_cons (pv 0) (pa_cons pe_int pa_nil)))) (pss_one (ps_if (PW.pt (pw_and (pt_cmpR op_eq (pv 5) pe_int (nomark _)) (pw_and1 (pt_cmpR (op_neD hr.units) (pv 4) (pe_lst pa_nil) (nomark _))))) (pss_cons (ps_set (i := 6) nd rfl (.inl rfl) (pe_ix ix_list (pv 4) (pe_df D__law_draw (hr.mono (by decide)) (by rfl) (pa_cons (pv 0) (pa_cons (pe_callB call_len_seq (by rfl) B.len PySem.boot_len (pa_cons (pv 4) pa_nil)) pa_nil))) (fun _ _ => rfl))) (pss_one (ps_expr (pe_bm PySem.F.plainAttrs_list PySem.F.slot_list_pop PySem.F.type_list_pop mt_popAt (pv 6) (pa_cons (pe_df D__law_draw (hr.mono (by decide)) (by rfl) (pa_cons (pv 0) (pa_cons (pe_callB call_len_seq (by rfl) B.len PySem.boot_len (pa_cons (pv 6) pa_nil)) pa_nil))) pa_nil))))) (pss_one (ps_if (pt_cmpR (op_neD hr.units) (pv 2) (pe_lst pa_nil) (nomark _)) (pss_cons (ps_set (i := 6) nd rfl (.inl rfl) (pe_ix ix_list (pv 2) (pe_df D__law_draw (hr.mono (by decide)) (by rfl) (pa_cons (pv 0) (pa_cons (pe_callB call_len_seq (by rfl) B.len PySem.boot_len (pa_cons (pv 2) pa_nil)) pa_nil))) (fun _ _ => rfl))) (pss_cons (ps_set (i := 7) nd rfl (.inl rfl) (pe_op op_cat (pe_lc (own := [("age", 8), ("bears", 9)]) (tt := tYes) rfl nd (pi_list (pv 1)) (blkOk_by (N := N__law_bent) (sc := defScope s__law_bent) (by decide +kernel)) (fun _ _ _ _ _ => (pgTupK K 2 (by rfl) (pgs_cons (pg_name (i := 8) nd rfl (.inl rfl)) (pgs_cons (pg_name (i := 9) nd rfl (.inl rfl)) pgs_nil)))) (fun _ _ _ _ _ => pts_nil) (fun _ _ _ _ _ => (pv 8))) (pe_lst (pa_cons (pe_op op_sub (pe_op op_sub (pe_op op_pow pe_int pe_int) pe_int) (pv 3)) pa_nil)))) (pss_one (ps_expr (pe_bm PySem.F.plainAttrs_list PySem.F.slot_list_insert PySem.F.type_list_insert mt_insert (pv 6) (pa_cons (pe_df D__law_draw (hr.mono (by decide)) (by rfl) (pa_cons (pv 0) (pa_cons (pe_op op_add (pe_callB call_len_seq (by rfl) B.len PySem.boot_len (pa_cons (pv 6) pa_nil)) pe_int) pa_nil))) (pa_cons (pe_ix ix_list (pv 7) (pe_ifExp (pt_cmpR op_eq (pv 5) pe_int (nomark _)) (pe_un un_neg pe_int) (pe_df D__law_draw (hr.mono (by decide)) (by rfl) (pa_cons (pv 0) (pa_cons (pe_callB call_len_seq (by rfl) B.len PySem.boot_len (pa_cons (pv 7) pa_nil)) pa_nil)))) (fun _ _ => rfl)) pa_nil))))))) pss_nil)))))))), ?_⟩
    refine ⟨.ref t, rfl, t, g, _, 4, rfl, hT, by omega, by decide, by decide, fun H1 r1 k1 T1 a1 b1 => ?_⟩
    have offB : ∀ b, Bes t g o us b → Off t g b := fun b h => h.1
    have G1 := hG.keep fun b u hb e => k1 b u hb.1 e
    have R1 := hR.keep k1
    refine ⟨_, rfl, by omega, by omega, ?_⟩
    refine for_it walk_range (fun k σ H2 => ∃ y3 y4 y5 y6 y7 rs2, σ = [some (.ref t), some (.ref a), some (.ref o), y3, y4, y5, y6, y7, none, none] ∧ Tray H2 t g (n + 1 + 5 * k) ∧ GsAt H2 (Bes t g o us) a ts gs ∧ RmsAt H2 (Off t g) o us rs2 ∧ Smal rs2 ∧ rs2.length = rs.length ∧ rs2.flatten.length ≤ 60 + k) ⟨_, _, _, _, _, rs, rfl, T1, G1, R1, hsm, rfl, hfl⟩ (fun _ _ _ _ _ => trivial) (fun k v σ H2 H3 hk hW hY => ?_) (fun σ H2 hW => ?_)
    · obtain ⟨y3, y4, y5, y6, y7, rs2, rfl, T2, G2, R2, sm2, rl2, fl2⟩ := hW
      obtain ⟨rfl, rfl⟩ := hY
      have hk3 : k < 3 := by omega
      dsimp only [gName]
      -- full
      refine ⟨.ref o, rfl, o, rfl, ⟨_, R2.seq⟩, fun D nD => ?_⟩
      refine lc_it (walk_list (xs := us.map V.ref)) (fun j Hx => ∃ (fs : List Addr) (frs : List (List Int)), Same H3 Hx ∧ RdAt Hx D fs frs ∧ (∀ u ∈ fs, u ∈ us) ∧ (∀ r ∈ frs, r ≠ []) ∧ fs.length ≤ j) ⟨[], [], same_new nD, ⟨upd_same, rfl, fun i t r e => (by cases e)⟩, fun u m => (absurd m List.not_mem_nil), fun r m => (absurd m List.not_mem_nil), Nat.le_refl _⟩ (fun j Hx _ hW => by obtain ⟨_, _, s, _⟩ := hW; exact (R2.same s).seq) (fun j v Hx Hy hj hW hY => ?_) (fun Hx hW => ?_)
      · obtain ⟨fs, frs, sx, RD, inn, non, fl⟩ := hW
        obtain ⟨rfl, hv⟩ := hY
        obtain ⟨tt, r, rfl, eu, er, et⟩ := (R2.same sx).get hv
        have hjl := at_lt eu
        rw [R2.len] at hjl
        have hus : ∀ u, u ∈ us → u ≠ D := fun u m => by
          obtain ⟨i, e⟩ := List.mem_iff_getElem?.mp m
          obtain ⟨r', er'⟩ := at_some (l := rs2) (i := i) (by rw [← R2.len]; exact at_lt e)
          exact ne_of_none (R2.at' i u r' e er') nD
        refine ⟨rfl, .ref tt, rfl, Nat.zero_le _, fun em nem => ?_⟩
        have s6 := same_new (o := .lst []) nem
        refine ⟨dInts r, dInts [], Dp.ints (s6 _ _ et), Dp.ints (ns := []) upd_same, (Oks.ints _).shaped, (Oks.ints _).shaped, _, rfl, ?_⟩
        rw [eqv_nil]
        cases hr' : r with
        | nil => exact iteF ⟨fs, frs, sx.trans s6, RD.same s6, inn, non, by omega⟩
        | cons x0 xr =>
          have eD := s6 _ _ RD.top
          refine iteT ⟨.ref tt, rfl, _, eD, ils (by rw [List.length_map]; omega), fs ++ [tt], frs ++ [r], Same.mut (sx.trans s6) nD, (RD.same s6).snoc5 (s6 _ _ et) (hus _ (List.mem_of_getElem? eu)) (fun m => hus _ (inn _ m) rfl), fun u m => ?_, fun q' m => ?_, ?_⟩
          · rcases List.mem_append.mp m with m | m
            · exact inn u m
            · rw [List.mem_singleton.mp m]
              exact List.mem_of_getElem? eu
          · rcases List.mem_append.mp m with m | m
            · exact non q' m
            · rw [List.mem_singleton.mp m, hr']
              exact List.cons_ne_nil _ _
          · rw [List.length_append, List.length_singleton]
            omega
      · obtain ⟨fs, frs, sx, RD, inn, non, fl⟩ := hW
        have R3 := R2.same sx
        have G3 := G2.same sx
        have T3 := T2.keep sx
        dsimp only [gName]
        rw [List.length_map, R2.len] at fl
        refine ⟨.ref t, rfl, t, g, _, 3, rfl, T3, by omega, by decide, by decide, fun H4 r4 k4 T4 a4 b4 => ?_⟩
        have G4 := G3.keep fun b u hb e => k4 b u hb.1 e
        have R4 := R3.keep k4
        have Dus : ∀ u, (u = o ∨ u ∈ us) → u ≠ D := fun u m z => by
          rcases m with rfl | m
          · exact ne_of_none R2.top nD z
          · obtain ⟨i, e⟩ := List.mem_iff_getElem?.mp m
            obtain ⟨r', er'⟩ := at_some (l := rs2) (i := i) (by rw [← R2.len]; exact at_lt e)
            exact ne_of_none (R2.at' i u r' e er') nD z
        have RD4 : RdAt H4 D fs frs := ⟨k4 _ _ (T2.off nD) RD.top, RD.len, fun i u r e1 e2 => k4 _ _ (R3.b u (inn u (List.mem_of_getElem? e1))) (RD.at' i u r e1 e2)⟩
        dsimp only [gName]
        refine ⟨_, rfl, rfl, _, rfl, ?_⟩
        -- a room changed
        have put : ∀ (H8 : Hp) (n8 : Nat) (j : Nat) (u : Addr) (r : List Int) (r' : List Int), Tray H8 t g n8 → n8 ≤ n + 1 + 5 * (k + 1) → GsAt H8 (Bes t g o us) a ts gs → RmsAt H8 (Off t g) o us rs2 → us[j]? = some u → rs2[j]? = some r → (∀ x ∈ r', x.natAbs < 10 ^ 200) → r'.length ≤ r.length + 1 →
            ∃ rs3 : List (List Int), Tray (upd H8 u (.lst (r'.map V.int))) t g (n + 1 + 5 * (k + 1)) ∧ GsAt (upd H8 u (.lst (r'.map V.int))) (Bes t g o us) a ts gs ∧ RmsAt (upd H8 u (.lst (r'.map V.int))) (Off t g) o us rs3 ∧ Smal rs3 ∧ rs3.length = rs.length ∧ rs3.flatten.length ≤ 60 + (k + 1) := by
          intro H8 n8 j u r r' T8 h8 G8 R8 eu er sm8 hl8
          refine ⟨rs2.set j r', (T8.mut (R8.b u (List.mem_of_getElem? eu))).more h8, G8.keep (Kp.mut Kp.refl fun z => z.2.1 (List.mem_of_getElem? eu)), R8.set eu r', sm2.set sm8, by rw [List.length_set]; exact rl2, ?_⟩
          have := flat_set_len (q := r') er
          omega
        refine' with_heap (Pk := fun H6 => Tray H6 t g (n + 1 + 5 * k + 1) ∧ GsAt H6 (Bes t g o us) a ts gs ∧ RmsAt H6 (Off t g) o us rs2) (fun key => ?_) (fun H6 hP => ?_)
        rotate_left
        · by_cases hr4 : r4 = 0
          · refine ifYes (by rw [hr4]; rfl) ?_
            refine ⟨.ref D, rfl, Nat.zero_le _, fun em nem => ?_⟩
            have s6 := same_new (o := .lst []) nem
            refine ⟨dRows frs, dInts [], (RD4.same s6).dp5, Dp.ints (ns := []) upd_same, (Oks.rows _).shaped, (Oks.ints _).shaped, _, rfl, ?_⟩
            rw [eqv_rows_nil]
            have R6 := R4.same s6
            have G6 := G4.same s6
            have T6 := T4.keep s6
            have RD6 := RD4.same s6
            cases hfr : frs with
            | nil => exact iteF (key _ ⟨T6, G6, R6⟩)
            | cons f0 fr =>
              refine iteT ?_
              have hpos : 0 < fs.length := by rw [RD4.len, hfr]; exact Nat.succ_pos _
              refine ⟨.ref D, rfl, .ref t, rfl, .ref D, rfl, D, _, rfl, .inl RD6.seq, t, g, _, _, rfl, T6, by omega, ?_, ?_, fun H7 r7 k7 T7 a7 b7 => ?_⟩
              · rw [List.length_map]
                omega
              · rw [List.length_map]
                exact Int.lt_of_lt_of_le (show (fs.length : Int) < 1001 by omega) (by decide)
              rw [List.length_map] at b7
              obtain ⟨j, rfl⟩ : ∃ j : Nat, r7 = j := ⟨r7.toNat, by omega⟩
              obtain ⟨u, eu⟩ := at_some (l := fs) (i := j) (by omega)
              obtain ⟨r, er⟩ := at_some (l := frs) (i := j) (by rw [← RD4.len]; omega)
              have mu := inn u (List.mem_of_getElem? eu)
              obtain ⟨i, eui⟩ := List.mem_iff_getElem?.mp mu
              obtain ⟨r', eri⟩ := at_some (l := rs2) (i := i) (by rw [← R2.len]; exact at_lt eui)
              have e7 := k7 _ _ (R6.b u mu) (RD6.at' j u r eu er)
              have R7 := R6.keep k7
              have G7 := G6.keep fun b u hb e => k7 b u hb.1 e
              have err : r = r' := (List.map_inj_right fun _ _ h => V.int.inj h).mp (HO.lst.inj (Option.some.inj (e7.symm.trans (R7.at' i u r' eui eri))))
              subst err
              have hrp : 0 < r.length := List.length_pos_iff.mpr (non r (List.mem_of_getElem? er))
              have hr60 : r.length ≤ 70 := by
                have := flat_set_len (q := []) eri
                rw [List.length_nil] at this
                omega
              refine ⟨D, _, _, .ref u, rfl, rfl, SqL.of (k7 _ _ (T2.off nD) RD6.top), atI_nat (j := j) (by rw [List.getElem?_map, eu]; rfl), ?_⟩
              dsimp only [gName]
              refine ⟨.ref u, rfl, .inl ⟨rfl, _, SqL.of e7⟩, .ref t, rfl, .ref u, rfl, u, _, rfl, .inl (SqL.of e7), t, g, _, _, rfl, T7, by omega, ?_, ?_, fun H8 r8 k8 T8 a8 b8 => ?_⟩
              · rw [List.length_map]
                omega
              · rw [List.length_map]
                exact Int.lt_of_lt_of_le (show (r.length : Int) < 1001 by omega) (by decide)
              rw [List.length_map] at b8
              obtain ⟨m, rfl⟩ : ∃ m : Nat, r8 = m := ⟨r8.toNat, by omega⟩
              have hm : m < r.length := by omega
              obtain ⟨x, ex⟩ := at_some hm
              have e8 := k8 _ _ (R6.b u mu) e7
              obtain ⟨rs3, T9, G9, R9, sm9, l9, f9⟩ := put H8 _ i u r (r.eraseIdx m) T8 (by omega) (G7.keep fun b u hb e => k8 b u hb.1 e) (R7.keep k8) eui eri (fun x mx => sm2 r (List.mem_of_getElem? eri) x (List.mem_of_mem_eraseIdx mx)) (by rw [List.length_eraseIdx_of_lt hm]; omega)
              refine ⟨u, _, _, m, .int x, rfl, rfl, e8, by omega, by omega, seq_ix (by rw [List.length_map]; exact hm), by rw [List.getElem?_map, ex]; rfl, ?_⟩
              rw [map_erase]
              exact ⟨_, _, _, _, _, rs3, rfl, T9, G9, R9, sm9, l9, f9⟩
          · refine ifNo (by show decide (V.int r4 = V.int 0) = false; simp [hr4]) ?_
            exact key H4 ⟨T4, G4, R4⟩
        · obtain ⟨T6, G6, R6⟩ := hP
          refine ⟨.ref o, rfl, Nat.zero_le _, fun em nem => ?_⟩
          have s6 := same_new (o := .lst []) nem
          have R7 := R6.same s6
          have G7 := G6.same s6
          have T7 := T6.keep s6
          refine ⟨dRows rs2, dInts [], R7.dp, Dp.ints (ns := []) upd_same, (Oks.rows _).shaped, (Oks.ints _).shaped, _, rfl, ?_⟩
          rw [eqv_rows_nil]
          cases hr2 : rs2.isEmpty with
          | true => exact iteF ⟨_, _, _, _, _, rs2, rfl, T7.more (by omega), G7, R7, sm2, rl2, by omega⟩
          | false =>
            refine iteT ?_
            have hpos : 0 < rs2.length := by
              cases rs2 with
              | nil => cases hr2
              | cons _ _ => exact Nat.succ_pos _
            clear hr2
            revert R7 G7 T7
            generalize upd H6 em (.lst []) = H7
            clear s6 nem G6 R6 T6
            intro R7 G7 T7
            refine ⟨.ref o, rfl, .ref t, rfl, .ref o, rfl, o, _, rfl, .inl R7.seq, t, g, _, _, rfl, T7, by omega, ?_, ?_, fun H8 r8 k8 T8 a8 b8 => ?_⟩
            · rw [List.length_map, R2.len]
              omega
            · rw [List.length_map, R2.len]
              exact Int.lt_of_lt_of_le (show (rs2.length : Int) < 1001 by omega) (by decide)
            rw [List.length_map, R2.len] at b8
            obtain ⟨j, rfl⟩ : ∃ j : Nat, r8 = j := ⟨r8.toNat, by omega⟩
            obtain ⟨u, eu⟩ := at_some (l := us) (i := j) (by rw [R2.len]; omega)
            obtain ⟨r, er⟩ := at_some (l := rs2) (i := j) (by omega)
            have R8 := R7.keep k8
            have G8 := G7.keep fun b u hb e => k8 b u hb.1 e
            have hr70 : r.length ≤ 70 := by
              have := flat_set_len (q := []) er
              rw [List.length_nil] at this
              omega
            refine ⟨o, _, _, .ref u, rfl, rfl, R8.seq, atI_nat (j := j) (by rw [List.getElem?_map, eu]; rfl), ?_⟩
            dsimp only [gName]
            refine ⟨.ref a, rfl, a, rfl, ⟨_, G8.seq⟩, fun D2 nD2 => ?_⟩
            refine lc_it (walk_list (xs := ts.map V.ref)) (fun i Hx => Same H8 Hx ∧ Hx D2 = some (.lst (((gs.take i).map (·.1)).map V.int))) ⟨same_new nD2, upd_same⟩ (fun i Hx _ hW => (G8.same hW.1).seq) (fun i v Hx Hy hi hW hY => ?_) (fun Hx hW => ?_)
            · obtain ⟨sx, ex⟩ := hW
              obtain ⟨rfl, hv2⟩ := hY
              obtain ⟨tt, g2, rfl, eg, et⟩ := (G8.same sx).get hv2
              refine ⟨tt, _, rfl, SqT.of et, rfl, .int g2.1, _, rfl, .int g2.2, _, rfl, rfl, rfl, .int g2.1, rfl, _, ex, ils ?_, Same.mut sx nD2, ?_⟩
              · rw [List.length_map, List.length_map, List.length_take]
                omega
              · rw [upd_same, take_snoc eg, List.map_append, List.map_append]
                rfl
            · obtain ⟨sx, ex⟩ := hW
              rw [List.length_map, G2.len, List.take_length] at ex
              have R9 := R8.same sx
              have G9 := G8.same sx
              have T9 := T8.keep sx
              have b30 : ((10 : Int) ^ Int.toNat 30 - 1 - (0 + (k : Int))).natAbs < 10 ^ 200 := by
                have e1 : (10 : Int) ^ Int.toNat 30 = 1000000000000000000000000000000 := by decide
                rw [e1]
                exact Nat.lt_trans (show _ < 2000000000000000000000000000000 by omega) (by decide)
              refine ⟨_, _, rfl, rfl, ⟨by decide, by decide, by decide⟩, _, _, rfl, rfl, _, rfl, _, _, rfl, rfl, (by show 1 ≤ sizeLine; decide), fun L nL => ⟨D2, L, _, _, rfl, rfl, same_new nL _ _ ex, upd_same, ils (by rw [List.length_map, List.length_map]; omega), fun p np => ?_⟩⟩
              have sL := (same_new (o := .lst [.int ((10 : Int) ^ Int.toNat 30 - 1 - (0 + (k : Int)))]) nL).trans (same_new (o := .lst ((gs.map (·.1)).map V.int ++ [.int ((10 : Int) ^ Int.toNat 30 - 1 - (0 + (k : Int)))])) np)
              have ep : upd (upd Hx L (.lst [.int ((10 : Int) ^ Int.toNat 30 - 1 - (0 + (k : Int)))])) p (.lst ((gs.map (·.1)).map V.int ++ [.int ((10 : Int) ^ Int.toNat 30 - 1 - (0 + (k : Int)))])) p = some (.lst (((gs.map (·.1)) ++ [(10 : Int) ^ Int.toNat 30 - 1 - (0 + (k : Int))]).map V.int)) := by
                rw [upd_same, List.map_append]
                rfl
              have RA := R9.same sL
              have GA := G9.same sL
              have TA := T9.keep sL
              have op : Off t g p := ((T9.keep (same_new (o := .lst [.int ((10 : Int) ^ Int.toNat 30 - 1 - (0 + (k : Int)))]) nL))).off np
              have hall : ∀ x ∈ (gs.map (·.1)) ++ [(10 : Int) ^ Int.toNat 30 - 1 - (0 + (k : Int))], x.natAbs < 10 ^ 200 := fun x m => by
                rcases List.mem_append.mp m with m | m
                · obtain ⟨y, my, rfl⟩ := List.mem_map.mp m
                  exact hgs y my
                · rw [List.mem_singleton.mp m]
                  exact b30
              have lenA : ((gs.map (·.1)) ++ [(10 : Int) ^ Int.toNat 30 - 1 - (0 + (k : Int))]).length = gs.length + 1 := by
                rw [List.length_append, List.length_map]
                rfl
              have hlast : ∃ x : Int, atI (((gs.map (·.1)) ++ [(10 : Int) ^ Int.toNat 30 - 1 - (0 + (k : Int))]).map V.int) (-1) = some (.int x) ∧ x.natAbs < 10 ^ 200 := ⟨_, by rw [List.map_append]; exact atI_last _ _, b30⟩
              revert ep RA GA TA hall lenA hlast
              generalize (gs.map (·.1)) ++ [(10 : Int) ^ Int.toNat 30 - 1 - (0 + (k : Int))] = ages
              generalize upd (upd Hx L _) p _ = HA
              intro ep RA GA TA hall lenA hlast
              dsimp only [gName]
              have eu8 := RA.at' j u r eu er
              refine ⟨.ref u, rfl, .inl ⟨rfl, _, SqL.of eu8⟩, .ref t, rfl, .ref u, rfl, u, _, rfl, .inl (SqL.of eu8), _, _, rfl, rfl, t, g, _, _, rfl, TA, by omega, ?_, ?_, fun HB rb kb TB ab bb => ?_⟩
              · rw [List.length_map]
                omega
              · rw [List.length_map]
                exact Int.lt_of_lt_of_le (show (r.length : Int) + 1 < 1001 by omega) (by decide)
              rw [List.length_map] at bb
              have RB := RA.keep kb
              have GB := GA.keep fun b u hb e => kb b u hb.1 e
              have epB := kb _ _ op ep
              have euB := RB.at' j u r eu er
              refine ⟨.ref p, rfl, _, rfl, rfl, _, rfl, ?_⟩
              obtain ⟨m, rfl⟩ : ∃ m : Nat, rb = m := ⟨rb.toNat, by omega⟩
              -- the end
              have fin : ∀ (HC : Hp) (n9 : Nat) (x : Int), Tray HC t g n9 → n9 ≤ n + 1 + 5 * (k + 1) → GsAt HC (Bes t g o us) a ts gs → RmsAt HC (Off t g) o us rs2 → x.natAbs < 10 ^ 200 →
                  ∃ rs3 : List (List Int), Tray (upd HC u (.lst ((r.map V.int).take ((m : Nat) : Int).toNat ++ [V.int x] ++ (r.map V.int).drop ((m : Nat) : Int).toNat))) t g (n + 1 + 5 * (k + 1)) ∧ GsAt (upd HC u (.lst ((r.map V.int).take ((m : Nat) : Int).toNat ++ [V.int x] ++ (r.map V.int).drop ((m : Nat) : Int).toNat))) (Bes t g o us) a ts gs ∧
                    RmsAt (upd HC u (.lst ((r.map V.int).take ((m : Nat) : Int).toNat ++ [V.int x] ++ (r.map V.int).drop ((m : Nat) : Int).toNat))) (Off t g) o us rs3 ∧ Smal rs3 ∧ rs3.length = rs.length ∧ rs3.flatten.length ≤ 60 + (k + 1) := by
                intro HC n9 x TC hn9 GC RC hx
                have e : (r.map V.int).take ((m : Nat) : Int).toNat ++ [V.int x] ++ (r.map V.int).drop ((m : Nat) : Int).toNat = (r.take m ++ [x] ++ r.drop m).map V.int := by
                  rw [Int.toNat_natCast, List.map_append, List.map_append, List.map_take, List.map_drop]
                  rfl
                rw [e]
                refine put HC n9 j u r _ TC hn9 GC RC eu er (fun z mz => ?_) ?_
                · rcases List.mem_append.mp mz with mz | mz
                  · rcases List.mem_append.mp mz with mz | mz
                    · exact sm2 r (List.mem_of_getElem? er) z (List.mem_of_mem_take mz)
                    · rw [List.mem_singleton.mp mz]
                      exact hx
                  · exact sm2 r (List.mem_of_getElem? er) z (List.mem_of_mem_drop mz)
                · simp only [List.length_append, List.length_take, List.length_drop, List.length_singleton]
                  omega
              by_cases h1 : r4 = 1
              · refine ifYes (by rw [h1]; rfl) ?_
                obtain ⟨x, ex1, hx⟩ := hlast
                obtain ⟨rs3, TD, GD, RD', smD, lD, fD⟩ := fin HB _ x TB (by omega) GB RB hx
                refine ⟨_, rfl, p, _, _, .int x, rfl, rfl, SqL.of epB, ex1, u, _, _, _, rfl, rfl, euB, ils (by rw [List.length_map]; omega), by omega, ?_, ?_⟩
                · exact Int.lt_trans bb (Int.lt_of_lt_of_le (show (r.length : Int) + 1 < 1001 by omega) (by decide))
                · exact ⟨_, _, _, _, _, rs3, rfl, TD, GD, RD', smD, lD, fD⟩
              · refine ifNo (by show decide (V.int r4 = V.int 1) = false; simp [h1]) ?_
                refine ⟨.ref t, rfl, .ref p, rfl, p, _, rfl, .inl (SqL.of epB), t, g, _, _, rfl, TB, by omega, ?_, ?_, fun HC rc kc TC ac bc => ?_⟩
                · rw [List.length_map, lenA]
                  omega
                · rw [List.length_map, lenA]
                  exact Int.lt_of_lt_of_le (show ((gs.length + 1 : Nat) : Int) < 1001 by omega) (by decide)
                rw [List.length_map] at bc
                have RC := RB.keep kc
                have GC := GB.keep fun b u hb e => kc b u hb.1 e
                have epC := kc _ _ op epB
                obtain ⟨m2, rfl⟩ : ∃ m2 : Nat, rc = m2 := ⟨rc.toNat, by omega⟩
                obtain ⟨x, ex1⟩ := at_some (l := ages) (i := m2) (by omega)
                have hx := hall x (List.mem_of_getElem? ex1)
                obtain ⟨rs3, TD, GD, RD', smD, lD, fD⟩ := fin HC _ x TC (by omega) GC RC hx
                refine ⟨p, _, _, .int x, rfl, rfl, SqL.of epC, atI_nat (j := m2) (by rw [List.getElem?_map, ex1]; rfl), u, _, _, _, rfl, rfl, RC.at' j u r eu er, ils (by rw [List.length_map]; omega), by omega, ?_, ?_⟩
                · exact Int.lt_trans bb (Int.lt_of_lt_of_le (show (r.length : Int) + 1 < 1001 by omega) (by decide))
                · exact ⟨_, _, _, _, _, rs3, rfl, TD, GD, RD', smD, lD, fD⟩
    · obtain ⟨y3, y4, y5, y6, y7, rs2, rfl, T2, G2, R2, sm2, rl2, fl2⟩ := hW
      exact q _ _ (T2.more (by omega)) G2 R2 sm2 rl2 (by omega)
end
end El
namespace El
open PySem PySem.Spec PyProof.Rows L2
section
variable {P : Program} {w : World} {K : PySem.W.Frag} {mg : Str → Option Value} {base : Heap}
abbrev s_law : Stmt := topS 25
abbrev N_law : List Str := ["script", "tray", "k", "turn", "some", "line", "held", "caught", "e"]
abbrev P_law : List Str := ["script"]
theorem sc_law : FnScope N_law P_law (defScope s_law) := ⟨rfl, rfl, rfl, by decide +kernel, rfl, by decide +kernel, by decide +kernel⟩
theorem small_200 {gs : List (Int × Int)} (h : ∀ g ∈ gs, (-1000000000000000000000000000000 < g.1 ∧ g.1 < 1000000000000000000000000000000) ∧ g.2 < 1000000000000000000000000000000) (f : Fit gs) : Fit200 gs := fun g m => by
  have h1 := h g m
  have h2 := f.pos g m
  have e : (1000000000000000000000000000000 : Nat) ≤ 10 ^ 200 := by decide
  exact ⟨by omega, by omega⟩
theorem rows_200 {gs : List (Int × Int)} {rs : List (List Int)} (h : Fit200 gs) (p : rs.flatten.Perm (gs.map (·.1))) : Smal rs := fun r mr x mx => by
  obtain ⟨g, mg, rfl⟩ := List.mem_map.mp (p.mem_iff.mp (List.mem_flatten.mpr ⟨r, mr, mx⟩))
  exact (h g mg).1
def sp_law (K : PySem.W.Frag) : Sp := fun vs H Q _ => ∃ (a : Addr) (ns : List Int), vs = [.ref a] ∧ SqL K H a (ns.map V.int) ∧ ns.length ≤ 63 ∧ ∀ H', Q (.bl true) H'
theorem ok_law {C0 CG CS CR CC CT : Addr} (A : At K mg "law" P_law s_law) (B : Bi mg)
    (D__law_tray : Df P w K mg base 1 "_law_tray" P__law_tray s__law_tray (sp__law_tray K)) (D__law_draw : Df P w K mg base 1 "_law_draw" P__law_draw s__law_draw sp__law_draw)
    (D__law_alike : Df P w K mg base 2 "_law_alike" P__law_alike s__law_alike (sp__law_alike 1))
    (D__law_guests : Df P w K mg base 4 "_law_guests" P__law_guests s__law_guests sp__law_guests) (D__law_parted : Df P w K mg base 3 "_law_parted" P__law_parted s__law_parted sp__law_parted)
    (D__law_bent : Df P w K mg base 2 "_law_bent" P__law_bent s__law_bent sp__law_bent) (D__law_due : Df P w K mg base 1 "_law_due" P__law_due s__law_due sp__law_due)
    (G_InnError : mg "InnError" = some (.ref C0)) (KG : KdZ K mg C0 CG CS CR CC CT CG "NoGuest") (KR : KdZ K mg C0 CG CS CR CC CT CR "NoRoom")
    (XD_upset : DfX P w K mg base 4 "upset" P_upset s_upset (sp_upset_x CG CR))
    (Z__law_kind : DfZ P w K mg base 1 "_law_kind" P__law_kind s__law_kind (sz__law_kind K mg CG CS CR CC CT)) : DfG P w K mg base 6 "law" P_law s_law (sp_law K) := by
  refine A.dfG sc_law (fun vs H Q E h => ?_) fun f fd F cdv AA outer s H vs Q E calm hr h => ?_
  · obtain ⟨a, _, rfl, _⟩ := h
    rfl
  · obtain ⟨a, ns, rfl, hS, hl, q⟩ := h
    have nd := sc_law.nd
    refine ⟨_, (pss_cons (ps_set (i := 1) nd rfl (.inl rfl) (pe_df D__law_tray (hr.mono (by decide)) (by rfl) (pa_cons (pv 0) pa_nil)))
    (pss_cons (ps_for PassesOwn.never rfl (pi_range1 (by rfl) B.range (pa_cons (pe_op op_add pe_int (pe_callB (call_min2 rfl) (by rfl) B.min (by decide +kernel) (pa_cons pe_int (pa_cons (pe_callB call_len_seq (by rfl) B.len PySem.boot_len (pa_cons (pv 0) pa_nil)) pa_nil)))) pa_nil)) (pg_name (i := 2) nd rfl (.inl rfl)) (pss_one (ps_for PassesOwn.never rfl (pi_range1 (by rfl) B.range (pa_cons pe_int pa_nil)) (pg_name (i := 3) nd rfl (.inl rfl)) (pss_cons (ps_set (i := 4) nd rfl (.inl rfl) (pe_df D__law_guests (hr.mono (by decide)) (by rfl) (pa_cons (pv 1) (pa_cons (pe_ix ix_list (pe_lst (pa_cons pe_int (pa_cons pe_int (pa_cons pe_int pa_nil)))) (pe_df D__law_draw (hr.mono (by decide)) (by rfl) (pa_cons (pv 1) (pa_cons pe_int pa_nil))) (fun _ _ => rfl)) pa_nil)))) (pss_cons (ps_set (i := 5) nd rfl (.inl rfl) (pe_df D__law_parted (hr.mono (by decide)) (by rfl) (pa_cons (pv 1) (pa_cons (pv 4) (pa_cons (pe_df D__law_draw (hr.mono (by decide)) (by rfl) (pa_cons (pv 1) (pa_cons pe_int pa_nil))) pa_nil))))) (pss_cons (ps_expr (pe_df D__law_bent (hr.mono (by decide)) (by rfl) (pa_cons (pv 1) (pa_cons (pv 4) (pa_cons (pv 5) pa_nil))))) (pss_cons (ps_if (PW.pt (pw_and (pt_cmpR (op_neD hr.units) (pv 4) (pe_lst pa_nil) (nomark _)) (pw_and1 (pt_cmpR op_eq (pe_df D__law_draw (hr.mono (by decide)) (by rfl) (pa_cons (pv 1) (pa_cons pe_int pa_nil))) pe_int (nomark _))))) (pss_one (ps_expr (pe_bm PySem.F.plainAttrs_list PySem.F.slot_list_append PySem.F.type_list_append mt_append (pv 4) (pa_cons (pe_tup (pa_cons (pe_ix ix_tup (pe_ix ix_list (pv 4) pe_int (fun _ _ => rfl)) pe_int (fun _ _ => rfl)) (pa_cons pe_int pa_nil))) pa_nil)))) pss_nil) (pss_cons (ps_set (i := 6) nd rfl (.inl rfl) (pe_callB (call_reprD calm hr) (by rfl) B.repr (by decide +kernel) (pa_cons (pe_lst (pa_cons (pv 4) (pa_cons (pv 5) pa_nil))) pa_nil))) (pss_cons (ps_set (i := 7) nd rfl (.inl rfl) pe_non) (pss_cons (L2N.ps_try_as (i := 8) (Wout := fun _ _ _ _ => False) rfl rfl nd rfl rfl ⟨rfl, by decide, .inl G_InnError⟩ takes0N (fun W pn xe tk po => (pss_one (ps_expr (pe_dfS XD_upset tk (hr.mono (by decide)) (by rfl) (pa_cons (pv 4) (pa_cons (pv 5) pa_nil)))))) (fun a oe cls d pn hz hf => (pss_one (ps_set (i := 7) nd rfl (.inl rfl) (pe_dfZ Z__law_kind hz hf (hr.mono (by decide)) (by rfl) (pa_cons (pv 8) pa_nil)))))) (pss_one (ps_if (PW.pt (pw_or (pt_not (pt_val (pe_df D__law_alike (hr.mono (by decide)) (by rfl) (pa_cons (pv 7) (pa_cons (pe_df D__law_due (hr.mono (by decide)) (by rfl) (pa_cons (pv 4) (pa_cons (pv 5) pa_nil))) pa_nil))))) (pw_or1 (pt_cmpR op_ne (pe_callB (call_reprD calm hr) (by rfl) B.repr (by decide +kernel) (pa_cons (pe_lst (pa_cons (pv 4) (pa_cons (pv 5) pa_nil))) pa_nil)) (pv 6) (nomark _))))) (pss_one (ps_ret pe_bl)) pss_nil))))))))))))
    (pss_one (ps_ret pe_bl)))), ?_⟩
    refine ⟨.ref a, rfl, a, ns, rfl, hS, hl, fun H1 t g s1 nt ng hT => ?_⟩
    refine ⟨.ref a, rfl, a, _, rfl, .inl (s1.seq hS), _, _, rfl, _, _, rfl, rfl, _, rfl, ?_, ?_, ?_⟩
    · split <;> omega
    · split <;> omega
    have hlaps : ((3 : Int) + (if ((ns.map V.int).length : Int) < 8 then ((ns.map V.int).length : Int) else 8)).toNat ≤ 11 := by
      split <;> omega
    refine for_it walk_range (fun i σ H2 => ∃ y2 y3 y4 y5 y6 y7, σ = [some (.ref a), some (.ref t), y2, y3, y4, y5, y6, y7, none] ∧ Tray H2 t g (30000 * i)) ⟨_, _, _, _, _, _, rfl, hT⟩ (fun _ _ _ _ _ => trivial) (fun i x σ H3 H4 hi hW hY => ?_) (fun σ H2 hW => ?_)
    · obtain ⟨y2, y3, y4, y5, y6, y7, rfl, T3⟩ := hW
      obtain ⟨rfl, rfl⟩ := hY
      have hi11 : i ≤ 10 := by omega
      refine ⟨_, rfl, by decide, by decide, ?_⟩
      refine for_it walk_range (fun j σ H8 => ∃ y3 y4 y5 y6 y7, σ = [some (.ref a), some (.ref t), some (.int (0 + (i : Int))), y3, y4, y5, y6, y7, none] ∧ Tray H8 t g (30000 * i + 6000 * j)) ⟨_, _, _, _, _, rfl, T3⟩ (fun _ _ _ _ _ => trivial) (fun j x σ H8 H9 hj hW hY => ?_) (fun σ H8 hW => ?_)
      · obtain ⟨y3, y4, y5, y6, y7, rfl, T8⟩ := hW
        obtain ⟨rfl, rfl⟩ := hY
        have hj3 : j < 5 := hj
        dsimp only [gName]
        -- some
        refine ⟨.ref t, rfl, (by show 3 ≤ sizeLine; decide), fun p np => ?_⟩
        have op : Off t g p := T8.off np
        refine ⟨.ref t, rfl, t, g, _, 3, rfl, T8.mut op, by omega, by decide, by decide, fun H5 r5 k5 T5 a5 b5 => ?_⟩
        obtain ⟨most, hv, hm0, hm1⟩ := pick3 (P := fun x => 0 < x ∧ x ≤ 60) (a := 6) (b := 30) (c := 59) a5 b5 ⟨by decide, by decide⟩ ⟨by decide, by decide⟩ ⟨by decide, by decide⟩
        obtain ⟨m, rfl⟩ : ∃ m : Nat, most = (m : Int) := ⟨most.toNat, by omega⟩
        refine ⟨p, _, _, _, rfl, rfl, SqL.of (k5 _ _ op upd_same), hv, t, g, _, m, rfl, T5, by omega, by omega, fun H6 o ts gs k6 T6 hG6 hno hF hcl hbd => ?_⟩
        have hg : gs.length ≤ 60 := by omega
        have f200 := small_200 hbd hF
        have hG6 := hG6.reB (B' := Off t g) fun b _ e => T5.off e
        dsimp only [gName]
        -- line
        refine ⟨.ref t, rfl, .ref o, rfl, .ref t, rfl, t, g, _, 2, rfl, T6, by omega, by decide, by decide, fun H7 r7 k7 T7 a7 b7 => ?_⟩
        have hG7 := hG6.keep k7
        refine ⟨_, t, g, o, _, ts, gs, r7, rfl, by omega, T7, hG7, fun _ h => h, hF, hg, by omega, fun H10 ln us os k10 T10 hR1 hperm hcalm hlen => ?_⟩
        have hG10 := hG7.keep k10
        have hR10 := hR1.weaken (B' := Off t g) fun b e => T7.off e
        have live : ∀ b, (b = o ∨ b ∈ ts) → H7 b = none → False := fun b m z => by
          obtain ⟨v, e⟩ := hG7.there b m
          rw [e] at z
          cases z
        have hGB : GsAt H10 (Bes t g ln us) o ts gs := hG10.reB fun b m h => ⟨h, fun z => live b m (hR1.b b z), fun z => live b m (z ▸ hR1.bo)⟩
        clear live
        have sm0 := rows_200 f200 hperm
        have fl0 : os.flatten.length ≤ 60 := by
          rw [hperm.length_eq, List.length_map]
          exact hg
        dsimp only [gName]
        refine ⟨.ref t, rfl, .ref o, rfl, .ref ln, rfl, t, g, o, ln, _, ts, us, gs, os, rfl, T10, by omega, hGB, hR10, hg, by omega, fl0, fun x mx => (f200 x mx).1, sm0, fun H11 rs T11 G11 R11 sm11 rl11 fl11 => ?_⟩
        clear hG6 hG7 hG10 hR1 hR10 hGB hperm hcalm sm0 fl0
        dsimp only
        -- one more that there can't be
        refine seq_to (fun σ Hz => ∃ (ts' : List Addr) (gs' : List (Int × Int)), σ = [some (.ref a), some (.ref t), some (.int (0 + (i : Int))), some (.int (0 + (j : Int))), some (.ref o), some (.ref ln), y6, y7, none] ∧ Tray Hz t g (30000 * i + 6000 * j + 5800) ∧ GsAt Hz (fun _ => True) o ts' gs' ∧ RmsAt Hz (fun _ => True) ln us rs ∧ gs'.length ≤ 61 ∧ Fit200 gs') (fun Y hYY => ?_) (fun σ Hz hE => ?_)
        · refine ⟨.ref o, rfl, Nat.zero_le _, fun em nem => ?_⟩
          have s6 := same_new (o := .lst []) nem
          have G12 := G11.same s6
          have R12 := R11.same s6
          have T12 := T11.keep s6
          refine ⟨dGs gs, dInts [], (G11.same s6).dp, Dp.ints (ns := []) upd_same, (Oks.gs _).shaped, (Oks.ints _).shaped, _, rfl, ?_⟩
          have ee : PyData.eqv (dGs gs) (dInts []) = gs.isEmpty := by cases gs <;> rfl
          rw [ee]
          clear ee
          cases hgs : gs.isEmpty with
          | true => exact iteF (hYY _ _ ⟨ts, gs, rfl, T12.more (by omega), G12.weaken fun _ _ => trivial, R12.weaken fun _ _ => trivial, by omega, f200⟩)
          | false =>
            refine iteT ?_
            have hpos : 0 < gs.length := by
              cases gs with
              | nil => cases hgs
              | cons _ _ => exact Nat.succ_pos _
            clear hgs
            refine ⟨.ref t, rfl, t, g, _, 5, rfl, T12, by omega, by decide, by decide, fun H13 r13 k13 T13 a13 b13 => ?_⟩
            have G13 := G12.keep fun b u hb e => k13 b u hb.1 e
            have R13 := R12.keep k13
            refine ⟨rfl, _, rfl, ?_⟩
            by_cases h0 : r13 = 0
            · refine ifYes (by rw [h0]; rfl) ?_
              obtain ⟨g0, eg0⟩ := at_some (l := gs) (i := 0) hpos
              obtain ⟨t0, et0⟩ := at_some (l := ts) (i := 0) (by rw [G13.len]; exact hpos)
              have h6 := G13.at' 0 t0 g0 et0 eg0
              refine ⟨.ref o, rfl, .inl ⟨rfl, _, G13.seq⟩, .ref o, rfl, o, _, _, .ref t0, rfl, rfl, G13.seq, atI_nat (j := 0) (by rw [List.getElem?_map, et0]; rfl), t0, _, _, .int g0.1, rfl, rfl, SqT.of h6, atI_nat (j := 0) rfl, (by show 2 ≤ sizeLine; decide), fun u nu => ?_⟩
              have su := same_new (o := .tup [.int g0.1, .int 3]) nu
              have G14 := G13.same su
              have R14 := R13.same su
              have T14 := T13.keep su
              refine ⟨o, _, _, rfl, rfl, G14.top, ils (by rw [List.length_map, G14.len]; omega), ?_⟩
              refine hYY _ _ ⟨ts ++ [u], gs ++ [(g0.1, 3)], rfl, (T14.mut G14.ba.1).more (by omega), (G14.push hno (g := (g0.1, 3)) upd_same ⟨T13.off nu, fun z => ?_, fun z => ?_⟩).weaken fun _ _ => trivial, R14.newTop (fun b v m e => ?_) (fun _ _ => trivial), by rw [List.length_append, List.length_singleton]; omega, fun x m => ?_⟩
              · obtain ⟨r', er'⟩ := R13.lives z
                rw [nu] at er'
                cases er'
              · rw [z, R13.top] at nu
                cases nu
              · have ne : b ≠ o := by
                  rcases m with rfl | m
                  · exact G14.ba.2.2.symm
                  · exact fun z => G14.ba.2.1 (z ▸ m)
                rw [upd_ne ne]
                exact e
              · rcases List.mem_append.mp m with m | m
                · exact f200 x m
                · rw [List.mem_singleton.mp m]
                  exact ⟨(f200 g0 (List.mem_of_getElem? eg0)).1, by show (3 : Int).natAbs < 10 ^ 200; decide⟩
            · refine ifNo (by show decide (V.int r13 = V.int 0) = false; simp [h0]) ?_
              exact hYY _ _ ⟨ts, gs, rfl, T13.more (by omega), G13.weaken fun _ _ => trivial, R13.weaken fun _ _ => trivial, by omega, f200⟩
        clear G11 R11 T11 f200 hF hcl hbd hg hno hv
        obtain ⟨ts, gs, rfl, Tz, hGz, hRz, hg, f200⟩ := hE
        have hrl : rs.length ≤ 200 := by omega
        have toldH : ∀ {Hx : Hp} {h1 : Addr}, GsAt Hx (fun _ => True) o ts gs → RmsAt Hx (fun _ => True) ln us rs → Hx h1 = none → Dp K (upd Hx h1 (.lst [.ref o, .ref ln])) (.ref h1) (dHeld gs rs) := fun G R n1 => Dp.lst (SqL.of upd_same) (.cons (G.same (same_new n1)).dp (.cons (R.same (same_new n1)).dp .nil))
        refine ⟨.ref o, rfl, .ref ln, rfl, (by show 2 ≤ sizeLine; decide), fun h1 nh1 => ⟨h1, dHeld gs rs, rfl, toldH hGz hRz nh1, held_showable f200 sm11, PyData.hasDict_of_canLay _ (held_oks gs rs).can, Nat.le_trans (held_oks gs rs).dep (by decide), held_shown f200 sm11 (by omega) (by omega) (by omega), ?_⟩⟩
        have sh1 := same_new (o := .lst [V.ref o, .ref ln]) nh1
        have hGy := hGz.same sh1
        have hRy := hRz.same sh1
        have Ty := Tz.keep sh1
        revert hGy hRy Ty
        generalize upd Hz h1 (.lst [V.ref o, .ref ln]) = Hy
        clear sh1 nh1 hGz hRz Tz
        intro hGy hRy Ty
        obtain ⟨D, hD⟩ := arr_is gs rs
        dsimp only [gName]
        refine seq_to (fun σ Hx => σ = [some (.ref a), some (.ref t), some (.int (0 + (i : Int))), some (.int (0 + (j : Int))), some (.ref o), some (.ref ln), some (.str (dHeld gs rs).shown), some .non, none] ∧ Hx = Hy) (fun Y hYY => hYY _ _ ⟨rfl, rfl⟩) (fun σ Hx hE => ?_)
        obtain ⟨rfl, hh⟩ := hE
        rw [hh]
        clear hh
        -- what upset tells
        refine seq_to (fun σ Hx => ∃ v, σ = [some (.ref a), some (.ref t), some (.int (0 + (i : Int))), some (.int (0 + (j : Int))), some (.ref o), some (.ref ln), some (.str (dHeld gs rs).shown), some v, none] ∧ Same Hy Hx ∧ TolN Hx v D) (fun Y hYY => ?_) (fun σ Hx hE => ?_)
        · refine' with_key (σ := [some (.ref a), some (.ref t), some (.int (0 + (i : Int))), some (.int (0 + (j : Int))), some (.ref o), some (.ref ln), some (.str (dHeld gs rs).shown), some .non, none]) (Pk := fun c d H1 => ∃ (C : Addr) (nm : Str) (z : Option Int) (dx : Addr), c = .ref C ∧ d = some dx ∧ KdZ K mg C0 CG CS CR CC CT C nm ∧ Same Hy H1 ∧ H1 dx = some (.xd [(("what" : Str), whV z)]) ∧ D = some (nm, z)) (fun key => ?_) (fun c d H1 hP => ?_)
          rotate_left
          · refine ⟨.ref o, rfl, .ref ln, rfl, ?_⟩
            rcases hD with ⟨i', hb, hD⟩ | ⟨hF, ⟨k', hk, hD⟩ | ⟨hk, hD⟩ | ⟨hp, hD⟩⟩
            · exact .inr (.inl ⟨_, o, ts, gs, i', [.ref ln], rfl, rfl, hGy, by omega, hb, fun H' d s1 e => key (.ref CG) (some d) H' ⟨CG, _, some (i' : Int), d, rfl, rfl, KG, s1, e, hD⟩⟩)
            · exact .inr (.inr ⟨_, o, ln, ts, us, gs, _, rfl, hGy, hF, by omega, hRy.rd, by omega, .inl ⟨k', hk, fun H' d s1 e => key (.ref CR) (some d) H' ⟨CR, _, some (k' : Int), d, rfl, rfl, KR, s1, e, hD⟩⟩⟩)
            · exact .inr (.inr ⟨_, o, ln, ts, us, gs, _, rfl, hGy, hF, by omega, hRy.rd, by omega, .inr ⟨hk, fun H' d s1 e => key (.ref CR) (some d) H' ⟨CR, _, none, d, rfl, rfl, KR, s1, e, hD⟩⟩⟩)
            · have fin : ∀ H1, Same Hy H1 → Y _ H1 := fun H1 s1 => hYY _ _ ⟨.non, rfl, s1, by rw [hD]; rfl⟩
              exact .inl ⟨_, o, ln, ts, us, gs, _, rfl, hGy, hF, by omega, hRy.rd, hp, fun _ H' s1 => fin _ s1, fun _ _ _ H' t s1 _ _ => fin _ s1⟩
          · obtain ⟨C, nm, z, dx, rfl, rfl, kd, s1, ed, hD⟩ := hP
            obtain ⟨xn, fI, hO⟩ := kd.ex
            refine ⟨true, kd.te, fun _ a0 na => ?_, fun z => Bool.noConfusion z⟩
            refine ⟨.ref a0, rfl, C, dx, fI, xn, whV z, nm, rfl, rfl, rfl, ed, hO, kd.kd, fun H' r s2 nr er => ?_⟩
            exact hYY _ _ ⟨.ref r, rfl, s1.trans s2, by rw [hD]; exact ⟨r, rfl, er⟩⟩
        obtain ⟨v, rfl, sx, tv⟩ := hE
        have hGx := hGy.same sx
        have hRx := hRy.same sx
        -- alike
        refine ⟨v, rfl, .ref o, rfl, .ref ln, rfl, _, o, ln, ts, us, gs, rs, D, rfl, hGx, hRx.rd, by omega, by omega, hD, fun Hd v2 sd h2 => ?_⟩
        refine ⟨v, v2, rfl, (tv.keep sd).alk h2, fun Hc sc => ⟨_, rfl, ifNo rfl ?_⟩⟩
        have sac := sd.trans sc
        have hGc := hGx.same sac
        have hRc := hRx.same sac
        have Tc := (Ty.keep sx).keep sac
        refine ⟨.ref o, rfl, .ref ln, rfl, (by show 2 ≤ sizeLine; decide), fun h3 nh3 => ⟨h3, dHeld gs rs, rfl, toldH hGc hRc nh3, held_showable f200 sm11, PyData.hasDict_of_canLay _ (held_oks gs rs).can, Nat.le_trans (held_oks gs rs).dep (by decide), held_shown f200 sm11 (by omega) (by omega) (by omega), .str (dHeld gs rs).shown, rfl, rfl, _, rfl, ?_⟩⟩
        rw [nd_self]
        refine ifNo rfl ?_
        exact ⟨_, _, _, _, _, rfl, (Tc.keep (same_new (o := .lst [V.ref o, .ref ln]) nh3)).more (by omega)⟩
      · obtain ⟨y3, y4, y5, y6, y7, rfl, T8⟩ := hW
        exact ⟨_, _, _, _, _, _, rfl, T8.more (by omega)⟩
    · exact q _
end
end El
namespace El
open PySem PySem.Spec PyProof.Rows L2
theorem all_mk {l : PySem.W.OpenLaw} {w : World} {K : PySem.W.Frag} {h : Heap} {mg : Str → Option Value} {fa f1 f2 f3 f4 f5 f6 f7 f8 f9 f10 f11 f12 f13 f14 f15 f16 : Addr} (X : K.In h) (G : h.Ns mainGlobals mg) (hfa : mg "law" = some (.ref fa))
    {od1 an1 od2 an2 od3 an3 od4 an4 od5 an5 od6 an6 od7 an7 od8 an8 od9 an9 od10 an10 od11 an11 od12 an12 od13 an13 od14 an14 od15 an15 od16 an16 : Option Addr} {sl1 sl2 sl3 sl4 sl5 sl6 sl7 sl8 sl9 sl10 sl11 sl12 sl13 sl14 sl15 sl16 : Array (Option Value)} {oc1 kV1 dc1 pm1 cd1 ct1 oc2 kV2 dc2 pm2 cd2 ct2 oc3 kV3 dc3 pm3 cd3 ct3 oc4 kV4 dc4 pm4 cd4 ct4 oc5 kV5 dc5 pm5 cd5 ct5 oc6 kV6 dc6 pm6 cd6 ct6 oc7 kV7 dc7 pm7 cd7 ct7 oc8 kV8 dc8 pm8 cd8 ct8 oc9 kV9 dc9 pm9 cd9 ct9 oc10 kV10 dc10 pm10 cd10 ct10 oc11 kV11 dc11 pm11 cd11 ct11 oc12 kV12 dc12 pm12 cd12 ct12 oc13 kV13 dc13 pm13 cd13 ct13 oc14 kV14 dc14 pm14 cd14 ct14 oc15 kV15 dc15 pm15 cd15 ct15 oc16 kV16 dc16 pm16 cd16 ct16 : Value}
    (a1 : PySem.W.nsIn K mainGlobals "patience_by_age" = some (some (.ref f1))) (l1 : K.lookup f1 = some ⟨oc1, od1, .func (PySem.W.fnOf "patience_by_age" "patience_by_age" (defArgs s_patience_by_age) (defBody s_patience_by_age) (defScope s_patience_by_age) .none kV1 dc1 pm1 an1 cd1 ct1), sl1⟩) (c1 : PySem.W.codeIn K cd1 "patience_by_age" = true) (k1 : PySem.W.keepIn K (.ref f1) = true)
    (a2 : PySem.W.nsIn K mainGlobals "check_arrangement" = some (some (.ref f2))) (l2 : K.lookup f2 = some ⟨oc2, od2, .func (PySem.W.fnOf "check_arrangement" "check_arrangement" (defArgs s_check_arrangement) (defBody s_check_arrangement) (defScope s_check_arrangement) .none kV2 dc2 pm2 an2 cd2 ct2), sl2⟩) (c2 : PySem.W.codeIn K cd2 "check_arrangement" = true) (k2 : PySem.W.keepIn K (.ref f2) = true)
    (a3 : PySem.W.nsIn K mainGlobals "eldest_upset" = some (some (.ref f3))) (l3 : K.lookup f3 = some ⟨oc3, od3, .func (PySem.W.fnOf "eldest_upset" "eldest_upset" (defArgs s_eldest_upset) (defBody s_eldest_upset) (defScope s_eldest_upset) .none kV3 dc3 pm3 an3 cd3 ct3), sl3⟩) (c3 : PySem.W.codeIn K cd3 "eldest_upset" = true) (k3 : PySem.W.keepIn K (.ref f3) = true)
    (a4 : PySem.W.nsIn K mainGlobals "upset" = some (some (.ref f4))) (l4 : K.lookup f4 = some ⟨oc4, od4, .func (PySem.W.fnOf "upset" "upset" (defArgs s_upset) (defBody s_upset) (defScope s_upset) .none kV4 dc4 pm4 an4 cd4 ct4), sl4⟩) (c4 : PySem.W.codeIn K cd4 "upset" = true) (k4 : PySem.W.keepIn K (.ref f4) = true)
    (a5 : PySem.W.nsIn K mainGlobals "_law_tray" = some (some (.ref f5))) (l5 : K.lookup f5 = some ⟨oc5, od5, .func (PySem.W.fnOf "_law_tray" "_law_tray" (defArgs s__law_tray) (defBody s__law_tray) (defScope s__law_tray) .none kV5 dc5 pm5 an5 cd5 ct5), sl5⟩) (c5 : PySem.W.codeIn K cd5 "_law_tray" = true) (k5 : PySem.W.keepIn K (.ref f5) = true)
    (a6 : PySem.W.nsIn K mainGlobals "_law_draw" = some (some (.ref f6))) (l6 : K.lookup f6 = some ⟨oc6, od6, .func (PySem.W.fnOf "_law_draw" "_law_draw" (defArgs s__law_draw) (defBody s__law_draw) (defScope s__law_draw) .none kV6 dc6 pm6 an6 cd6 ct6), sl6⟩) (c6 : PySem.W.codeIn K cd6 "_law_draw" = true) (k6 : PySem.W.keepIn K (.ref f6) = true)
    (a7 : PySem.W.nsIn K mainGlobals "_law_alike" = some (some (.ref f7))) (l7 : K.lookup f7 = some ⟨oc7, od7, .func (PySem.W.fnOf "_law_alike" "_law_alike" (defArgs s__law_alike) (defBody s__law_alike) (defScope s__law_alike) .none kV7 dc7 pm7 an7 cd7 ct7), sl7⟩) (c7 : PySem.W.codeIn K cd7 "_law_alike" = true) (k7 : PySem.W.keepIn K (.ref f7) = true)
    (a8 : PySem.W.nsIn K mainGlobals "_law_shuffled" = some (some (.ref f8))) (l8 : K.lookup f8 = some ⟨oc8, od8, .func (PySem.W.fnOf "_law_shuffled" "_law_shuffled" (defArgs s__law_shuffled) (defBody s__law_shuffled) (defScope s__law_shuffled) .none kV8 dc8 pm8 an8 cd8 ct8), sl8⟩) (c8 : PySem.W.codeIn K cd8 "_law_shuffled" = true) (k8 : PySem.W.keepIn K (.ref f8) = true)
    (a9 : PySem.W.nsIn K mainGlobals "_law_ages" = some (some (.ref f9))) (l9 : K.lookup f9 = some ⟨oc9, od9, .func (PySem.W.fnOf "_law_ages" "_law_ages" (defArgs s__law_ages) (defBody s__law_ages) (defScope s__law_ages) .none kV9 dc9 pm9 an9 cd9 ct9), sl9⟩) (c9 : PySem.W.codeIn K cd9 "_law_ages" = true) (k9 : PySem.W.keepIn K (.ref f9) = true)
    (a10 : PySem.W.nsIn K mainGlobals "_law_patience" = some (some (.ref f10))) (l10 : K.lookup f10 = some ⟨oc10, od10, .func (PySem.W.fnOf "_law_patience" "_law_patience" (defArgs s__law_patience) (defBody s__law_patience) (defScope s__law_patience) .none kV10 dc10 pm10 an10 cd10 ct10), sl10⟩) (c10 : PySem.W.codeIn K cd10 "_law_patience" = true) (k10 : PySem.W.keepIn K (.ref f10) = true)
    (a11 : PySem.W.nsIn K mainGlobals "_law_guests" = some (some (.ref f11))) (l11 : K.lookup f11 = some ⟨oc11, od11, .func (PySem.W.fnOf "_law_guests" "_law_guests" (defArgs s__law_guests) (defBody s__law_guests) (defScope s__law_guests) .none kV11 dc11 pm11 an11 cd11 ct11), sl11⟩) (c11 : PySem.W.codeIn K cd11 "_law_guests" = true) (k11 : PySem.W.keepIn K (.ref f11) = true)
    (a12 : PySem.W.nsIn K mainGlobals "_law_parted" = some (some (.ref f12))) (l12 : K.lookup f12 = some ⟨oc12, od12, .func (PySem.W.fnOf "_law_parted" "_law_parted" (defArgs s__law_parted) (defBody s__law_parted) (defScope s__law_parted) .none kV12 dc12 pm12 an12 cd12 ct12), sl12⟩) (c12 : PySem.W.codeIn K cd12 "_law_parted" = true) (k12 : PySem.W.keepIn K (.ref f12) = true)
    (a13 : PySem.W.nsIn K mainGlobals "_law_kind" = some (some (.ref f13))) (l13 : K.lookup f13 = some ⟨oc13, od13, .func (PySem.W.fnOf "_law_kind" "_law_kind" (defArgs s__law_kind) (defBody s__law_kind) (defScope s__law_kind) .none kV13 dc13 pm13 an13 cd13 ct13), sl13⟩) (c13 : PySem.W.codeIn K cd13 "_law_kind" = true) (k13 : PySem.W.keepIn K (.ref f13) = true)
    (a14 : PySem.W.nsIn K mainGlobals "_law_due" = some (some (.ref f14))) (l14 : K.lookup f14 = some ⟨oc14, od14, .func (PySem.W.fnOf "_law_due" "_law_due" (defArgs s__law_due) (defBody s__law_due) (defScope s__law_due) .none kV14 dc14 pm14 an14 cd14 ct14), sl14⟩) (c14 : PySem.W.codeIn K cd14 "_law_due" = true) (k14 : PySem.W.keepIn K (.ref f14) = true)
    (a15 : PySem.W.nsIn K mainGlobals "_law_bent" = some (some (.ref f15))) (l15 : K.lookup f15 = some ⟨oc15, od15, .func (PySem.W.fnOf "_law_bent" "_law_bent" (defArgs s__law_bent) (defBody s__law_bent) (defScope s__law_bent) .none kV15 dc15 pm15 an15 cd15 ct15), sl15⟩) (c15 : PySem.W.codeIn K cd15 "_law_bent" = true) (k15 : PySem.W.keepIn K (.ref f15) = true)
    (a16 : PySem.W.nsIn K mainGlobals "law" = some (some (.ref f16))) (l16 : K.lookup f16 = some ⟨oc16, od16, .func (PySem.W.fnOf "law" "law" (defArgs s_law) (defBody s_law) (defScope s_law) .none kV16 dc16 pm16 an16 cd16 ct16), sl16⟩) (c16 : PySem.W.codeIn K cd16 "law" = true) (k16 : PySem.W.keepIn K (.ref f16) = true)
    {C0 : Addr} {CNoGuest fNoGuest NNoGuest : Addr} {nmNoGuest qNoGuest : Str} {bsNoGuest subNoGuest : List Value} {snNoGuest : List Str} {abNoGuest : Bool} {colNoGuest : Option Bool} {ddNoGuest odNoGuest anNoGuest : Option Addr} {m0NoGuest m1NoGuest m2NoGuest m3NoGuest m5NoGuest : Option Value} {ocNoGuest kVNoGuest dcNoGuest pmNoGuest cdNoGuest ctNoGuest : Value} {oslNoGuest : Array (Option Value)} {CNoRooms fNoRooms NNoRooms : Addr} {nmNoRooms qNoRooms : Str} {bsNoRooms subNoRooms : List Value} {snNoRooms : List Str} {abNoRooms : Bool} {colNoRooms : Option Bool} {ddNoRooms odNoRooms anNoRooms : Option Addr} {m0NoRooms m1NoRooms m2NoRooms m3NoRooms m5NoRooms : Option Value} {ocNoRooms kVNoRooms dcNoRooms pmNoRooms cdNoRooms ctNoRooms : Value} {oslNoRooms : Array (Option Value)} {CNoRoom fNoRoom NNoRoom : Addr} {nmNoRoom qNoRoom : Str} {bsNoRoom subNoRoom : List Value} {snNoRoom : List Str} {abNoRoom : Bool} {colNoRoom : Option Bool} {ddNoRoom odNoRoom anNoRoom : Option Addr} {m0NoRoom m1NoRoom m2NoRoom m3NoRoom m5NoRoom : Option Value} {ocNoRoom kVNoRoom dcNoRoom pmNoRoom cdNoRoom ctNoRoom : Value} {oslNoRoom : Array (Option Value)} {CNoCrowd fNoCrowd NNoCrowd : Addr} {nmNoCrowd qNoCrowd : Str} {bsNoCrowd subNoCrowd : List Value} {snNoCrowd : List Str} {abNoCrowd : Bool} {colNoCrowd : Option Bool} {ddNoCrowd odNoCrowd anNoCrowd : Option Addr} {m0NoCrowd m1NoCrowd m2NoCrowd m3NoCrowd m5NoCrowd : Option Value} {ocNoCrowd kVNoCrowd dcNoCrowd pmNoCrowd cdNoCrowd ctNoCrowd : Value} {oslNoCrowd : Array (Option Value)} {CNoText fNoText NNoText : Addr} {nmNoText qNoText : Str} {bsNoText subNoText : List Value} {snNoText : List Str} {abNoText : Bool} {colNoText : Option Bool} {ddNoText odNoText anNoText : Option Addr} {m0NoText m1NoText m2NoText m3NoText m5NoText : Option Value} {ocNoText kVNoText dcNoText pmNoText cdNoText ctNoText : Value} {oslNoText : Array (Option Value)}
    (aC0 : PySem.W.nsIn K mainGlobals "InnError" = some (some (.ref C0)))
    (rd0 : PySem.W.readsIn K C0 (.type "type") = true)
    (sg0 : PySem.W.specialIn K (.ref C0) "__getattribute__" = some (some (.builtin "type.__getattribute__")))
    (fc0 : PySem.W.findCls K (.ref C0) (.type "type") "__init__" = some (.val (.builtin "ValueError.__init__")))
    (eC0 : PySem.W.subIn K (.ref C0) (.type "BaseException") = some true)
    (hC0 : PySem.W.hasDictIn K C0 = true)
    (tC0 : PySem.W.typeIn K (.ref C0) = some (.type "type"))
    (jn : PySem.W.specialIn K (.builtin "object.__class__") "__get__" = some (some (.builtin "getset_descriptor.__get__")))
    (jt : PySem.W.takesIn K (.builtin "object.__class__") = some true)
    (gNoGuest : PySem.W.nsIn K mainGlobals "NoGuest" = some (some (.ref CNoGuest)))
    (xlNoGuest : K.lookup CNoGuest = some (excClassObj nmNoGuest qNoGuest CNoGuest NNoGuest bsNoGuest [.ref C0, .type "ValueError", .type "Exception", .type "BaseException", .type "object"] true snNoGuest subNoGuest abNoGuest colNoGuest ddNoGuest m0NoGuest m1NoGuest m2NoGuest m3NoGuest m5NoGuest "ValueError.__new__"))
    (saNoGuest : PySem.W.findIn K (.ref CNoGuest) "__setattr__" = some (some (.builtin "object.__setattr__")))
    (gaNoGuest : PySem.W.findIn K (.ref CNoGuest) "__getattribute__" = some (some (.builtin "BaseException.__getattribute__")))
    (ggNoGuest : PySem.W.findIn K (.ref CNoGuest) "__getattr__" = some none)
    (nwNoGuest : PySem.W.findIn K (.ref CNoGuest) "what" = some none)
    (aiNoGuest : PySem.W.findIn K (.ref CNoGuest) "__init__" = some (some (.ref fNoGuest)))
    (tiNoGuest : PySem.W.typeIn K (.ref fNoGuest) = some (.type "function"))
    (liNoGuest : K.lookup fNoGuest = some ⟨ocNoGuest, odNoGuest, .func (PySem.W.fnOf "__init__" "NoGuest.__init__" (defArgs sI_NoGuest) (defBody sI_NoGuest) (defScope sI_NoGuest) .none kVNoGuest dcNoGuest pmNoGuest anNoGuest cdNoGuest ctNoGuest), oslNoGuest⟩)
    (ciNoGuest : PySem.W.codeIn K cdNoGuest "NoGuest.__init__" = true)
    (kiNoGuest : PySem.W.keepIn K (.ref fNoGuest) = true)
    (kCNoGuest : PySem.W.keepIn K (.ref CNoGuest) = true)
    (eCNoGuest : PySem.W.subIn K (.ref CNoGuest) (.type "BaseException") = some true)
    (tCNoGuest : PySem.W.typeIn K (.ref CNoGuest) = some (.type "type"))
    (hCNoGuest : PySem.W.hasDictIn K CNoGuest = true)
    (clNoGuest : PySem.W.isClsIn K CNoGuest = true)
    (svNoGuest : PySem.W.subIn K (.ref CNoGuest) (.type "ValueError") = some true)
    (acNoGuest : PySem.W.findIn K (.ref CNoGuest) "__class__" = some (some (.builtin "object.__class__")))
    (moNoGuest : PySem.W.mroIn K CNoGuest (.type "object") = some true)
    (suNoGuest : PySem.W.subIn K (.ref CNoGuest) (.ref C0) = some true)
    (gNoRooms : PySem.W.nsIn K mainGlobals "NoRooms" = some (some (.ref CNoRooms)))
    (xlNoRooms : K.lookup CNoRooms = some (excClassObj nmNoRooms qNoRooms CNoRooms NNoRooms bsNoRooms [.ref C0, .type "ValueError", .type "Exception", .type "BaseException", .type "object"] true snNoRooms subNoRooms abNoRooms colNoRooms ddNoRooms m0NoRooms m1NoRooms m2NoRooms m3NoRooms m5NoRooms "ValueError.__new__"))
    (saNoRooms : PySem.W.findIn K (.ref CNoRooms) "__setattr__" = some (some (.builtin "object.__setattr__")))
    (gaNoRooms : PySem.W.findIn K (.ref CNoRooms) "__getattribute__" = some (some (.builtin "BaseException.__getattribute__")))
    (ggNoRooms : PySem.W.findIn K (.ref CNoRooms) "__getattr__" = some none)
    (nwNoRooms : PySem.W.findIn K (.ref CNoRooms) "what" = some none)
    (aiNoRooms : PySem.W.findIn K (.ref CNoRooms) "__init__" = some (some (.ref fNoRooms)))
    (tiNoRooms : PySem.W.typeIn K (.ref fNoRooms) = some (.type "function"))
    (liNoRooms : K.lookup fNoRooms = some ⟨ocNoRooms, odNoRooms, .func (PySem.W.fnOf "__init__" "NoRooms.__init__" (defArgs sI_NoRooms) (defBody sI_NoRooms) (defScope sI_NoRooms) .none kVNoRooms dcNoRooms pmNoRooms anNoRooms cdNoRooms ctNoRooms), oslNoRooms⟩)
    (ciNoRooms : PySem.W.codeIn K cdNoRooms "NoRooms.__init__" = true)
    (kiNoRooms : PySem.W.keepIn K (.ref fNoRooms) = true)
    (kCNoRooms : PySem.W.keepIn K (.ref CNoRooms) = true)
    (eCNoRooms : PySem.W.subIn K (.ref CNoRooms) (.type "BaseException") = some true)
    (tCNoRooms : PySem.W.typeIn K (.ref CNoRooms) = some (.type "type"))
    (hCNoRooms : PySem.W.hasDictIn K CNoRooms = true)
    (clNoRooms : PySem.W.isClsIn K CNoRooms = true)
    (svNoRooms : PySem.W.subIn K (.ref CNoRooms) (.type "ValueError") = some true)
    (acNoRooms : PySem.W.findIn K (.ref CNoRooms) "__class__" = some (some (.builtin "object.__class__")))
    (moNoRooms : PySem.W.mroIn K CNoRooms (.type "object") = some true)
    (suNoRooms : PySem.W.subIn K (.ref CNoRooms) (.ref C0) = some true)
    (gNoRoom : PySem.W.nsIn K mainGlobals "NoRoom" = some (some (.ref CNoRoom)))
    (xlNoRoom : K.lookup CNoRoom = some (excClassObj nmNoRoom qNoRoom CNoRoom NNoRoom bsNoRoom [.ref C0, .type "ValueError", .type "Exception", .type "BaseException", .type "object"] true snNoRoom subNoRoom abNoRoom colNoRoom ddNoRoom m0NoRoom m1NoRoom m2NoRoom m3NoRoom m5NoRoom "ValueError.__new__"))
    (saNoRoom : PySem.W.findIn K (.ref CNoRoom) "__setattr__" = some (some (.builtin "object.__setattr__")))
    (gaNoRoom : PySem.W.findIn K (.ref CNoRoom) "__getattribute__" = some (some (.builtin "BaseException.__getattribute__")))
    (ggNoRoom : PySem.W.findIn K (.ref CNoRoom) "__getattr__" = some none)
    (nwNoRoom : PySem.W.findIn K (.ref CNoRoom) "what" = some none)
    (aiNoRoom : PySem.W.findIn K (.ref CNoRoom) "__init__" = some (some (.ref fNoRoom)))
    (tiNoRoom : PySem.W.typeIn K (.ref fNoRoom) = some (.type "function"))
    (liNoRoom : K.lookup fNoRoom = some ⟨ocNoRoom, odNoRoom, .func (PySem.W.fnOf "__init__" "NoRoom.__init__" (defArgs sI_NoRoom) (defBody sI_NoRoom) (defScope sI_NoRoom) .none kVNoRoom dcNoRoom pmNoRoom anNoRoom cdNoRoom ctNoRoom), oslNoRoom⟩)
    (ciNoRoom : PySem.W.codeIn K cdNoRoom "NoRoom.__init__" = true)
    (kiNoRoom : PySem.W.keepIn K (.ref fNoRoom) = true)
    (kCNoRoom : PySem.W.keepIn K (.ref CNoRoom) = true)
    (eCNoRoom : PySem.W.subIn K (.ref CNoRoom) (.type "BaseException") = some true)
    (tCNoRoom : PySem.W.typeIn K (.ref CNoRoom) = some (.type "type"))
    (hCNoRoom : PySem.W.hasDictIn K CNoRoom = true)
    (clNoRoom : PySem.W.isClsIn K CNoRoom = true)
    (svNoRoom : PySem.W.subIn K (.ref CNoRoom) (.type "ValueError") = some true)
    (acNoRoom : PySem.W.findIn K (.ref CNoRoom) "__class__" = some (some (.builtin "object.__class__")))
    (moNoRoom : PySem.W.mroIn K CNoRoom (.type "object") = some true)
    (suNoRoom : PySem.W.subIn K (.ref CNoRoom) (.ref C0) = some true)
    (gNoCrowd : PySem.W.nsIn K mainGlobals "NoCrowd" = some (some (.ref CNoCrowd)))
    (xlNoCrowd : K.lookup CNoCrowd = some (excClassObj nmNoCrowd qNoCrowd CNoCrowd NNoCrowd bsNoCrowd [.ref C0, .type "ValueError", .type "Exception", .type "BaseException", .type "object"] true snNoCrowd subNoCrowd abNoCrowd colNoCrowd ddNoCrowd m0NoCrowd m1NoCrowd m2NoCrowd m3NoCrowd m5NoCrowd "ValueError.__new__"))
    (saNoCrowd : PySem.W.findIn K (.ref CNoCrowd) "__setattr__" = some (some (.builtin "object.__setattr__")))
    (gaNoCrowd : PySem.W.findIn K (.ref CNoCrowd) "__getattribute__" = some (some (.builtin "BaseException.__getattribute__")))
    (ggNoCrowd : PySem.W.findIn K (.ref CNoCrowd) "__getattr__" = some none)
    (nwNoCrowd : PySem.W.findIn K (.ref CNoCrowd) "what" = some none)
    (aiNoCrowd : PySem.W.findIn K (.ref CNoCrowd) "__init__" = some (some (.ref fNoCrowd)))
    (tiNoCrowd : PySem.W.typeIn K (.ref fNoCrowd) = some (.type "function"))
    (liNoCrowd : K.lookup fNoCrowd = some ⟨ocNoCrowd, odNoCrowd, .func (PySem.W.fnOf "__init__" "NoCrowd.__init__" (defArgs sI_NoCrowd) (defBody sI_NoCrowd) (defScope sI_NoCrowd) .none kVNoCrowd dcNoCrowd pmNoCrowd anNoCrowd cdNoCrowd ctNoCrowd), oslNoCrowd⟩)
    (ciNoCrowd : PySem.W.codeIn K cdNoCrowd "NoCrowd.__init__" = true)
    (kiNoCrowd : PySem.W.keepIn K (.ref fNoCrowd) = true)
    (kCNoCrowd : PySem.W.keepIn K (.ref CNoCrowd) = true)
    (eCNoCrowd : PySem.W.subIn K (.ref CNoCrowd) (.type "BaseException") = some true)
    (tCNoCrowd : PySem.W.typeIn K (.ref CNoCrowd) = some (.type "type"))
    (hCNoCrowd : PySem.W.hasDictIn K CNoCrowd = true)
    (clNoCrowd : PySem.W.isClsIn K CNoCrowd = true)
    (svNoCrowd : PySem.W.subIn K (.ref CNoCrowd) (.type "ValueError") = some true)
    (acNoCrowd : PySem.W.findIn K (.ref CNoCrowd) "__class__" = some (some (.builtin "object.__class__")))
    (moNoCrowd : PySem.W.mroIn K CNoCrowd (.type "object") = some true)
    (suNoCrowd : PySem.W.subIn K (.ref CNoCrowd) (.ref C0) = some true)
    (gNoText : PySem.W.nsIn K mainGlobals "NoText" = some (some (.ref CNoText)))
    (xlNoText : K.lookup CNoText = some (excClassObj nmNoText qNoText CNoText NNoText bsNoText [.ref C0, .type "ValueError", .type "Exception", .type "BaseException", .type "object"] true snNoText subNoText abNoText colNoText ddNoText m0NoText m1NoText m2NoText m3NoText m5NoText "ValueError.__new__"))
    (saNoText : PySem.W.findIn K (.ref CNoText) "__setattr__" = some (some (.builtin "object.__setattr__")))
    (gaNoText : PySem.W.findIn K (.ref CNoText) "__getattribute__" = some (some (.builtin "BaseException.__getattribute__")))
    (ggNoText : PySem.W.findIn K (.ref CNoText) "__getattr__" = some none)
    (nwNoText : PySem.W.findIn K (.ref CNoText) "what" = some none)
    (aiNoText : PySem.W.findIn K (.ref CNoText) "__init__" = some (some (.ref fNoText)))
    (tiNoText : PySem.W.typeIn K (.ref fNoText) = some (.type "function"))
    (liNoText : K.lookup fNoText = some ⟨ocNoText, odNoText, .func (PySem.W.fnOf "__init__" "NoText.__init__" (defArgs sI_NoText) (defBody sI_NoText) (defScope sI_NoText) .none kVNoText dcNoText pmNoText anNoText cdNoText ctNoText), oslNoText⟩)
    (ciNoText : PySem.W.codeIn K cdNoText "NoText.__init__" = true)
    (kiNoText : PySem.W.keepIn K (.ref fNoText) = true)
    (kCNoText : PySem.W.keepIn K (.ref CNoText) = true)
    (eCNoText : PySem.W.subIn K (.ref CNoText) (.type "BaseException") = some true)
    (tCNoText : PySem.W.typeIn K (.ref CNoText) = some (.type "type"))
    (hCNoText : PySem.W.hasDictIn K CNoText = true)
    (clNoText : PySem.W.isClsIn K CNoText = true)
    (svNoText : PySem.W.subIn K (.ref CNoText) (.type "ValueError") = some true)
    (acNoText : PySem.W.findIn K (.ref CNoText) "__class__" = some (some (.builtin "object.__class__")))
    (moNoText : PySem.W.mroIn K CNoText (.type "object") = some true)
    (suNoText : PySem.W.subIn K (.ref CNoText) (.ref C0) = some true)
    (suNoGuestNoRooms : PySem.W.subIn K (.ref CNoGuest) (.ref CNoRooms) = some false)
    (neNoGuestNoRooms : CNoGuest ≠ CNoRooms)
    (suNoGuestNoRoom : PySem.W.subIn K (.ref CNoGuest) (.ref CNoRoom) = some false)
    (neNoGuestNoRoom : CNoGuest ≠ CNoRoom)
    (suNoGuestNoCrowd : PySem.W.subIn K (.ref CNoGuest) (.ref CNoCrowd) = some false)
    (neNoGuestNoCrowd : CNoGuest ≠ CNoCrowd)
    (suNoGuestNoText : PySem.W.subIn K (.ref CNoGuest) (.ref CNoText) = some false)
    (neNoGuestNoText : CNoGuest ≠ CNoText)
    (suNoRoomsNoGuest : PySem.W.subIn K (.ref CNoRooms) (.ref CNoGuest) = some false)
    (neNoRoomsNoGuest : CNoRooms ≠ CNoGuest)
    (suNoRoomsNoRoom : PySem.W.subIn K (.ref CNoRooms) (.ref CNoRoom) = some false)
    (neNoRoomsNoRoom : CNoRooms ≠ CNoRoom)
    (suNoRoomsNoCrowd : PySem.W.subIn K (.ref CNoRooms) (.ref CNoCrowd) = some false)
    (neNoRoomsNoCrowd : CNoRooms ≠ CNoCrowd)
    (suNoRoomsNoText : PySem.W.subIn K (.ref CNoRooms) (.ref CNoText) = some false)
    (neNoRoomsNoText : CNoRooms ≠ CNoText)
    (suNoRoomNoGuest : PySem.W.subIn K (.ref CNoRoom) (.ref CNoGuest) = some false)
    (neNoRoomNoGuest : CNoRoom ≠ CNoGuest)
    (suNoRoomNoRooms : PySem.W.subIn K (.ref CNoRoom) (.ref CNoRooms) = some false)
    (neNoRoomNoRooms : CNoRoom ≠ CNoRooms)
    (suNoRoomNoCrowd : PySem.W.subIn K (.ref CNoRoom) (.ref CNoCrowd) = some false)
    (neNoRoomNoCrowd : CNoRoom ≠ CNoCrowd)
    (suNoRoomNoText : PySem.W.subIn K (.ref CNoRoom) (.ref CNoText) = some false)
    (neNoRoomNoText : CNoRoom ≠ CNoText)
    (suNoCrowdNoGuest : PySem.W.subIn K (.ref CNoCrowd) (.ref CNoGuest) = some false)
    (neNoCrowdNoGuest : CNoCrowd ≠ CNoGuest)
    (suNoCrowdNoRooms : PySem.W.subIn K (.ref CNoCrowd) (.ref CNoRooms) = some false)
    (neNoCrowdNoRooms : CNoCrowd ≠ CNoRooms)
    (suNoCrowdNoRoom : PySem.W.subIn K (.ref CNoCrowd) (.ref CNoRoom) = some false)
    (neNoCrowdNoRoom : CNoCrowd ≠ CNoRoom)
    (suNoCrowdNoText : PySem.W.subIn K (.ref CNoCrowd) (.ref CNoText) = some false)
    (neNoCrowdNoText : CNoCrowd ≠ CNoText)
    (suNoTextNoGuest : PySem.W.subIn K (.ref CNoText) (.ref CNoGuest) = some false)
    (neNoTextNoGuest : CNoText ≠ CNoGuest)
    (suNoTextNoRooms : PySem.W.subIn K (.ref CNoText) (.ref CNoRooms) = some false)
    (neNoTextNoRooms : CNoText ≠ CNoRooms)
    (suNoTextNoRoom : PySem.W.subIn K (.ref CNoText) (.ref CNoRoom) = some false)
    (neNoTextNoRoom : CNoText ≠ CNoRoom)
    (suNoTextNoCrowd : PySem.W.subIn K (.ref CNoText) (.ref CNoCrowd) = some false)
    (neNoTextNoCrowd : CNoText ≠ CNoCrowd)
    (cl0 : PySem.W.isClsIn K C0 = true)
    (z1 : PySem.W.nsIn K mainGlobals "len" = some none) (z2 : PySem.W.nsIn K mainGlobals "range" = some none) (z3 : PySem.W.nsIn K mainGlobals "enumerate" = some none) (z4 : PySem.W.nsIn K mainGlobals "sorted" = some none) (z5 : PySem.W.nsIn K mainGlobals "sum" = some none) (z6 : PySem.W.nsIn K mainGlobals "min" = some none) (z7 : PySem.W.nsIn K mainGlobals "max" = some none) (z8 : PySem.W.nsIn K mainGlobals "isinstance" = some none) (z9 : PySem.W.nsIn K mainGlobals "zip" = some none) (z10 : PySem.W.nsIn K mainGlobals "list" = some none) (z11 : PySem.W.nsIn K mainGlobals "tuple" = some none) (z12 : PySem.W.nsIn K mainGlobals "int" = some none) (z13 : PySem.W.nsIn K mainGlobals "bool" = some none) (z14 : PySem.W.nsIn K mainGlobals "str" = some none) (z15 : PySem.W.nsIn K mainGlobals "abs" = some none) (z16 : PySem.W.nsIn K mainGlobals "repr" = some none) (z17 : PySem.W.nsIn K mainGlobals "dict" = some none) (z18 : PySem.W.nsIn K mainGlobals "any" = some none) (z19 : PySem.W.nsIn K mainGlobals "all" = some none) (z20 : PySem.W.nsIn K mainGlobals "set" = some none) (z21 : PySem.W.nsIn K mainGlobals "reversed" = some none) (z22 : PySem.W.nsIn K mainGlobals "ValueError" = some none) (z23 : PySem.W.nsIn K mainGlobals "divmod" = some none) :
    ∃ fd : FuncData, (∀ (s : Shared) (v : Value), BindsTo s fd ⟨[v], []⟩ [("script", v)]) ∧ ∀ base : Heap, K.In base → base.Ns mainGlobals mg → ∀ A : Around, A.guards = some [] → Room 6 A → Goes l.prog w K mg base fa fd ["script"] (sp_law K) A := by
  obtain rfl : f16 = fa := by
    have e := (PySem.W.mg_of X G a16).symm.trans hfa
    injection e with e
    injection e
  have B : Bi mg := ⟨PySem.W.mg_none_of X G z1, PySem.W.mg_none_of X G z2, PySem.W.mg_none_of X G z3, PySem.W.mg_none_of X G z4, PySem.W.mg_none_of X G z5, PySem.W.mg_none_of X G z6, PySem.W.mg_none_of X G z7, PySem.W.mg_none_of X G z8, PySem.W.mg_none_of X G z9, PySem.W.mg_none_of X G z10, PySem.W.mg_none_of X G z11, PySem.W.mg_none_of X G z12, PySem.W.mg_none_of X G z13, PySem.W.mg_none_of X G z14, PySem.W.mg_none_of X G z15, PySem.W.mg_none_of X G z16, PySem.W.mg_none_of X G z17, PySem.W.mg_none_of X G z18, PySem.W.mg_none_of X G z19, PySem.W.mg_none_of X G z20, PySem.W.mg_none_of X G z21, PySem.W.mg_none_of X G z22, PySem.W.mg_none_of X G z23⟩
  have A1 : At K mg "patience_by_age" P_patience_by_age s_patience_by_age := .mk' X G a1 l1 c1 k1 fun _ _ _ _ _ _ us hl => match us, hl with | [_], _ => rfl
  have A2 : At K mg "check_arrangement" P_check_arrangement s_check_arrangement := .mk' X G a2 l2 c2 k2 fun _ _ _ _ _ _ us hl => match us, hl with | [_, _], _ => rfl
  have A3 : At K mg "eldest_upset" P_eldest_upset s_eldest_upset := .mk' X G a3 l3 c3 k3 fun _ _ _ _ _ _ us hl => match us, hl with | [_, _], _ => rfl
  have A4 : At K mg "upset" P_upset s_upset := .mk' X G a4 l4 c4 k4 fun _ _ _ _ _ _ us hl => match us, hl with | [_, _], _ => rfl
  have A5 : At K mg "_law_tray" P__law_tray s__law_tray := .mk' X G a5 l5 c5 k5 fun _ _ _ _ _ _ us hl => match us, hl with | [_], _ => rfl
  have A6 : At K mg "_law_draw" P__law_draw s__law_draw := .mk' X G a6 l6 c6 k6 fun _ _ _ _ _ _ us hl => match us, hl with | [_, _], _ => rfl
  have A7 : At K mg "_law_alike" P__law_alike s__law_alike := .mk' X G a7 l7 c7 k7 fun _ _ _ _ _ _ us hl => match us, hl with | [_, _], _ => rfl
  have A8 : At K mg "_law_shuffled" P__law_shuffled s__law_shuffled := .mk' X G a8 l8 c8 k8 fun _ _ _ _ _ _ us hl => match us, hl with | [_, _], _ => rfl
  have A9 : At K mg "_law_ages" P__law_ages s__law_ages := .mk' X G a9 l9 c9 k9 fun _ _ _ _ _ _ us hl => match us, hl with | [_, _], _ => rfl
  have A10 : At K mg "_law_patience" P__law_patience s__law_patience := .mk' X G a10 l10 c10 k10 fun _ _ _ _ _ _ us hl => match us, hl with | [_, _, _], _ => rfl
  have A11 : At K mg "_law_guests" P__law_guests s__law_guests := .mk' X G a11 l11 c11 k11 fun _ _ _ _ _ _ us hl => match us, hl with | [_, _], _ => rfl
  have A12 : At K mg "_law_parted" P__law_parted s__law_parted := .mk' X G a12 l12 c12 k12 fun _ _ _ _ _ _ us hl => match us, hl with | [_, _, _], _ => rfl
  have A13 : At K mg "_law_kind" P__law_kind s__law_kind := .mk' X G a13 l13 c13 k13 fun _ _ _ _ _ _ us hl => match us, hl with | [_], _ => rfl
  have A14 : At K mg "_law_due" P__law_due s__law_due := .mk' X G a14 l14 c14 k14 fun _ _ _ _ _ _ us hl => match us, hl with | [_, _], _ => rfl
  have A15 : At K mg "_law_bent" P__law_bent s__law_bent := .mk' X G a15 l15 c15 k15 fun _ _ _ _ _ _ us hl => match us, hl with | [_, _, _], _ => rfl
  have A16 : At K mg "law" P_law s_law := .mk' X G a16 l16 c16 k16 fun _ _ _ _ _ _ us hl => match us, hl with | [_], _ => rfl
  refine ⟨PySem.W.fnOf "law" "law" (defArgs s_law) (defBody s_law) (defScope s_law) .none kV16 dc16 pm16 an16 cd16 ct16, fun s v => .of_eq rfl, fun base _ _ => ?_⟩
  have T0 : InnC K mg C0 := ⟨PySem.W.mg_of X G aC0, rd0, sg0, fc0⟩
  have JX : IsX K := ⟨jn, jt⟩
  have ONoGuest : Own K mg "NoGuest" CNoGuest fNoGuest := ⟨PySem.W.mg_of X G gNoGuest, ⟨⟨nmNoGuest, qNoGuest, NNoGuest, bsNoGuest, _, snNoGuest, subNoGuest, abNoGuest, colNoGuest, ddNoGuest, m0NoGuest, m1NoGuest, m2NoGuest, m3NoGuest, m5NoGuest, xlNoGuest, own_mro C0⟩, saNoGuest, eCNoGuest, tCNoGuest, kCNoGuest⟩, ⟨gaNoGuest, ggNoGuest, eCNoGuest, hCNoGuest⟩, nwNoGuest, aiNoGuest, tiNoGuest, clNoGuest, acNoGuest, moNoGuest⟩
  have E_NoGuest := own_NoGuest (P := l.prog) (w := w) (base := base) ONoGuest (fun_mk (st := sI_NoGuest) liNoGuest ciNoGuest kiNoGuest) T0
  have kv_NoGuest := kit_ve svNoGuest
  have k_NoGuest_NoGuest := kit_self (K := K) CNoGuest
  have k_NoGuest_NoRooms := kit_no suNoGuestNoRooms clNoRooms tCNoRooms neNoGuestNoRooms
  have k_NoGuest_NoRoom := kit_no suNoGuestNoRoom clNoRoom tCNoRoom neNoGuestNoRoom
  have k_NoGuest_NoCrowd := kit_no suNoGuestNoCrowd clNoCrowd tCNoCrowd neNoGuestNoCrowd
  have k_NoGuest_NoText := kit_no suNoGuestNoText clNoText tCNoText neNoGuestNoText
  have teNoGuest : PySem.W.exmOne K (.ref CNoGuest) (.ref C0) = some true := te_of eC0 hC0 tC0 suNoGuest
  have ONoRooms : Own K mg "NoRooms" CNoRooms fNoRooms := ⟨PySem.W.mg_of X G gNoRooms, ⟨⟨nmNoRooms, qNoRooms, NNoRooms, bsNoRooms, _, snNoRooms, subNoRooms, abNoRooms, colNoRooms, ddNoRooms, m0NoRooms, m1NoRooms, m2NoRooms, m3NoRooms, m5NoRooms, xlNoRooms, own_mro C0⟩, saNoRooms, eCNoRooms, tCNoRooms, kCNoRooms⟩, ⟨gaNoRooms, ggNoRooms, eCNoRooms, hCNoRooms⟩, nwNoRooms, aiNoRooms, tiNoRooms, clNoRooms, acNoRooms, moNoRooms⟩
  have E_NoRooms := own_NoRooms (P := l.prog) (w := w) (base := base) ONoRooms (fun_mk (st := sI_NoRooms) liNoRooms ciNoRooms kiNoRooms) T0
  have kv_NoRooms := kit_ve svNoRooms
  have k_NoRooms_NoGuest := kit_no suNoRoomsNoGuest clNoGuest tCNoGuest neNoRoomsNoGuest
  have k_NoRooms_NoRooms := kit_self (K := K) CNoRooms
  have k_NoRooms_NoRoom := kit_no suNoRoomsNoRoom clNoRoom tCNoRoom neNoRoomsNoRoom
  have k_NoRooms_NoCrowd := kit_no suNoRoomsNoCrowd clNoCrowd tCNoCrowd neNoRoomsNoCrowd
  have k_NoRooms_NoText := kit_no suNoRoomsNoText clNoText tCNoText neNoRoomsNoText
  have teNoRooms : PySem.W.exmOne K (.ref CNoRooms) (.ref C0) = some true := te_of eC0 hC0 tC0 suNoRooms
  have ONoRoom : Own K mg "NoRoom" CNoRoom fNoRoom := ⟨PySem.W.mg_of X G gNoRoom, ⟨⟨nmNoRoom, qNoRoom, NNoRoom, bsNoRoom, _, snNoRoom, subNoRoom, abNoRoom, colNoRoom, ddNoRoom, m0NoRoom, m1NoRoom, m2NoRoom, m3NoRoom, m5NoRoom, xlNoRoom, own_mro C0⟩, saNoRoom, eCNoRoom, tCNoRoom, kCNoRoom⟩, ⟨gaNoRoom, ggNoRoom, eCNoRoom, hCNoRoom⟩, nwNoRoom, aiNoRoom, tiNoRoom, clNoRoom, acNoRoom, moNoRoom⟩
  have E_NoRoom := own_NoRoom (P := l.prog) (w := w) (base := base) ONoRoom (fun_mk (st := sI_NoRoom) liNoRoom ciNoRoom kiNoRoom) T0
  have kv_NoRoom := kit_ve svNoRoom
  have k_NoRoom_NoGuest := kit_no suNoRoomNoGuest clNoGuest tCNoGuest neNoRoomNoGuest
  have k_NoRoom_NoRooms := kit_no suNoRoomNoRooms clNoRooms tCNoRooms neNoRoomNoRooms
  have k_NoRoom_NoRoom := kit_self (K := K) CNoRoom
  have k_NoRoom_NoCrowd := kit_no suNoRoomNoCrowd clNoCrowd tCNoCrowd neNoRoomNoCrowd
  have k_NoRoom_NoText := kit_no suNoRoomNoText clNoText tCNoText neNoRoomNoText
  have teNoRoom : PySem.W.exmOne K (.ref CNoRoom) (.ref C0) = some true := te_of eC0 hC0 tC0 suNoRoom
  have ONoCrowd : Own K mg "NoCrowd" CNoCrowd fNoCrowd := ⟨PySem.W.mg_of X G gNoCrowd, ⟨⟨nmNoCrowd, qNoCrowd, NNoCrowd, bsNoCrowd, _, snNoCrowd, subNoCrowd, abNoCrowd, colNoCrowd, ddNoCrowd, m0NoCrowd, m1NoCrowd, m2NoCrowd, m3NoCrowd, m5NoCrowd, xlNoCrowd, own_mro C0⟩, saNoCrowd, eCNoCrowd, tCNoCrowd, kCNoCrowd⟩, ⟨gaNoCrowd, ggNoCrowd, eCNoCrowd, hCNoCrowd⟩, nwNoCrowd, aiNoCrowd, tiNoCrowd, clNoCrowd, acNoCrowd, moNoCrowd⟩
  have E_NoCrowd := own_NoCrowd (P := l.prog) (w := w) (base := base) ONoCrowd (fun_mk (st := sI_NoCrowd) liNoCrowd ciNoCrowd kiNoCrowd) T0
  have kv_NoCrowd := kit_ve svNoCrowd
  have k_NoCrowd_NoGuest := kit_no suNoCrowdNoGuest clNoGuest tCNoGuest neNoCrowdNoGuest
  have k_NoCrowd_NoRooms := kit_no suNoCrowdNoRooms clNoRooms tCNoRooms neNoCrowdNoRooms
  have k_NoCrowd_NoRoom := kit_no suNoCrowdNoRoom clNoRoom tCNoRoom neNoCrowdNoRoom
  have k_NoCrowd_NoCrowd := kit_self (K := K) CNoCrowd
  have k_NoCrowd_NoText := kit_no suNoCrowdNoText clNoText tCNoText neNoCrowdNoText
  have teNoCrowd : PySem.W.exmOne K (.ref CNoCrowd) (.ref C0) = some true := te_of eC0 hC0 tC0 suNoCrowd
  have ONoText : Own K mg "NoText" CNoText fNoText := ⟨PySem.W.mg_of X G gNoText, ⟨⟨nmNoText, qNoText, NNoText, bsNoText, _, snNoText, subNoText, abNoText, colNoText, ddNoText, m0NoText, m1NoText, m2NoText, m3NoText, m5NoText, xlNoText, own_mro C0⟩, saNoText, eCNoText, tCNoText, kCNoText⟩, ⟨gaNoText, ggNoText, eCNoText, hCNoText⟩, nwNoText, aiNoText, tiNoText, clNoText, acNoText, moNoText⟩
  have E_NoText := own_NoText (P := l.prog) (w := w) (base := base) ONoText (fun_mk (st := sI_NoText) liNoText ciNoText kiNoText) T0
  have kv_NoText := kit_ve svNoText
  have k_NoText_NoGuest := kit_no suNoTextNoGuest clNoGuest tCNoGuest neNoTextNoGuest
  have k_NoText_NoRooms := kit_no suNoTextNoRooms clNoRooms tCNoRooms neNoTextNoRooms
  have k_NoText_NoRoom := kit_no suNoTextNoRoom clNoRoom tCNoRoom neNoTextNoRoom
  have k_NoText_NoCrowd := kit_no suNoTextNoCrowd clNoCrowd tCNoCrowd neNoTextNoCrowd
  have k_NoText_NoText := kit_self (K := K) CNoText
  have teNoText : PySem.W.exmOne K (.ref CNoText) (.ref C0) = some true := te_of eC0 hC0 tC0 suNoText
  have G_InnError := PySem.W.mg_of X G aC0
  have G_NoGuest := PySem.W.mg_of X G gNoGuest
  have G_NoRooms := PySem.W.mg_of X G gNoRooms
  have G_NoRoom := PySem.W.mg_of X G gNoRoom
  have G_NoCrowd := PySem.W.mg_of X G gNoCrowd
  have G_NoText := PySem.W.mg_of X G gNoText
  have KF_NoGuest : KdF K CNoGuest CNoRooms CNoRoom CNoCrowd CNoText CNoGuest "NoGuest" := ⟨⟨_, _, _, _, _, k_NoGuest_NoGuest, k_NoGuest_NoRooms, k_NoGuest_NoRoom, k_NoGuest_NoCrowd, k_NoGuest_NoText, rfl⟩, kv_NoGuest⟩
  have KF_NoRooms : KdF K CNoGuest CNoRooms CNoRoom CNoCrowd CNoText CNoRooms "NoRooms" := ⟨⟨_, _, _, _, _, k_NoRooms_NoGuest, k_NoRooms_NoRooms, k_NoRooms_NoRoom, k_NoRooms_NoCrowd, k_NoRooms_NoText, rfl⟩, kv_NoRooms⟩
  have KF_NoRoom : KdF K CNoGuest CNoRooms CNoRoom CNoCrowd CNoText CNoRoom "NoRoom" := ⟨⟨_, _, _, _, _, k_NoRoom_NoGuest, k_NoRoom_NoRooms, k_NoRoom_NoRoom, k_NoRoom_NoCrowd, k_NoRoom_NoText, rfl⟩, kv_NoRoom⟩
  have KF_NoCrowd : KdF K CNoGuest CNoRooms CNoRoom CNoCrowd CNoText CNoCrowd "NoCrowd" := ⟨⟨_, _, _, _, _, k_NoCrowd_NoGuest, k_NoCrowd_NoRooms, k_NoCrowd_NoRoom, k_NoCrowd_NoCrowd, k_NoCrowd_NoText, rfl⟩, kv_NoCrowd⟩
  have KF_NoText : KdF K CNoGuest CNoRooms CNoRoom CNoCrowd CNoText CNoText "NoText" := ⟨⟨_, _, _, _, _, k_NoText_NoGuest, k_NoText_NoRooms, k_NoText_NoRoom, k_NoText_NoCrowd, k_NoText_NoText, rfl⟩, kv_NoText⟩
  have KZ_NoGuest : KdZ K mg C0 CNoGuest CNoRooms CNoRoom CNoCrowd CNoText CNoGuest "NoGuest" := ⟨⟨_, _, ONoGuest⟩, teNoGuest, KF_NoGuest⟩
  have KZ_NoRoom : KdZ K mg C0 CNoGuest CNoRooms CNoRoom CNoCrowd CNoText CNoRoom "NoRoom" := ⟨⟨_, _, ONoRoom⟩, teNoRoom, KF_NoRoom⟩
  have D_patience_by_age := ok_patience_by_age (P := l.prog) (w := w) (base := base) A1 B
  have XD_patience_by_age := okx_patience_by_age (P := l.prog) (w := w) (base := base) A1 B E_NoGuest
  have D_check_arrangement := ok_check_arrangement (P := l.prog) (w := w) (base := base) A2 B
  have XD_check_arrangement := okx_check_arrangement (P := l.prog) (w := w) (base := base) A2 B E_NoRoom
  have D_eldest_upset := ok_eldest_upset (P := l.prog) (w := w) (base := base) A3 B
  have D_upset := ok_upset (P := l.prog) (w := w) (base := base) A4 B D_patience_by_age D_check_arrangement D_eldest_upset
  have XD_upset := okx_upset (P := l.prog) (w := w) (base := base) A4 B XD_patience_by_age XD_check_arrangement D_eldest_upset D_upset
  have D__law_tray := ok__law_tray (P := l.prog) (w := w) (base := base) A5 B
  have D__law_draw := ok__law_draw (P := l.prog) (w := w) (base := base) A6 B
  have D__law_alike := ok__law_alike (P := l.prog) (w := w) (base := base) A7 B 1
  have D__law_shuffled := ok__law_shuffled (P := l.prog) (w := w) (base := base) A8 B D__law_draw
  have D__law_ages := ok__law_ages (P := l.prog) (w := w) (base := base) A9 B D__law_draw D__law_shuffled
  have D__law_patience := ok__law_patience (P := l.prog) (w := w) (base := base) A10 B D__law_draw
  have D__law_guests := ok__law_guests (P := l.prog) (w := w) (base := base) A11 B D__law_draw D__law_ages D__law_patience
  have D__law_parted := ok__law_parted (P := l.prog) (w := w) (base := base) A12 B D__law_draw D__law_shuffled
  have D__law_kind := ok__law_kind (P := l.prog) (w := w) (base := base) A13 B JX G_NoGuest G_NoRooms G_NoRoom G_NoCrowd G_NoText
  have Z__law_kind := okZ__law_kind (P := l.prog) (w := w) (base := base) A13 B JX G_NoGuest G_NoRooms G_NoRoom G_NoCrowd G_NoText
  have D__law_due := ok__law_due (P := l.prog) (w := w) (base := base) A14 B
  have D__law_bent := ok__law_bent (P := l.prog) (w := w) (base := base) A15 B D__law_draw
  have D_law := ok_law (P := l.prog) (w := w) (base := base) A16 B D__law_tray D__law_draw D__law_alike D__law_guests D__law_parted D__law_bent D__law_due G_InnError KZ_NoGuest KZ_NoRoom XD_upset Z__law_kind
  exact D_law.goes hfa l16
end El
open PySem PySem.W PyProof.Rows
set_option maxRecDepth 100000 in
set_option maxHeartbeats 0 in
theorem PySem.Challenge.cw_elderinn_k05_arrangements_refused_holds : PySem.Challenge.rw_elderinn_k05_arrangements_refused.Holds := by
  w_on; o_law; k_head; (case hw => w_witness2)
  k_fill
  refine El.walk_goes (l := PySem.Challenge.rw_elderinn_k05_arrangements_refused) (n := 63) (k := 6) (x := "script") (sp := El.sp_law) rfl (by decide) rfl ⟨rfl, by decide, by decide⟩ (fun w h Y => PySem.W.kIn_of Y) ?F (fun _ _ a ns hl hS => ⟨a, ns, rfl, hS, hl, fun _ => rfl⟩)
  case F =>
    intro w mg fa h KX G hmg
    refine' El.all_mk KX G hmg ?a1 ?l1 ?c1 ?k1 ?a2 ?l2 ?c2 ?k2 ?a3 ?l3 ?c3 ?k3 ?a4 ?l4 ?c4 ?k4 ?a5 ?l5 ?c5 ?k5 ?a6 ?l6 ?c6 ?k6 ?a7 ?l7 ?c7 ?k7 ?a8 ?l8 ?c8 ?k8 ?a9 ?l9 ?c9 ?k9 ?a10 ?l10 ?c10 ?k10 ?a11 ?l11 ?c11 ?k11 ?a12 ?l12 ?c12 ?k12 ?a13 ?l13 ?c13 ?k13 ?a14 ?l14 ?c14 ?k14 ?a15 ?l15 ?c15 ?k15 ?a16 ?l16 ?c16 ?k16 ?aC0 ?rd0 ?sg0 ?fc0 ?eC0 ?hC0 ?tC0 ?jn ?jt ?gNoGuest ?xlNoGuest ?saNoGuest ?gaNoGuest ?ggNoGuest ?nwNoGuest ?aiNoGuest ?tiNoGuest ?liNoGuest ?ciNoGuest ?kiNoGuest ?kCNoGuest ?eCNoGuest ?tCNoGuest ?hCNoGuest ?clNoGuest ?svNoGuest ?acNoGuest ?moNoGuest ?suNoGuest ?gNoRooms ?xlNoRooms ?saNoRooms ?gaNoRooms ?ggNoRooms ?nwNoRooms ?aiNoRooms ?tiNoRooms ?liNoRooms ?ciNoRooms ?kiNoRooms ?kCNoRooms ?eCNoRooms ?tCNoRooms ?hCNoRooms ?clNoRooms ?svNoRooms ?acNoRooms ?moNoRooms ?suNoRooms ?gNoRoom ?xlNoRoom ?saNoRoom ?gaNoRoom ?ggNoRoom ?nwNoRoom ?aiNoRoom ?tiNoRoom ?liNoRoom ?ciNoRoom ?kiNoRoom ?kCNoRoom ?eCNoRoom ?tCNoRoom ?hCNoRoom ?clNoRoom ?svNoRoom ?acNoRoom ?moNoRoom ?suNoRoom ?gNoCrowd ?xlNoCrowd ?saNoCrowd ?gaNoCrowd ?ggNoCrowd ?nwNoCrowd ?aiNoCrowd ?tiNoCrowd ?liNoCrowd ?ciNoCrowd ?kiNoCrowd ?kCNoCrowd ?eCNoCrowd ?tCNoCrowd ?hCNoCrowd ?clNoCrowd ?svNoCrowd ?acNoCrowd ?moNoCrowd ?suNoCrowd ?gNoText ?xlNoText ?saNoText ?gaNoText ?ggNoText ?nwNoText ?aiNoText ?tiNoText ?liNoText ?ciNoText ?kiNoText ?kCNoText ?eCNoText ?tCNoText ?hCNoText ?clNoText ?svNoText ?acNoText ?moNoText ?suNoText ?suNoGuestNoRooms ?neNoGuestNoRooms ?suNoGuestNoRoom ?neNoGuestNoRoom ?suNoGuestNoCrowd ?neNoGuestNoCrowd ?suNoGuestNoText ?neNoGuestNoText ?suNoRoomsNoGuest ?neNoRoomsNoGuest ?suNoRoomsNoRoom ?neNoRoomsNoRoom ?suNoRoomsNoCrowd ?neNoRoomsNoCrowd ?suNoRoomsNoText ?neNoRoomsNoText ?suNoRoomNoGuest ?neNoRoomNoGuest ?suNoRoomNoRooms ?neNoRoomNoRooms ?suNoRoomNoCrowd ?neNoRoomNoCrowd ?suNoRoomNoText ?neNoRoomNoText ?suNoCrowdNoGuest ?neNoCrowdNoGuest ?suNoCrowdNoRooms ?neNoCrowdNoRooms ?suNoCrowdNoRoom ?neNoCrowdNoRoom ?suNoCrowdNoText ?neNoCrowdNoText ?suNoTextNoGuest ?neNoTextNoGuest ?suNoTextNoRooms ?neNoTextNoRooms ?suNoTextNoRoom ?neNoTextNoRoom ?suNoTextNoCrowd ?neNoTextNoCrowd ?cl0 ?z1 ?z2 ?z3 ?z4 ?z5 ?z6 ?z7 ?z8 ?z9 ?z10 ?z11 ?z12 ?z13 ?z14 ?z15 ?z16 ?z17 ?z18 ?z19 ?z20 ?z21 ?z22 ?z23
    (case a1 => k_is)
    (case l1 => k_is)
    (case c1 => k_is)
    (case k1 => k_is)
    (case a2 => k_is)
    (case l2 => k_is)
    (case c2 => k_is)
    (case k2 => k_is)
    (case a3 => k_is)
    (case l3 => k_is)
    (case c3 => k_is)
    (case k3 => k_is)
    (case a4 => k_is)
    (case l4 => k_is)
    (case c4 => k_is)
    (case k4 => k_is)
    (case a5 => k_is)
    (case l5 => k_is)
    (case c5 => k_is)
    (case k5 => k_is)
    (case a6 => k_is)
    (case l6 => k_is)
    (case c6 => k_is)
    (case k6 => k_is)
    (case a7 => k_is)
    (case l7 => k_is)
    (case c7 => k_is)
    (case k7 => k_is)
    (case a8 => k_is)
    (case l8 => k_is)
    (case c8 => k_is)
    (case k8 => k_is)
    (case a9 => k_is)
    (case l9 => k_is)
    (case c9 => k_is)
    (case k9 => k_is)
    (case a10 => k_is)
    (case l10 => k_is)
    (case c10 => k_is)
    (case k10 => k_is)
    (case a11 => k_is)
    (case l11 => k_is)
    (case c11 => k_is)
    (case k11 => k_is)
    (case a12 => k_is)
    (case l12 => k_is)
    (case c12 => k_is)
    (case k12 => k_is)
    (case a13 => k_is)
    (case l13 => k_is)
    (case c13 => k_is)
    (case k13 => k_is)
    (case a14 => k_is)
    (case l14 => k_is)
    (case c14 => k_is)
    (case k14 => k_is)
    (case a15 => k_is)
    (case l15 => k_is)
    (case c15 => k_is)
    (case k15 => k_is)
    (case a16 => k_is)
    (case l16 => k_is)
    (case c16 => k_is)
    (case k16 => k_is)
    (case aC0 => k_is)
    (case rd0 => k_is)
    (case sg0 => k_is)
    (case fc0 => k_is)
    (case eC0 => k_is)
    (case hC0 => k_is)
    (case tC0 => k_is)
    (case jn => k_is)
    (case jt => k_is)
    (case gNoGuest => k_is)
    (case xlNoGuest => k_is)
    (case saNoGuest => k_is)
    (case gaNoGuest => k_is)
    (case ggNoGuest => k_is)
    (case nwNoGuest => k_is)
    (case aiNoGuest => k_is)
    (case tiNoGuest => k_is)
    (case liNoGuest => k_is)
    (case ciNoGuest => k_is)
    (case kiNoGuest => k_is)
    (case kCNoGuest => k_is)
    (case eCNoGuest => k_is)
    (case tCNoGuest => k_is)
    (case hCNoGuest => k_is)
    (case clNoGuest => k_is)
    (case svNoGuest => k_is)
    (case acNoGuest => k_is)
    (case moNoGuest => k_is)
    (case suNoGuest => k_is)
    (case gNoRooms => k_is)
    (case xlNoRooms => k_is)
    (case saNoRooms => k_is)
    (case gaNoRooms => k_is)
    (case ggNoRooms => k_is)
    (case nwNoRooms => k_is)
    (case aiNoRooms => k_is)
    (case tiNoRooms => k_is)
    (case liNoRooms => k_is)
    (case ciNoRooms => k_is)
    (case kiNoRooms => k_is)
    (case kCNoRooms => k_is)
    (case eCNoRooms => k_is)
    (case tCNoRooms => k_is)
    (case hCNoRooms => k_is)
    (case clNoRooms => k_is)
    (case svNoRooms => k_is)
    (case acNoRooms => k_is)
    (case moNoRooms => k_is)
    (case suNoRooms => k_is)
    (case gNoRoom => k_is)
    (case xlNoRoom => k_is)
    (case saNoRoom => k_is)
    (case gaNoRoom => k_is)
    (case ggNoRoom => k_is)
    (case nwNoRoom => k_is)
    (case aiNoRoom => k_is)
    (case tiNoRoom => k_is)
    (case liNoRoom => k_is)
    (case ciNoRoom => k_is)
    (case kiNoRoom => k_is)
    (case kCNoRoom => k_is)
    (case eCNoRoom => k_is)
    (case tCNoRoom => k_is)
    (case hCNoRoom => k_is)
    (case clNoRoom => k_is)
    (case svNoRoom => k_is)
    (case acNoRoom => k_is)
    (case moNoRoom => k_is)
    (case suNoRoom => k_is)
    (case gNoCrowd => k_is)
    (case xlNoCrowd => k_is)
    (case saNoCrowd => k_is)
    (case gaNoCrowd => k_is)
    (case ggNoCrowd => k_is)
    (case nwNoCrowd => k_is)
    (case aiNoCrowd => k_is)
    (case tiNoCrowd => k_is)
    (case liNoCrowd => k_is)
    (case ciNoCrowd => k_is)
    (case kiNoCrowd => k_is)
    (case kCNoCrowd => k_is)
    (case eCNoCrowd => k_is)
    (case tCNoCrowd => k_is)
    (case hCNoCrowd => k_is)
    (case clNoCrowd => k_is)
    (case svNoCrowd => k_is)
    (case acNoCrowd => k_is)
    (case moNoCrowd => k_is)
    (case suNoCrowd => k_is)
    (case gNoText => k_is)
    (case xlNoText => k_is)
    (case saNoText => k_is)
    (case gaNoText => k_is)
    (case ggNoText => k_is)
    (case nwNoText => k_is)
    (case aiNoText => k_is)
    (case tiNoText => k_is)
    (case liNoText => k_is)
    (case ciNoText => k_is)
    (case kiNoText => k_is)
    (case kCNoText => k_is)
    (case eCNoText => k_is)
    (case tCNoText => k_is)
    (case hCNoText => k_is)
    (case clNoText => k_is)
    (case svNoText => k_is)
    (case acNoText => k_is)
    (case moNoText => k_is)
    (case suNoText => k_is)
    (case suNoGuestNoRooms => k_is)
    (case neNoGuestNoRooms => decide)
    (case suNoGuestNoRoom => k_is)
    (case neNoGuestNoRoom => decide)
    (case suNoGuestNoCrowd => k_is)
    (case neNoGuestNoCrowd => decide)
    (case suNoGuestNoText => k_is)
    (case neNoGuestNoText => decide)
    (case suNoRoomsNoGuest => k_is)
    (case neNoRoomsNoGuest => decide)
    (case suNoRoomsNoRoom => k_is)
    (case neNoRoomsNoRoom => decide)
    (case suNoRoomsNoCrowd => k_is)
    (case neNoRoomsNoCrowd => decide)
    (case suNoRoomsNoText => k_is)
    (case neNoRoomsNoText => decide)
    (case suNoRoomNoGuest => k_is)
    (case neNoRoomNoGuest => decide)
    (case suNoRoomNoRooms => k_is)
    (case neNoRoomNoRooms => decide)
    (case suNoRoomNoCrowd => k_is)
    (case neNoRoomNoCrowd => decide)
    (case suNoRoomNoText => k_is)
    (case neNoRoomNoText => decide)
    (case suNoCrowdNoGuest => k_is)
    (case neNoCrowdNoGuest => decide)
    (case suNoCrowdNoRooms => k_is)
    (case neNoCrowdNoRooms => decide)
    (case suNoCrowdNoRoom => k_is)
    (case neNoCrowdNoRoom => decide)
    (case suNoCrowdNoText => k_is)
    (case neNoCrowdNoText => decide)
    (case suNoTextNoGuest => k_is)
    (case neNoTextNoGuest => decide)
    (case suNoTextNoRooms => k_is)
    (case neNoTextNoRooms => decide)
    (case suNoTextNoRoom => k_is)
    (case neNoTextNoRoom => decide)
    (case suNoTextNoCrowd => k_is)
    (case neNoTextNoCrowd => decide)
    (case cl0 => k_is)
    (case z1 => k_is)
    (case z2 => k_is)
    (case z3 => k_is)
    (case z4 => k_is)
    (case z5 => k_is)
    (case z6 => k_is)
    (case z7 => k_is)
    (case z8 => k_is)
    (case z9 => k_is)
    (case z10 => k_is)
    (case z11 => k_is)
    (case z12 => k_is)
    (case z13 => k_is)
    (case z14 => k_is)
    (case z15 => k_is)
    (case z16 => k_is)
    (case z17 => k_is)
    (case z18 => k_is)
    (case z19 => k_is)
    (case z20 => k_is)
    (case z21 => k_is)
    (case z22 => k_is)
    (case z23 => k_is)
