import PyProof.Rows.All
import Wide.All
import OpenK.AllK
import Wide.FinOn
import HandS.ForMost
import HandS.ForExc
import HandS.Wide
import HandS.SortKw
import HandS.SortRule
import HandS.SortInts
import HandS.Style
import HandS.IsInst
import HandS.Conv
import HandS.Walk
import HandS.Flow
import HandS.More
import HandS.Defaults
import HandS.RaiseMore
import HandS.Remove
import HandS.Star
import HandS.Steps
import HandS.ClsMeth
import HandS.Codes
import HandS.DictComp
import HandS.ExcField
import HandS.ExcInit
import HandS.ExcIs
import HandS.ExcValue
import HandS.FStr
import HandS.FStrTup
import HandS.Flow
import HandS.HotCalls
import HandS.ListItems
import HandS.SetFor
import HandS.Star
import HandS.StrMore
import HandS.Strs
import HandS.Text
import HandS.Wide
import HandS.WideBits
import HandS.Zip
import KE.DatumOrd
import KE.GoesEnum
import KE.IntTextLaws
import KE.KDictZip
import KE.KExcIs
import KE.GoesComp
import HandS.Deep
import PySem.Challenge.RW_elderinn_k56_whole_one_writing
set_option Elab.async false
set_option linter.all false
set_option maxRecDepth 100000
set_option maxHeartbeats 8000000
namespace El
/-! ### the rule by age, in plain lists -/
def place : List (List Int) → Int → Int → List (List Int)
  | [], a, _ => [[a]]
  | r :: rs, a, p => if (r.length : Int) ≤ p then (r ++ [a]) :: rs else r :: place rs a p
def firstB : List (List Int) → Int → Nat
  | [], _ => 0
  | r :: rs, p => if (r.length : Int) ≤ p then 0 else firstB rs p + 1
theorem firstB_le : ∀ (rs : List (List Int)) (p : Int), firstB rs p ≤ rs.length
  | [], _ => Nat.le_refl _
  | r :: rs, p => by
    unfold firstB
    split
    · exact Nat.zero_le _
    · exact Nat.succ_le_succ (firstB_le rs p)
theorem firstB_out : ∀ (rs : List (List Int)) (p : Int) (i : Nat) (r : List Int), i < firstB rs p → rs[i]? = some r → p < (r.length : Int)
  | [], _, _, _, h, _ => absurd h (Nat.not_lt_zero _)
  | s :: rs, p, i, r, h, e => by
    unfold firstB at h
    split at h
    · exact absurd h (Nat.not_lt_zero _)
    · rename_i hn
      cases i with
      | zero =>
        have e' : s = r := Option.some.inj e
        subst e'
        omega
      | succ i => exact firstB_out rs p i r (Nat.lt_of_succ_lt_succ h) (by simpa using e)
theorem firstB_in : ∀ (rs : List (List Int)) (p : Int), firstB rs p < rs.length → ∃ r, rs[firstB rs p]? = some r ∧ (r.length : Int) ≤ p
  | [], _, h => absurd h (Nat.not_lt_zero _)
  | s :: rs, p, h => by
    unfold firstB at h ⊢
    split
    · rename_i hn
      exact ⟨s, rfl, hn⟩
    · rename_i hn
      rw [if_neg hn] at h
      obtain ⟨r, e, q⟩ := firstB_in rs p (Nat.lt_of_succ_lt_succ h)
      exact ⟨r, by simpa using e, q⟩
theorem firstB_is : ∀ (rs : List (List Int)) (p : Int) (i : Nat), i ≤ rs.length → (∀ j r, j < i → rs[j]? = some r → p < (r.length : Int)) → (∀ r, rs[i]? = some r → (r.length : Int) ≤ p) → firstB rs p = i
  | [], _, i, h, _, _ => by
    have : i = 0 := Nat.le_zero.mp h
    subst this
    rfl
  | s :: rs, p, 0, _, _, h2 => by
    unfold firstB
    rw [if_pos (h2 s rfl)]
  | s :: rs, p, i + 1, h, h1, h2 => by
    have h0 := h1 0 s (Nat.succ_pos _) rfl
    unfold firstB
    rw [if_neg (by omega), firstB_is rs p i (Nat.le_of_succ_le_succ h) (fun j r hj e => h1 (j + 1) r (Nat.succ_lt_succ hj) (by simpa using e)) fun r e => h2 r (by simpa using e)]
theorem place_new : ∀ (rs : List (List Int)) (a p : Int), firstB rs p = rs.length → place rs a p = rs ++ [[a]]
  | [], _, _, _ => rfl
  | r :: rs, a, p, h => by
    unfold firstB at h
    unfold place
    split at h
    · exact absurd h (by rw [List.length_cons]; omega)
    · rename_i hn
      rw [if_neg hn, place_new rs a p (by rw [List.length_cons] at h; omega)]
      rfl
theorem place_at : ∀ (rs : List (List Int)) (a p : Int) (r : List Int), rs[firstB rs p]? = some r → place rs a p = rs.set (firstB rs p) (r ++ [a])
  | [], _, _, _, h => by simp at h
  | s :: rs, a, p, r, h => by
    unfold firstB at h ⊢
    unfold place
    split
    · rename_i hn
      rw [if_pos hn] at h
      have e : s = r := Option.some.inj h
      subst e
      rfl
    · rename_i hn
      rw [if_neg hn] at h
      rw [place_at rs a p r (by simpa using h)]
      rfl
theorem place_len (rs : List (List Int)) (a p : Int) : (place rs a p).length = if firstB rs p = rs.length then rs.length + 1 else rs.length := by
  by_cases h : firstB rs p = rs.length
  · rw [if_pos h, place_new rs a p h, List.length_append]
    rfl
  · have hl := firstB_le rs p
    obtain ⟨r, e, _⟩ := firstB_in rs p (by omega)
    rw [if_neg h, place_at rs a p r e, List.length_set]
/-- all in order -/
def settleL (gs : List (Int × Int)) : List (List Int) := gs.foldl (fun rs g => place rs g.1 g.2) []
theorem settleL_snoc (gs : List (Int × Int)) (g : Int × Int) : settleL (gs ++ [g]) = place (settleL gs) g.1 g.2 := by
  unfold settleL
  rw [List.foldl_append]
  rfl
theorem settleL_take {gs : List (Int × Int)} {i : Nat} {g : Int × Int} (h : gs[i]? = some g) : settleL (gs.take (i + 1)) = place (settleL (gs.take i)) g.1 g.2 := by
  rw [List.take_add_one, h]
  exact settleL_snoc _ _
theorem place_count (rs : List (List Int)) (a p : Int) : (place rs a p).flatten.length = rs.flatten.length + 1 := by
  induction rs with
  | nil => rfl
  | cons r rs ih =>
    unfold place
    split
    · simp only [List.flatten_cons, List.length_append, List.length_cons, List.length_nil]
      omega
    · simp only [List.flatten_cons, List.length_append]
      omega
theorem settleL_count (gs : List (Int × Int)) : (settleL gs).flatten.length = gs.length := by
  suffices h : ∀ (gs : List (Int × Int)) (rs : List (List Int)), (gs.foldl (fun rs g => place rs g.1 g.2) rs).flatten.length = rs.flatten.length + gs.length by
    have q := h gs []
    rw [List.flatten_nil, List.length_nil, Nat.zero_add] at q
    exact q
  intro gs
  induction gs with
  | nil => intro rs; rfl
  | cons g gs ih =>
    intro rs
    rw [List.foldl_cons, ih, place_count, List.length_cons]
    omega
theorem place_ne (rs : List (List Int)) (a p : Int) (h : ∀ r ∈ rs, r ≠ []) : ∀ r ∈ place rs a p, r ≠ [] := by
  induction rs with
  | nil =>
    intro r hr
    rw [List.mem_singleton.mp hr]
    exact List.cons_ne_nil _ _
  | cons s rs ih =>
    unfold place
    split
    · intro r hr
      rcases List.mem_cons.mp hr with e | hr
      · rw [e]
        simp
      · exact h r (List.mem_cons_of_mem _ hr)
    · intro r hr
      rcases List.mem_cons.mp hr with e | hr
      · rw [e]
        exact h s List.mem_cons_self
      · exact ih (fun r hr => h r (List.mem_cons_of_mem _ hr)) r hr
theorem settleL_ne (gs : List (Int × Int)) : ∀ r ∈ settleL gs, r ≠ [] := by
  suffices h : ∀ (gs : List (Int × Int)) (rs : List (List Int)), (∀ r ∈ rs, r ≠ []) → ∀ r ∈ gs.foldl (fun rs g => place rs g.1 g.2) rs, r ≠ [] from h gs [] (fun r hr => absurd hr (by simp))
  intro gs
  induction gs with
  | nil => intro rs h; exact h
  | cons g gs ih =>
    intro rs h
    rw [List.foldl_cons]
    exact ih _ (place_ne rs _ _ h)
theorem len_le_flat : ∀ (rs : List (List Int)), (∀ r ∈ rs, r ≠ []) → rs.length ≤ rs.flatten.length
  | [], _ => Nat.le_refl _
  | r :: rs, h => by
    have h1 := h r List.mem_cons_self
    have h2 := len_le_flat rs fun r hr => h r (List.mem_cons_of_mem _ hr)
    have h3 : 0 < r.length := List.length_pos_iff.mpr h1
    rw [List.flatten_cons, List.length_append, List.length_cons]
    omega
theorem room_le_flat : ∀ (rs : List (List Int)) (r : List Int), r ∈ rs → r.length ≤ rs.flatten.length
  | s :: rs, r, h => by
    rw [List.flatten_cons, List.length_append]
    rcases List.mem_cons.mp h with e | h
    · rw [e]
      omega
    · have := room_le_flat rs r h
      omega
theorem settleL_len (gs : List (Int × Int)) : (settleL gs).length ≤ gs.length := by
  rw [← settleL_count gs]
  exact len_le_flat _ (settleL_ne gs)
theorem settleL_room {gs : List (Int × Int)} {r : List Int} (h : r ∈ settleL gs) : r.length ≤ gs.length := by
  rw [← settleL_count gs]
  exact room_le_flat _ _ h
/-- sizes never rise -/
def Falls (rs : List (List Int)) : Prop := rs.Pairwise fun r s => s.length ≤ r.length
theorem place_mem {rs : List (List Int)} {a p : Int} {r : List Int} (h : r ∈ place rs a p) : r ∈ rs ∨ (∃ s ∈ rs, r = s ++ [a] ∧ (s.length : Int) ≤ p) ∨ r = [a] := by
  induction rs with
  | nil => exact .inr (.inr (List.mem_singleton.mp h))
  | cons s rs ih =>
    unfold place at h
    split at h
    · rename_i hn
      rcases List.mem_cons.mp h with e | h
      · exact .inr (.inl ⟨s, List.mem_cons_self, e, hn⟩)
      · exact .inl (List.mem_cons_of_mem _ h)
    · rcases List.mem_cons.mp h with e | h
      · rw [e]
        exact .inl List.mem_cons_self
      · rcases ih h with q | ⟨t, ht, q⟩ | q
        · exact .inl (List.mem_cons_of_mem _ q)
        · exact .inr (.inl ⟨t, List.mem_cons_of_mem _ ht, q⟩)
        · exact .inr (.inr q)
theorem place_falls (rs : List (List Int)) (a p : Int) (hp : 0 ≤ p) (h : Falls rs) : Falls (place rs a p) := by
  induction rs with
  | nil => exact List.pairwise_singleton _ _
  | cons s rs ih =>
    obtain ⟨h1, h2⟩ := List.pairwise_cons.mp h
    unfold place
    split
    · refine List.pairwise_cons.mpr ⟨fun r hr => ?_, h2⟩
      have := h1 r hr
      rw [List.length_append]
      omega
    · rename_i hn
      refine List.pairwise_cons.mpr ⟨fun r hr => ?_, ih h2⟩
      rcases place_mem hr with q | ⟨t, ht, q, q2⟩ | q
      · exact h1 r q
      · rw [q, List.length_append, List.length_singleton]
        omega
      · rw [q, List.length_singleton]
        omega
theorem settleL_falls (gs : List (Int × Int)) (h : ∀ g ∈ gs, 0 ≤ g.2) : Falls (settleL gs) := by
  suffices q : ∀ (gs : List (Int × Int)) (rs : List (List Int)), (∀ g ∈ gs, 0 ≤ g.2) → Falls rs → Falls (gs.foldl (fun rs g => place rs g.1 g.2) rs) from q gs [] h List.Pairwise.nil
  intro gs
  induction gs with
  | nil => intro rs _ hr; exact hr
  | cons g gs ih =>
    intro rs hg hr
    rw [List.foldl_cons]
    exact ih _ (fun x hx => hg x (List.mem_cons_of_mem _ hx)) (place_falls rs _ _ (hg g List.mem_cons_self) hr)
/-! ### from the eldest on -/
def byAge (gs : List (Int × Int)) : List (Int × Int) := gs.mergeSort fun g h => decide (h.1 ≤ g.1)
theorem byAge_perm (gs : List (Int × Int)) : (byAge gs).Perm gs := List.mergeSort_perm _ _
theorem byAge_sorted (gs : List (Int × Int)) : (byAge gs).Pairwise fun g h => h.1 ≤ g.1 := by
  have q := List.pairwise_mergeSort (le := fun (g h : Int × Int) => decide (h.1 ≤ g.1)) (fun a b c h1 h2 => by
    have h1 := of_decide_eq_true h1
    have h2 := of_decide_eq_true h2
    exact decide_eq_true (by omega)) (fun a b => by
    by_cases h : b.1 ≤ a.1
    · simp [h]
    · have : a.1 ≤ b.1 := by omega
      simp [this]) gs
  exact q.imp fun h => of_decide_eq_true h
theorem byAge_length (gs : List (Int × Int)) : (byAge gs).length = gs.length := (byAge_perm gs).length_eq
theorem sorted_uniq {α : Type} (k : α → Int) : ∀ {l m : List α}, l.Perm m → (l.map k).Nodup → l.Pairwise (fun g h => k h ≤ k g) → m.Pairwise (fun g h => k h ≤ k g) → l = m
  | [], m, p, _, _, _ => by rw [List.nil_perm.mp p]
  | x :: l, [], p, _, _, _ => absurd p.length_eq (by simp)
  | x :: l, y :: m, p, nd, h1, h2 => by
    have nd' : (k x :: l.map k).Nodup := nd
    obtain ⟨n1, n2⟩ := List.nodup_cons.mp nd'
    obtain ⟨a1, a2⟩ := List.pairwise_cons.mp h1
    obtain ⟨b1, b2⟩ := List.pairwise_cons.mp h2
    have e : x = y := by
      rcases List.mem_cons.mp (p.mem_iff.mp List.mem_cons_self) with e | hx
      · exact e
      · have hy : y ∈ x :: l := p.mem_iff.mpr List.mem_cons_self
        rcases List.mem_cons.mp hy with e | hy
        · exact e.symm
        · have c1 := b1 x hx
          have c2 := a1 y hy
          have c3 : k x = k y := by omega
          exact absurd (List.mem_map.mpr ⟨y, hy, c3.symm⟩) n1
    subst e
    rw [sorted_uniq k (List.Perm.cons_inv p) n2 a2 b2]
def settle (gs : List (Int × Int)) : List (List Int) := settleL (byAge gs)
/-- guests that there can be -/
structure Fit (gs : List (Int × Int)) : Prop where
  nd : (gs.map (·.1)).Nodup
  pos : ∀ g ∈ gs, 0 ≤ g.2
theorem Fit.perm {gs hs : List (Int × Int)} (f : Fit gs) (p : hs.Perm gs) : Fit hs := ⟨((p.map (·.1)).nodup_iff).mpr f.nd, fun g hg => f.pos g (p.mem_iff.mp hg)⟩
theorem Fit.byAge {gs : List (Int × Int)} (f : Fit gs) : Fit (byAge gs) := f.perm (byAge_perm gs)
theorem byAge_of {gs hs : List (Int × Int)} (f : Fit gs) (p : hs.Perm gs) (h : hs.Pairwise fun g h => h.1 ≤ g.1) : hs = byAge gs :=
  sorted_uniq (·.1) (p.trans (byAge_perm gs).symm) (f.perm p).nd h (byAge_sorted gs)
theorem byAge_congr {gs hs : List (Int × Int)} (f : Fit gs) (p : hs.Perm gs) : byAge hs = byAge gs :=
  byAge_of f ((byAge_perm hs).trans p) (byAge_sorted hs)
theorem ages_of {gs : List (Int × Int)} (f : Fit gs) {ns : List Int} (p : ns.Perm (gs.map (·.1))) (h : ns.Pairwise (· ≥ ·)) : ns = (byAge gs).map (·.1) := by
  refine sorted_uniq (fun x : Int => x) (p.trans ((byAge_perm gs).map (·.1)).symm) ?_ (h.imp fun q => q) ?_
  · rw [List.map_id']
    exact (p.nodup_iff).mpr f.nd
  · rw [List.pairwise_map]
    exact byAge_sorted gs
theorem settle_congr {gs hs : List (Int × Int)} (f : Fit gs) (p : hs.Perm gs) : settle hs = settle gs := by
  unfold settle
  rw [byAge_congr f p]
end El
namespace El
/-! ### who has more elders than they bear -/
def down (ns : List Int) : List Int := ns.mergeSort fun a b => decide (b ≤ a)
theorem down_perm (ns : List Int) : (down ns).Perm ns := List.mergeSort_perm _ _
theorem down_sorted (ns : List Int) : (down ns).Pairwise (· ≥ ·) := by
  have q := List.pairwise_mergeSort (le := fun (g h : Int) => decide (h ≤ g)) (fun a b c h1 h2 => by
    have h1 := of_decide_eq_true h1
    have h2 := of_decide_eq_true h2
    exact decide_eq_true (by omega)) (fun a b => by
    by_cases h : b ≤ a
    · simp [h]
    · have : a ≤ b := by omega
      simp [this]) ns
  exact q.imp fun h => of_decide_eq_true h
theorem desc_uniq : ∀ {l m : List Int}, l.Perm m → l.Pairwise (· ≥ ·) → m.Pairwise (· ≥ ·) → l = m
  | [], m, p, _, _ => by rw [List.nil_perm.mp p]
  | x :: l, [], p, _, _ => absurd p.length_eq (by simp)
  | x :: l, y :: m, p, h1, h2 => by
    obtain ⟨a1, a2⟩ := List.pairwise_cons.mp h1
    obtain ⟨b1, b2⟩ := List.pairwise_cons.mp h2
    have e : x = y := by
      rcases List.mem_cons.mp (p.mem_iff.mp List.mem_cons_self) with e | hx
      · exact e
      · have hy : y ∈ x :: l := p.mem_iff.mpr List.mem_cons_self
        rcases List.mem_cons.mp hy with e | hy
        · exact e.symm
        · have c1 := b1 x hx
          have c2 := a1 y hy
          omega
    subst e
    rw [desc_uniq (List.Perm.cons_inv p) a2 b2]
theorem down_is {l ns : List Int} (p : l.Perm ns) (h : l.Pairwise (· ≥ ·)) : l = down ns := desc_uniq (p.trans (down_perm ns).symm) h (down_sorted ns)
def pof (gs : List (Int × Int)) (a : Int) : Int := match gs.find? fun g => decide (g.1 = a) with | some g => g.2 | none => 0
theorem pof_is : ∀ {gs : List (Int × Int)} {g : Int × Int}, (gs.map (·.1)).Nodup → g ∈ gs → pof gs g.1 = g.2
  | x :: gs, g, nd, h => by
    have nd' : (x.1 :: gs.map (·.1)).Nodup := nd
    obtain ⟨n1, n2⟩ := List.nodup_cons.mp nd'
    rcases List.mem_cons.mp h with e | h
    · subst e
      unfold pof
      rw [List.find?_cons_of_pos (by simp)]
    · have n : ¬ x.1 = g.1 := fun z => n1 (by rw [z]; exact List.mem_map.mpr ⟨g, h, rfl⟩)
      have := pof_is n2 h
      unfold pof at this ⊢
      rw [List.find?_cons_of_neg (by simpa using n)]
      exact this
def upIn (pf : Int → Int) : List Int → Nat → Option Int
  | [], _ => none
  | a :: l, i => if pf a < (i : Int) then some a else upIn pf l (i + 1)
theorem upIn_none {pf : Int → Int} : ∀ {l : List Int} {k : Nat}, (∀ (i : Nat) (a : Int), l[i]? = some a → ((i + k : Nat) : Int) ≤ pf a) → upIn pf l k = none
  | [], _, _ => rfl
  | a :: l, k, h => by
    unfold upIn
    have h0 := h 0 a rfl
    rw [if_neg (by omega)]
    exact upIn_none fun i b e => by
      have := h (i + 1) b (by simpa using e)
      omega
theorem upIn_at {pf : Int → Int} {l : List Int} {a : Int} : ∀ {i k : Nat}, l[i]? = some a → (∀ (j : Nat) (b : Int), j < i → l[j]? = some b → ((j + k : Nat) : Int) ≤ pf b) → pf a < ((i + k : Nat) : Int) → upIn pf l k = some a := by
  induction l with
  | nil => intro i k e; simp at e
  | cons x l ih =>
    intro i k e h1 h2
    unfold upIn
    cases i with
    | zero =>
      obtain rfl : x = a := Option.some.inj e
      rw [if_pos (by omega)]
    | succ i =>
      have h0 := h1 0 x (Nat.succ_pos _) rfl
      rw [if_neg (by omega)]
      exact ih (i := i) (by simpa using e) (fun j b hj e' => by
        have := h1 (j + 1) b (Nat.succ_lt_succ hj) (by simpa using e')
        omega) (by omega)
def eldUp (gs : List (Int × Int)) (ns : List Int) : Option Int := upIn (pof gs) (down ns) 0
def upsetOf (gs : List (Int × Int)) : List (List Int) → Nat → Option (Nat × Int)
  | [], _ => none
  | r :: rs, i => match eldUp gs r with | some a => some (i, a) | none => upsetOf gs rs (i + 1)
theorem upsetOf_none {gs : List (Int × Int)} : ∀ {rs : List (List Int)} {k : Nat}, (∀ r ∈ rs, eldUp gs r = none) → upsetOf gs rs k = none
  | [], _, _ => rfl
  | r :: rs, k, h => by
    unfold upsetOf
    rw [h r List.mem_cons_self]
    exact upsetOf_none fun s m => h s (List.mem_cons_of_mem _ m)
theorem upsetOf_at {gs : List (Int × Int)} {rs : List (List Int)} {r : List Int} {a : Int} : ∀ {i k : Nat}, rs[i]? = some r → (∀ (j : Nat) (s : List Int), j < i → rs[j]? = some s → eldUp gs s = none) → eldUp gs r = some a → upsetOf gs rs k = some (i + k, a) := by
  induction rs with
  | nil => intro i k e; simp at e
  | cons x rs ih =>
    intro i k e h1 h2
    unfold upsetOf
    cases i with
    | zero =>
      obtain rfl : x = r := Option.some.inj e
      rw [h2, Nat.zero_add]
    | succ i =>
      rw [h1 0 x (Nat.succ_pos _) rfl]
      have z := ih (i := i) (k := k + 1) (by simpa using e) (fun j b hj e' => h1 (j + 1) b (Nat.succ_lt_succ hj) (by simpa using e')) h2
      show upsetOf gs rs (k + 1) = _
      rw [z, show i + (k + 1) = i + 1 + k by omega]
/-! ### the rooms by age are in peace -/
def Fine (L : List (Int × Int)) (r : List Int) : Prop := r.Pairwise (· ≥ ·) ∧ ∀ (i : Nat) (a : Int), r[i]? = some a → ∃ g ∈ L, g.1 = a ∧ (i : Int) ≤ g.2
theorem Fine.mem {L : List (Int × Int)} {r : List Int} (h : Fine L r) {a : Int} (m : a ∈ r) : ∃ g ∈ L, g.1 = a := by
  obtain ⟨i, e⟩ := List.mem_iff_getElem?.mp m
  obtain ⟨g, h1, h2, _⟩ := h.2 i a e
  exact ⟨g, h1, h2⟩
theorem Fine.more {L M : List (Int × Int)} {r : List Int} (h : Fine L r) (k : ∀ g ∈ L, g ∈ M) : Fine M r := ⟨h.1, fun i a e => by
  obtain ⟨g, h1, h2⟩ := h.2 i a e
  exact ⟨g, k g h1, h2⟩⟩
theorem settleL_fine {L : List (Int × Int)} (hL : L.Pairwise fun g h => h.1 ≤ g.1) (hp : ∀ g ∈ L, 0 ≤ g.2) : ∀ i, i ≤ L.length → ∀ r ∈ settleL (L.take i), Fine (L.take i) r
  | 0, _, r, hr => by
    rw [List.take_zero] at hr
    exact absurd hr (List.not_mem_nil)
  | i + 1, hi, r, hr => by
    have ih := settleL_fine hL hp i (by omega)
    have eg : L[i]? = some L[i] := List.getElem?_eq_getElem hi
    generalize hg : L[i] = g at eg
    have hm : g ∈ L := List.mem_of_getElem? eg
    have hle : ∀ x ∈ L.take i, g.1 ≤ x.1 := by
      have e2 : L = L.take i ++ g :: L.drop (i + 1) := by
        have := List.getElem_cons_drop (as := L) (i := i) hi
        rw [hg] at this
        rw [this, List.take_append_drop]
      rw [e2] at hL
      exact fun x hx => (List.pairwise_append.mp hL).2.2 x hx g List.mem_cons_self
    have et : L.take (i + 1) = L.take i ++ [g] := by
      rw [List.take_add_one, eg]
      rfl
    rw [settleL_take eg] at hr
    rw [et]
    rcases place_mem hr with q | ⟨s, hs, e, hle2⟩ | q
    · exact (ih r q).more fun x hx => List.mem_append_left _ hx
    · have hF := ih s hs
      subst e
      refine ⟨?_, fun j a e => ?_⟩
      · rw [List.pairwise_append]
        refine ⟨hF.1, List.pairwise_singleton _ _, fun x hx y hy => ?_⟩
        rw [List.mem_singleton.mp hy]
        obtain ⟨z, hz, rfl⟩ := hF.mem hx
        exact hle z hz
      · by_cases hj : j < s.length
        · rw [List.getElem?_append_left hj] at e
          obtain ⟨z, h1, h2⟩ := hF.2 j a e
          exact ⟨z, List.mem_append_left _ h1, h2⟩
        · rw [List.getElem?_append_right (by omega)] at e
          have hj0 : j - s.length = 0 := by
            have := (List.getElem?_eq_some_iff.mp e).1
            rw [List.length_singleton] at this
            omega
          rw [hj0] at e
          obtain rfl : g.1 = a := Option.some.inj e
          exact ⟨g, List.mem_append_right _ (List.mem_singleton.mpr rfl), rfl, by omega⟩
    · subst q
      refine ⟨List.pairwise_singleton _ _, fun j a e => ?_⟩
      have hj0 : j = 0 := by
        have := (List.getElem?_eq_some_iff.mp e).1
        rw [List.length_singleton] at this
        omega
      subst hj0
      obtain rfl : g.1 = a := Option.some.inj e
      exact ⟨g, List.mem_append_right _ (List.mem_singleton.mpr rfl), rfl, hp g hm⟩
theorem settle_fine {gs : List (Int × Int)} (f : Fit gs) {r : List Int} (hr : r ∈ settle gs) : Fine gs r := by
  have h := settleL_fine (byAge_sorted gs) f.byAge.pos (byAge gs).length (Nat.le_refl _) r (by rw [List.take_length]; exact hr)
  rw [List.take_length] at h
  exact h.more fun g hg => (byAge_perm gs).mem_iff.mp hg
theorem settle_calm {gs : List (Int × Int)} (f : Fit gs) {r : List Int} (hr : r ∈ settle gs) : eldUp gs r = none := by
  obtain ⟨h1, h2⟩ := settle_fine f hr
  unfold eldUp
  rw [← down_is (List.Perm.refl r) h1]
  refine upIn_none fun i a e => ?_
  obtain ⟨g, hg, rfl, hl⟩ := h2 i a e
  rw [pof_is f.nd hg]
  exact hl
theorem place_perm : ∀ (rs : List (List Int)) (a p : Int), (place rs a p).flatten.Perm (a :: rs.flatten)
  | [], a, p => List.Perm.refl _
  | r :: rs, a, p => by
    unfold place
    split
    · rw [List.flatten_cons, List.flatten_cons, List.append_assoc]
      exact List.perm_middle
    · rw [List.flatten_cons, List.flatten_cons]
      exact ((place_perm rs a p).append_left r).trans List.perm_middle
theorem foldl_place_perm : ∀ (L : List (Int × Int)) (rs : List (List Int)), (L.foldl (fun rs g => place rs g.1 g.2) rs).flatten.Perm (L.map (·.1) ++ rs.flatten)
  | [], rs => List.Perm.refl _
  | g :: L, rs => by
    rw [List.foldl_cons]
    refine (foldl_place_perm L _).trans (((place_perm rs g.1 g.2).append_left _).trans ?_)
    rw [List.map_cons, List.cons_append]
    exact List.perm_middle
theorem settle_flat (gs : List (Int × Int)) : (settle gs).flatten.Perm (gs.map (·.1)) := by
  have h := foldl_place_perm (byAge gs) []
  rw [List.flatten_nil, List.append_nil] at h
  exact h.trans ((byAge_perm gs).map _)
/-! ### those behind the first j rooms -/
theorem take_place_lt : ∀ (rs : List (List Int)) (a p : Int) (j : Nat), firstB rs p < j → (place rs a p).take j = place (rs.take j) a p
  | _, _, _, 0, h => absurd h (Nat.not_lt_zero _)
  | [], a, p, j + 1, _ => by
    rw [List.take_nil]
    unfold place
    rw [List.take_succ_cons, List.take_nil]
  | r :: rs, a, p, j + 1, h => by
    unfold firstB at h
    rw [List.take_succ_cons]
    unfold place
    split at h
    · rename_i q
      rw [if_pos q, if_pos q, List.take_succ_cons]
    · rename_i q
      rw [if_neg q, if_neg q, List.take_succ_cons, take_place_lt rs a p j (by omega)]
theorem take_place_ge : ∀ (rs : List (List Int)) (a p : Int) (j : Nat), j ≤ firstB rs p → (place rs a p).take j = rs.take j
  | _, _, _, 0, _ => by rw [List.take_zero, List.take_zero]
  | [], a, p, j + 1, h => absurd h (Nat.not_succ_le_zero _)
  | r :: rs, a, p, j + 1, h => by
    unfold firstB at h
    unfold place
    split at h
    · exact absurd h (Nat.not_succ_le_zero _)
    · rename_i q
      rw [if_neg q, List.take_succ_cons, List.take_succ_cons, take_place_ge rs a p j (by omega)]
theorem drop_place_lt : ∀ (rs : List (List Int)) (a p : Int) (j : Nat), firstB rs p < j → (place rs a p).drop j = rs.drop j
  | _, _, _, 0, h => absurd h (Nat.not_lt_zero _)
  | [], a, p, j + 1, _ => by
    unfold place
    rw [List.drop_succ_cons, List.drop_nil, List.drop_nil]
  | r :: rs, a, p, j + 1, h => by
    unfold firstB at h
    unfold place
    split at h
    · rename_i q
      rw [if_pos q, List.drop_succ_cons, List.drop_succ_cons]
    · rename_i q
      rw [if_neg q, List.drop_succ_cons, List.drop_succ_cons, drop_place_lt rs a p j (by omega)]
theorem drop_place_ge : ∀ (rs : List (List Int)) (a p : Int) (j : Nat), j ≤ firstB rs p → (place rs a p).drop j = place (rs.drop j) a p
  | _, _, _, 0, _ => by rw [List.drop_zero, List.drop_zero]
  | [], a, p, j + 1, h => absurd h (Nat.not_succ_le_zero _)
  | r :: rs, a, p, j + 1, h => by
    unfold firstB at h
    split at h
    · exact absurd h (Nat.not_succ_le_zero _)
    · rename_i q
      rw [List.drop_succ_cons]
      show (if (r.length : Int) ≤ p then (r ++ [a]) :: rs else r :: place rs a p).drop (j + 1) = _
      rw [if_neg q, List.drop_succ_cons, drop_place_ge rs a p j (by omega)]
def kept (j : Nat) : List (List Int) → List (Int × Int) → List (Int × Int)
  | _, [] => []
  | rs, g :: L => if firstB rs g.2 < j then g :: kept j (place rs g.1 g.2) L else kept j (place rs g.1 g.2) L
def gone (j : Nat) : List (List Int) → List (Int × Int) → List (Int × Int)
  | _, [] => []
  | rs, g :: L => if firstB rs g.2 < j then gone j (place rs g.1 g.2) L else g :: gone j (place rs g.1 g.2) L
theorem gone_sub (j : Nat) : ∀ (L : List (Int × Int)) (rs : List (List Int)), ∀ g ∈ gone j rs L, g ∈ L
  | [], _, g, h => h
  | x :: L, rs, g, h => by
    unfold gone at h
    split at h
    · exact List.mem_cons_of_mem _ (gone_sub j L _ g h)
    · rcases List.mem_cons.mp h with e | h
      · rw [e]
        exact List.mem_cons_self
      · exact List.mem_cons_of_mem _ (gone_sub j L _ g h)
theorem kept_settle (j : Nat) : ∀ (L : List (Int × Int)) (rs : List (List Int)), (kept j rs L).foldl (fun rs g => place rs g.1 g.2) (rs.take j) = (L.foldl (fun rs g => place rs g.1 g.2) rs).take j
  | [], _ => rfl
  | g :: L, rs => by
    rw [List.foldl_cons]
    unfold kept
    split
    · rename_i h
      rw [List.foldl_cons, ← take_place_lt rs g.1 g.2 j h]
      exact kept_settle j L _
    · rename_i h
      rw [← take_place_ge rs g.1 g.2 j (by omega)]
      exact kept_settle j L _
theorem gone_settle (j : Nat) : ∀ (L : List (Int × Int)) (rs : List (List Int)), ((L.foldl (fun rs g => place rs g.1 g.2) rs).drop j).flatten.Perm ((gone j rs L).map (·.1) ++ (rs.drop j).flatten)
  | [], _ => List.Perm.refl _
  | g :: L, rs => by
    rw [List.foldl_cons]
    refine (gone_settle j L _).trans ?_
    show ((gone j (place rs g.1 g.2) L).map (·.1) ++ _).Perm ((if firstB rs g.2 < j then gone j (place rs g.1 g.2) L else g :: gone j (place rs g.1 g.2) L).map (·.1) ++ _)
    split
    · rename_i h
      rw [drop_place_lt rs g.1 g.2 j h]
    · rename_i h
      rw [drop_place_ge rs g.1 g.2 j (by omega), List.map_cons, List.cons_append]
      exact ((place_perm (rs.drop j) g.1 g.2).append_left _).trans List.perm_middle
theorem kept_filter (j : Nat) : ∀ (L : List (Int × Int)) (rs : List (List Int)) (S : List Int), (L.map (·.1)).Nodup → (∀ g ∈ L, g.1 ∈ S ↔ g.1 ∈ (gone j rs L).map (·.1)) → L.filter (fun g => !decide (g.1 ∈ S)) = kept j rs L
  | [], _, _, _, _ => rfl
  | g :: L, rs, S, nd, h => by
    have nd' : (g.1 :: L.map (·.1)).Nodup := nd
    obtain ⟨n1, n2⟩ := List.nodup_cons.mp nd'
    have h0 := h g List.mem_cons_self
    unfold kept
    by_cases q : firstB rs g.2 < j
    · have eg : gone j rs (g :: L) = gone j (place rs g.1 g.2) L := by
        show (if _ then _ else _) = _
        rw [if_pos q]
      rw [eg] at h h0
      have ng : ¬ g.1 ∈ S := fun z => by
        obtain ⟨x, hx, e⟩ := List.mem_map.mp (h0.mp z)
        exact n1 (List.mem_map.mpr ⟨x, gone_sub j L _ x hx, e⟩)
      rw [if_pos q, List.filter_cons_of_pos (by simpa using ng), kept_filter j L _ S n2 fun x hx => h x (List.mem_cons_of_mem _ hx)]
    · have eg : gone j rs (g :: L) = g :: gone j (place rs g.1 g.2) L := by
        show (if _ then _ else _) = _
        rw [if_neg q]
      rw [eg] at h h0
      have ng : g.1 ∈ S := h0.mpr List.mem_cons_self
      rw [if_neg q, List.filter_cons_of_neg (by simpa using ng)]
      refine kept_filter j L _ S n2 fun x hx => ?_
      have hx1 := h x (List.mem_cons_of_mem _ hx)
      rw [hx1, List.map_cons, List.mem_cons]
      have ne : ¬ x.1 = g.1 := fun z => n1 (by rw [← z]; exact List.mem_map.mpr ⟨x, hx, rfl⟩)
      exact ⟨fun z => z.resolve_left ne, .inr⟩
theorem Fit.filter {gs : List (Int × Int)} (f : Fit gs) (k : Int × Int → Bool) : Fit (gs.filter k) :=
  ⟨f.nd.sublist (List.filter_sublist.map _), fun g hg => f.pos g (List.mem_filter.mp hg).1⟩
theorem byAge_filter {gs : List (Int × Int)} (f : Fit gs) (k : Int × Int → Bool) : byAge (gs.filter k) = (byAge gs).filter k :=
  (byAge_of (f.filter k) ((byAge_perm gs).filter k) ((byAge_sorted gs).sublist List.filter_sublist)).symm
theorem settle_left {gs : List (Int × Int)} (f : Fit gs) {S : List Int} {j : Nat} (h : ∀ a, a ∈ S ↔ a ∈ ((settle gs).drop j).flatten) : settle (gs.filter fun g => !decide (g.1 ∈ S)) = (settle gs).take j := by
  unfold settle
  rw [byAge_filter f]
  have hg := gone_settle j (byAge gs) []
  rw [List.drop_nil, List.flatten_nil, List.append_nil] at hg
  rw [kept_filter j (byAge gs) [] S f.byAge.nd fun g _ => (h g.1).trans hg.mem_iff]
  have := kept_settle j (byAge gs) []
  rw [List.take_nil] at this
  exact this
def sentAway (gs : List (Int × Int)) (j : Nat) : List Int := down ((settle gs).drop j).flatten
theorem sentAway_mem (gs : List (Int × Int)) (j : Nat) (a : Int) : a ∈ sentAway gs j ↔ a ∈ ((settle gs).drop j).flatten := (down_perm _).mem_iff
end El
namespace El
/-! ### one guest more -/
/-- b is s with one more put in -/
def Plus (s b : List Int) : Prop := ∃ (A : List Int) (m : Int) (B : List Int), s = A ++ B ∧ b = A ++ m :: B
/-- where s has g, b has m ahead -/
def Swap (s b : List Int) : Prop := ∃ (A : List Int) (m : Int) (B : List Int) (g : Int) (C : List Int), s = A ++ B ++ g :: C ∧ b = A ++ m :: B ++ C
def Alike (s b : List Int) : Prop := s = b ∨ Swap s b
theorem Plus.len {s b : List Int} (h : Plus s b) : b.length = s.length + 1 := by
  obtain ⟨A, m, B, rfl, rfl⟩ := h
  rw [List.length_append, List.length_append, List.length_cons]
  omega
theorem Alike.len {s b : List Int} (h : Alike s b) : b.length = s.length := by
  rcases h with rfl | ⟨A, m, B, g, C, rfl, rfl⟩
  · rfl
  · simp only [List.length_append, List.length_cons]
    omega
theorem Plus.snoc {s b : List Int} (h : Plus s b) (a : Int) : Plus (s ++ [a]) (b ++ [a]) := by
  obtain ⟨A, m, B, rfl, rfl⟩ := h
  exact ⟨A, m, B ++ [a], by rw [List.append_assoc], by rw [List.append_assoc]; rfl⟩
theorem Alike.snoc {s b : List Int} (h : Alike s b) (a : Int) : Alike (s ++ [a]) (b ++ [a]) := by
  rcases h with rfl | ⟨A, m, B, g, C, rfl, rfl⟩
  · exact .inl rfl
  · exact .inr ⟨A, m, B, g, C ++ [a], by simp only [List.append_assoc, List.cons_append], by simp only [List.append_assoc, List.cons_append]⟩
inductive Near : List (List Int) → List (List Int) → Prop
  | new (m : Int) : Near [] [[m]]
  | here {s b : List Int} (h : Plus s b) (rest : List (List Int)) : Near (s :: rest) (b :: rest)
  | skip {s b : List Int} {ss bs : List (List Int)} (h : Alike s b) (r : Near ss bs) : Near (s :: ss) (b :: bs)
theorem Near.place (rs : List (List Int)) (a p : Int) : Near rs (El.place rs a p) := by
  induction rs with
  | nil => exact .new a
  | cons r rs ih =>
    unfold El.place
    split
    · exact .here ⟨r, a, [], by simp, rfl⟩ rs
    · exact .skip (.inl rfl) ih
theorem Near.step {s b : List (List Int)} (h : Near s b) (a p : Int) (hp : 0 ≤ p) : Near (El.place s a p) (El.place b a p) := by
  induction h with
  | new m =>
    unfold El.place
    split
    · exact .here (s := [a]) (b := [m] ++ [a]) ⟨[], m, [a], rfl, rfl⟩ []
    · refine .skip (.inr ⟨[], m, [], a, [], rfl, rfl⟩) ?_
      exact .new a
  | @here s b hb rest =>
    have hl := hb.len
    unfold El.place
    by_cases h1 : (s.length : Int) ≤ p
    · rw [if_pos h1]
      by_cases h2 : (b.length : Int) ≤ p
      · rw [if_pos h2]
        exact .here (hb.snoc a) rest
      · rw [if_neg h2]
        obtain ⟨A, m, B, rfl, rfl⟩ := hb
        exact .skip (.inr ⟨A, m, B, a, [], rfl, by simp⟩) (Near.place rest a p)
    · rw [if_neg h1, if_neg (by omega)]
      exact .here hb _
  | @skip s b ss bs hs r ih =>
    have hl := hs.len
    unfold El.place
    by_cases h1 : (s.length : Int) ≤ p
    · rw [if_pos h1, if_pos (by omega)]
      exact .skip (hs.snoc a) r
    · rw [if_neg h1, if_neg (by omega)]
      exact .skip hs ih
theorem Near.fold {s b : List (List Int)} (h : Near s b) : ∀ (gs : List (Int × Int)), (∀ g ∈ gs, 0 ≤ g.2) → Near (gs.foldl (fun rs g => El.place rs g.1 g.2) s) (gs.foldl (fun rs g => El.place rs g.1 g.2) b)
  | [], _ => h
  | g :: gs, hp => by
    rw [List.foldl_cons, List.foldl_cons]
    exact Near.fold (h.step g.1 g.2 (hp g List.mem_cons_self)) gs fun x hx => hp x (List.mem_cons_of_mem _ hx)
/-- the order with one more -/
theorem byAge_split {gs : List (Int × Int)} {x : Int × Int} (f : Fit (x :: gs)) : ∃ pre post, byAge (x :: gs) = pre ++ x :: post ∧ byAge gs = pre ++ post := by
  have hx : x ∈ byAge (x :: gs) := (byAge_perm _).mem_iff.mpr List.mem_cons_self
  obtain ⟨pre, post, e⟩ := List.append_of_mem hx
  refine ⟨pre, post, e, ?_⟩
  have fg : Fit gs := ⟨(List.nodup_cons.mp f.nd).2, fun g hg => f.pos g (List.mem_cons_of_mem _ hg)⟩
  refine (byAge_of fg ?_ ?_).symm
  · have p : (pre ++ x :: post).Perm (x :: gs) := e ▸ byAge_perm (x :: gs)
    exact List.Perm.cons_inv (List.perm_middle.symm.trans p)
  · have s := byAge_sorted (x :: gs)
    rw [e] at s
    rw [List.pairwise_append] at s ⊢
    obtain ⟨s1, s2, s3⟩ := s
    exact ⟨s1, (List.pairwise_cons.mp s2).2, fun a ha b hb => s3 a ha b (List.mem_cons_of_mem _ hb)⟩
theorem settle_near {gs : List (Int × Int)} {x : Int × Int} (f : Fit (x :: gs)) : Near (settle gs) (settle (x :: gs)) := by
  obtain ⟨pre, post, e1, e2⟩ := byAge_split f
  unfold settle settleL
  rw [e1, e2, List.foldl_append, List.foldl_append, List.foldl_cons]
  exact (Near.place _ x.1 x.2).fold post fun g hg => f.pos g ((byAge_perm _).mem_iff.mp (by rw [e1]; exact List.mem_append_right _ (List.mem_cons_of_mem _ hg)))
/-- sizes: one room one fuller -/
def bump (L : List Int) (d : Nat) : List Int := if d < L.length then L.set d (L.getD d 0 + 1) else L ++ [1]
theorem bump_cons (x : Int) (L : List Int) (d : Nat) : bump (x :: L) (d + 1) = x :: bump L d := by
  unfold bump
  by_cases h : d < L.length
  · rw [if_pos h, if_pos (by rw [List.length_cons]; omega)]
    rfl
  · rw [if_neg h, if_neg (by rw [List.length_cons]; omega)]
    rfl
theorem Near.sizes {s b : List (List Int)} (h : Near s b) : ∃ d, d ≤ s.length ∧ b.map (fun r => (r.length : Int)) = bump (s.map fun r => (r.length : Int)) d := by
  induction h with
  | new m => exact ⟨0, Nat.le_refl _, rfl⟩
  | @here s b hb rest =>
    refine ⟨0, Nat.zero_le _, ?_⟩
    have hl := hb.len
    show ((b.length : Int) :: rest.map fun r => (r.length : Int)) = ((s.length : Int) + 1) :: rest.map fun r => (r.length : Int)
    rw [hl]
    rfl
  | @skip s b ss bs hs r ih =>
    obtain ⟨d, hd, e⟩ := ih
    refine ⟨d + 1, by rw [List.length_cons]; omega, ?_⟩
    rw [List.map_cons, List.map_cons, bump_cons, e, hs.len]
theorem bump_length (L : List Int) {d : Nat} : (bump L d).length = if d < L.length then L.length else L.length + 1 := by
  unfold bump
  split
  · rw [List.length_set]
  · rw [List.length_append]
    rfl
theorem bump_at (L : List Int) {d k : Nat} (hd : d ≤ L.length) (hk : k < (bump L d).length) : (bump L d)[k]? = some (L.getD k 0 + if k = d then 1 else 0) := by
  rw [bump_length] at hk
  unfold bump
  by_cases h : d < L.length
  · rw [if_pos h] at hk ⊢
    by_cases e : k = d
    · subst e
      rw [List.getElem?_set_self hk, if_pos rfl]
    · rw [List.getElem?_set_ne (fun z => e z.symm), if_neg e, Int.add_zero, List.getElem?_eq_getElem hk, List.getD_eq_getElem?_getD, List.getElem?_eq_getElem hk]
      rfl
  · rw [if_neg h] at hk ⊢
    have hd' : d = L.length := by omega
    subst hd'
    by_cases e : k = L.length
    · subst e
      rw [List.getElem?_append_right (Nat.le_refl _), Nat.sub_self, if_pos rfl, List.getD_eq_getElem?_getD, List.getElem?_eq_none (Nat.le_refl _)]
      rfl
    · have hk' : k < L.length := by omega
      rw [List.getElem?_append_left hk', if_neg e, Int.add_zero, List.getElem?_eq_getElem hk', List.getD_eq_getElem?_getD, List.getElem?_eq_getElem hk']
      rfl
end El
namespace El
/-! ### in peace, by counting -/
theorem upIn_iff {pf : Int → Int} : ∀ {l : List Int} {k : Nat}, upIn pf l k = none ↔ ∀ (i : Nat) (a : Int), l[i]? = some a → ((i + k : Nat) : Int) ≤ pf a
  | [], _ => ⟨fun _ i a e => by simp at e, fun _ => rfl⟩
  | x :: l, k => by
    constructor
    · intro h
      unfold upIn at h
      by_cases q : pf x < (k : Int)
      · rw [if_pos q] at h
        cases h
      · rw [if_neg q] at h
        intro i a e
        cases i with
        | zero =>
          obtain rfl : x = a := Option.some.inj e
          omega
        | succ i =>
          have := (upIn_iff.mp h) i a (by simpa using e)
          omega
    · exact upIn_none
theorem upsetOf_iff {gs : List (Int × Int)} : ∀ {rs : List (List Int)} {k : Nat}, upsetOf gs rs k = none ↔ ∀ r ∈ rs, eldUp gs r = none
  | [], _ => ⟨fun _ r m => absurd m List.not_mem_nil, fun _ => rfl⟩
  | r :: rs, k => by
    constructor
    · intro h
      unfold upsetOf at h
      cases e : eldUp gs r with
      | some a => rw [e] at h; cases h
      | none =>
        rw [e] at h
        intro s m
        rcases List.mem_cons.mp m with rfl | m
        · exact e
        · exact (upsetOf_iff.mp h) s m
    · exact upsetOf_none
theorem above_ix : ∀ {l : List Int} {i : Nat} {a : Int}, l.Pairwise (· > ·) → l[i]? = some a → (l.filter fun b => decide (a < b)).length = i
  | [], i, a, _, e => by simp at e
  | x :: l, 0, a, h, e => by
    obtain rfl : x = a := Option.some.inj e
    obtain ⟨h1, _⟩ := List.pairwise_cons.mp h
    rw [List.filter_cons_of_neg (by simp), List.filter_eq_nil_iff.mpr fun b hb => by
      have := h1 b hb
      simp only [decide_eq_true_eq]
      omega]
    rfl
  | x :: l, i + 1, a, h, e => by
    obtain ⟨h1, h2⟩ := List.pairwise_cons.mp h
    have e' : l[i]? = some a := by simpa using e
    have := h1 a (List.mem_of_getElem? e')
    rw [List.filter_cons_of_pos (by simp only [decide_eq_true_eq]; omega), List.length_cons, above_ix h2 e']
def above (r : List Int) (a : Int) : List Int := r.filter fun b => decide (a < b)
theorem down_strict {r : List Int} (nd : r.Nodup) : (down r).Pairwise (· > ·) := by
  have h1 := down_sorted r
  have h2 : (down r).Nodup := ((down_perm r).nodup_iff).mpr nd
  have h3 := h1.and h2
  exact h3.imp fun {a b} h => by
    have := h.1
    have := h.2
    omega
theorem eldUp_iff {gs : List (Int × Int)} {r : List Int} (nd : r.Nodup) : eldUp gs r = none ↔ ∀ a ∈ r, ((above r a).length : Int) ≤ pof gs a := by
  have hl : ∀ a, (above r a).length = ((down r).filter fun b => decide (a < b)).length := fun a => (((down_perm r).filter _).length_eq).symm
  unfold eldUp
  rw [upIn_iff]
  constructor
  · intro h a m
    obtain ⟨i, e⟩ := List.mem_iff_getElem?.mp ((down_perm r).mem_iff.mpr m)
    have := h i a e
    rw [hl, above_ix (down_strict nd) e]
    omega
  · intro h i a e
    have := h a ((down_perm r).mem_iff.mp (List.mem_of_getElem? e))
    rw [hl, above_ix (down_strict nd) e] at this
    omega
theorem flat_nd {rs : List (List Int)} (nd : rs.flatten.Nodup) {r : List Int} (m : r ∈ rs) : r.Nodup := (List.pairwise_flatten.mp nd).1 r m
def full (rs : List (List Int)) : List (List Int) := rs.filter fun r => !r.isEmpty
def lensD (rs : List (List Int)) : List Int := (full rs).map fun r => (r.length : Int)
/-- in peace and as good as can be -/
def bestB (gs : List (Int × Int)) (rs : List (List Int)) : Bool := decide (upsetOf gs rs 0 = none) && decide (down (lensD rs) = (settle gs).map fun r => (r.length : Int))
end El
namespace El
open PySem PySem.Spec PyProof.Rows L2
/-! ### a def of the text as callers see it -/
structure Df (P : Program) (w : World) (K : PySem.W.Frag) (mg : Str → Option Value) (base : Heap) (k : Nat) (x : Str) (ps : List Str) (st : Stmt) (sp : Sp) : Prop where
  ex : ∃ (f : Addr) (fd : FuncData), Fun K x x st f fd ∧ mg x = some (.ref f) ∧ FnOk P w K mg base CX0 k f fd ps sp ∧ Binds K fd ps []
/-- where a def stands -/
structure At (K : PySem.W.Frag) (mg : Str → Option Value) (x : Str) (ps : List Str) (st : Stmt) : Prop where
  ex : ∃ (f : Addr) (fd : FuncData), Fun K x x st f fd ∧ mg x = some (.ref f) ∧ Binds K fd ps []
theorem At.df {P : Program} {w : World} {K : PySem.W.Frag} {mg : Str → Option Value} {base : Heap} {k : Nat} {x : Str} {ps : List Str} {st : Stmt} {sp : Sp} (A : At K mg x ps st)
    (h : ∀ f fd, Fun K x x st f fd → FnOk P w K mg base CX0 k f fd ps sp) : Df P w K mg base k x ps st sp := by
  obtain ⟨f, fd, F, m, b⟩ := A.ex
  exact ⟨f, fd, F, m, h f fd F, b⟩
section
variable {X : Cx} {k : Nat} {x : Str} {ps : List Str} {st : Stmt} {sp : Sp} {p pos : Pos} {e : Expr} {es : List Expr} {kws : List Keyword} {t tk : TA}
theorem pe_df (D : Df X.prog X.w X.K X.mg X.base k x ps st sp) (hr : Room k X.A) (hg : Gl X x) (ha : PA X (e :: es) t) (hdb : (x == ("__debug__" : Str)) = false := by decide)
    (he : starEach (e :: es) X.env = (false, eval e X.env) :: starEach es X.env := by rfl) (hpl : (backTo pos (starEach es X.env)).any (·.1) = false := by rfl) : PE X (.Call (.Name x p) (e :: es) [] pos) (tCall sp [] E0 t) := by
  obtain ⟨f, fd, F, m, G, b⟩ := D.ex
  exact pe_call G hr hg m F.kp b .nil pass0 ha hdb he hpl
theorem pe_df0 (D : Df X.prog X.w X.K X.mg X.base k x ps st sp) (hr : Room k X.A) (hg : Gl X x) (hdb : (x == ("__debug__" : Str)) = false := by decide) : PE X (.Call (.Name x p) [] [] pos) (tCall sp [] E0 tNil) := by
  obtain ⟨f, fd, F, m, G, b⟩ := D.ex
  exact pe_call0 G hr hg m F.kp b .nil pass0 hdb
def tCallW (n : Nat) (sp : Sp) (g : List V → List V) (tk : TA) : TE := fun σ H Q => tk σ H fun zs H2 => zs.length = n ∧ sp (g zs) H2 Q E0
/-- f(k = v, ..): keywords alone -/
theorem pe_dfK (D : Df X.prog X.w X.K X.mg X.base k x ps st sp) (ks : List Str) (g : {α : Type} → List α → List α) (hr : Room k X.A) (hg : Gl X x) (hkw : PK X kws tk)
    (hb : ∀ (kV doc pm : Value) (an : Option Addr) (cdv ct : Value) (ws : List Value), ws.length = ks.length → bindArgs (PySem.W.fnOf x x (defArgs st) (defBody st) (defScope st) .none kV doc pm an cdv ct) ⟨[], ks.zip ws⟩ = pure (ps.zip (g ws)))
    (hrel : ∀ {zs : List V} {ws : List Value}, Vals zs ws → Vals (g zs) (g ws))
    (hall : (backToKw pos (keywordEach kws X.env)).all (·.1.isSome) = true := by rfl) (hks : (backToKw pos (keywordEach kws X.env)).filterMap (·.1) = ks := by rfl) (hdb : (x == ("__debug__" : Str)) = false := by decide)
    (hpl : ((backTo pos (starEach [] X.env)).any (·.1) || (backToKw pos (keywordEach kws X.env)).any (·.1.isNone)) = false := by rfl) :
    PE X (.Call (.Name x p) [] kws pos) (tCallW ks.length sp (fun zs => g zs) tk) := by
  obtain ⟨f, fd, F, m, G, b⟩ := D.ex
  have kp := F.kp
  have KB : KBn X.K fd ps 0 ks (fun us ws => us ++ g ws) (fun vs zs => vs ++ g zs) := by
    obtain ⟨oc, od, kV, doc, pm, an, cdv, ct, osl, rfl, lk, hcd⟩ := F.ex
    refine ⟨fun s us ws hK l1 l2 => ?_, fun {vs us zs ws} r rz => Vals.append r (hrel rz)⟩
    obtain rfl := List.eq_nil_of_length_eq_zero l1
    exact .of_eq (hb kV doc pm an cdv ct ws l2)
  refine ⟨fun pins s σ H Q I h => ?_⟩
  refine wpAny_Call_Name_kw (ld_glob I hg m ?_ hdb)
  refine PySem.W.callWith_KW0 (h₀ := X.base) I.ok.mod.kin kp hall ?_ hpl
  refine thn (hkw.run pos pins s σ H _ I h) fun ws s2 ⟨zs, H2, I2, rz, l2, q2⟩ => ⟨I2.kIn, ?_⟩
  rw [hks]
  exact run_fnN (us := []) (vs := []) G hr KB pass0 I2 .nil rz rfl l2 q2
end
theorem Df.at {P : Program} {w : World} {K : PySem.W.Frag} {mg : Str → Option Value} {base : Heap} {k : Nat} {x : Str} {ps : List Str} {st : Stmt} {sp : Sp} {fa : Addr} {fd : FuncData} {oc : Value} {od : Option Addr} {sl : Array (Option Value)}
    (D : Df P w K mg base k x ps st sp) (hf : mg x = some (.ref fa)) (l : K.lookup fa = some ⟨oc, od, .func fd, sl⟩) : FnOk P w K mg base CX0 k fa fd ps sp := by
  obtain ⟨f, fd', F, m, G, b⟩ := D.ex
  obtain rfl : fa = f := by
    have e := hf.symm.trans m
    injection e with e
    injection e
  obtain ⟨oc', od', kV, doc, pm, an, cdv, ct, osl, e1, lk, hcd⟩ := F.ex
  have e := l.symm.trans lk
  injection e with e
  injection e with _ _ e _
  injection e with e
  rw [e]
  exact G
theorem At.mk' {K : PySem.W.Frag} {mg : Str → Option Value} {h : Heap} {x : Str} {ps : List Str} {st : Stmt} {f : Addr} {oc : Value} {od an : Option Addr} {osl : Array (Option Value)} {kV doc pm cdv ct : Value} (X : K.In h) (G : h.Ns mainGlobals mg)
    (a : PySem.W.nsIn K mainGlobals x = some (some (.ref f))) (l : K.lookup f = some ⟨oc, od, .func (PySem.W.fnOf x x (defArgs st) (defBody st) (defScope st) .none kV doc pm an cdv ct), osl⟩)
    (c : PySem.W.codeIn K cdv x = true) (k : PySem.W.keepIn K (.ref f) = true)
    (b : ∀ (kV doc pm : Value) (an : Option Addr) (cdv ct : Value) (us : List Value), us.length = ps.length → bindArgs (PySem.W.fnOf x x (defArgs st) (defBody st) (defScope st) .none kV doc pm an cdv ct) ⟨us, []⟩ = pure (ps.zip us)) : At K mg x ps st :=
  have F := fun_mk (st := st) l c k
  ⟨f, _, F, PySem.W.mg_of X G a, F.binds b⟩
end El
namespace El
open PySem PySem.Spec PyProof.Rows L2
section
variable {X : Cx}
/-! sorted(..., reverse=b) of anything whose walk is known -/
/-- partners: each pair is something of ours and the value that stands for it -/
abbrev Partners (P : List (V × Value)) : Prop := ∀ p ∈ P, RelV p.1 p.2
theorem partners_of : ∀ {xs : List V} {us : List Value}, Vals xs us → ∃ P, Partners P ∧ P.map Prod.fst = xs ∧ P.map Prod.snd = us
  | _, _, .nil => ⟨[], fun _ m => (List.not_mem_nil m).elim, rfl, rfl⟩
  | _, _, .cons h t =>
    let ⟨P, hP, e1, e2⟩ := partners_of t
    ⟨(_, _) :: P, fun p m => (List.mem_cons.mp m).elim (fun e => e ▸ h) (hP p), congrArg _ e1, congrArg _ e2⟩
theorem Partners.vals : ∀ {P : List (V × Value)}, Partners P → Vals (P.map Prod.fst) (P.map Prod.snd)
  | [], _ => .nil
  | _ :: _, h => .cons (h _ (.head _)) (Partners.vals fun p m => h p (.tail _ m))
/-- the values in another order: the partners go along -/
theorem go_along {α β : Type} {f : α → β} {ys : List β} : ∀ {P : List α}, ys.Perm (P.map f) → ∃ P' : List α, P'.Perm P ∧ P'.map f = ys := by
  suffices key : ∀ {as bs : List β}, as.Perm bs → ∀ P : List α, P.map f = as → ∃ P' : List α, P'.Perm P ∧ P'.map f = bs from
    fun {P} h => key h.symm P rfl
  intro as bs h
  induction h with
  | nil => exact fun P e => ⟨P, .refl _, e⟩
  | cons x _ ih =>
    intro P e
    match P, e with
    | q :: P, e =>
      obtain ⟨P', hp, e'⟩ := ih P (List.cons.inj e).2
      exact ⟨q :: P', hp.cons q, by rw [List.map_cons, e', (List.cons.inj e).1]⟩
  | swap x y l =>
    intro P e
    match P, e with
    | q :: r :: P, e => exact ⟨r :: q :: P, .swap .., by
        have e1 := List.cons.inj e
        have e2 := List.cons.inj e1.2
        rw [List.map_cons, List.map_cons, e1.1, e2.1, e2.2]⟩
  | trans _ _ ih1 ih2 =>
    intro P e
    obtain ⟨P1, h1, e1⟩ := ih1 P e
    obtain ⟨P2, h2, e2⟩ := ih2 P1 e1
    exact ⟨P2, h2.trans h1, e2⟩
/-- forwards or backwards -/
abbrev turn {α : Type} (b : Bool) (l : List α) : List α := if b = true then l.reverse else l
theorem turn_map {α β : Type} (f : α → β) (l : List α) : ∀ b, (turn b l).map f = turn b (l.map f)
  | true => List.map_reverse ..
  | false => rfl
theorem turn_perm {α : Type} (l : List α) : ∀ b, (turn b l).Perm l
  | true => l.reverse_perm
  | false => .refl _
theorem turn_arr {α : Type} (l : List α) : ∀ b : Bool, (if b = true then l.toArray.reverse else l.toArray) = (turn b l).toArray
  | true => List.reverse_toArray ..
  | false => rfl
/-- the walk over v gathers what stands for xs, and nothing that lay there is touched -/
def Gathers (X : Cx) (s : Shared) (v : Value) (xs : List V) : Prop :=
  ∀ R : List Value → Shared → Prop, (∀ us h t, Vals xs us → (∀ b o, s.heap.get? b = some o → h.get? b = some o) → R us { s with heap := h, toks := t }) → wpAny (model X.prog X.w) X.A.in1 (collect v) R X.xe s
theorem sorted_gathered {pins : List (Addr × Obj)} {σ : L2.St} {H : Hp} {s : Shared} {Q : VK} {b : Bool} {v : Value} {xs : List V} {less : Value → Value → Bool}
    (I : Inv X pins σ H s) (few : xs.length ≤ sizeLine) (walk : Gathers X s v xs) (O : SrtO.Swo less)
    (able : ∀ (us : List Value) (s' : Shared) (l : Addr), 2 ≤ us.length → Vals xs us → Inv X pins σ (upd H l (.lst xs)) s' → H l = none → SrtO.SortableO X.prog X.w X.A.in1.in1 s' l us less)
    (q : ∀ (P : List (V × Value)) (l : Addr), Partners P → (P.map Prod.fst).Perm xs → SrtO.Srtd less (P.map Prod.snd) → H l = none → Q (.ref l) (upd H l (.lst (turn b (P.map Prod.fst))))) :
    wpAny (model X.prog X.w) X.A (call (.builtin "sorted") [v] [(Str.ofString "reverse", .bool b)]) (EP X pins σ Q) X.xe s := by
  refine call_function_entry_kw kind_sorted plain_sorted entry_sorted (args_sorted_rev v (.bool b)) ?_
  refine wpAny_bind (m := checkCount "sorted" 1 1 _) (wpAny_pure ?_)
  refine wpAny_bind (walk _ fun us h t for_xs grown => ?_)
  have n2 : us.length ≤ sizeLine := for_xs.length ▸ few
  refine wpAny_bind (wpAny_newList (wpAny_bind (wpAny_holding ?_)) n2)
  -- the new list lies there, and is ours
  generalize hl : ({ s with heap := h, toks := t } : Shared).heap.objs.size = l
  have hl' : h.objs.size = l := hl
  have at_l : (h.push (seqObj "list" us.toArray 0)).get? l = some (seqObj "list" us.toArray 0) := hl' ▸ Heap.get?_push_size _ rfl
  have free : H l = none := hl' ▸ (I.kept (t' := t) grown).hok.fresh (Nat.le_refl _)
  have J : Inv X pins σ (upd H l (.lst xs)) { s with heap := h.push (seqObj "list" us.toArray 0), toks := t } :=
    (I.kept (t' := t) grown).laid (t' := t) (fun _ _ => Heap.get?_push_of_some _) (Nat.le_of_eq hl) ⟨few, _, 0, for_xs, at_l⟩
  -- it is sorted where it lies
  refine PyProof.Rows.wpAny_call_entry_kw slot_list_sort ⟨_, at_l, rfl⟩ entry_list_sort ?_ (args_list_sort_rev _ (.bool b))
  refine SrtR.list_sort_ordR O at_l n2 (fun two => able us _ l two for_xs J free) fun out up same => ⟨_, rfl, wpAny_pure ⟨_, rfl, ?_⟩⟩
  obtain ⟨P0, hP0, rfl, rfl⟩ := partners_of for_xs
  obtain ⟨P, p1, rfl⟩ := go_along (same.perm.trans (turn_perm (P0.map Prod.snd) b))
  rw [turn_arr]
  obtain ⟨e, he⟩ := sortedHeap_at (out := (turn b (P.map Prod.snd)).toArray) at_l
  have hP : Partners P := fun p m => hP0 p (p1.mem_iff.mp m)
  have ends : Partners (turn b P) := fun p m => hP p ((turn_perm P b).mem_iff.mp m)
  have done := J.write (o := .lst (turn b (P.map Prod.fst))) (t' := t) (h' := sortedHeap (h.push (seqObj "list" (P0.map Prod.snd).toArray 0)) l (P0.map Prod.snd) (turn b (P.map Prod.snd)).toArray)
    (by rw [upd_same]; trivial) (.inl rfl) (fun c u away there => (sortedHeap_old away (Heap.lt_size there)).trans there) ⟨_, he⟩
    ⟨by rw [((turn_perm _ b).trans (p1.map _)).length_eq]; exact few, _, e, by rw [← turn_map, ← turn_map]; exact ends.vals, he⟩
  rw [upd_upd] at done
  exact ⟨.ref l, _, done, rfl, q P l hP (p1.map _) up free⟩
/-- the walk over a dict: its keys -/
theorem gathers_dict {pins : List (Addr × Obj)} {σ : L2.St} {H : Hp} {s : Shared} {a : Addr} {kvs : List (L2.Key × V)} (calm : X.calm = true) (I : Inv X pins σ H s) (d : Rd H a (.dK kvs)) :
    kvs.length ≤ sizeLine ∧ Gathers X s (.ref a) (kvs.map fun e => kV e.1) := by
  have ⟨few, own, es, same, lies⟩ := dk_rd I.hok d
  have ⟨ep, lies⟩ := lies.dictAt
  have keys : (kvs.map fun e => kV e.1) = es.map fun e => kV e.1 := by
    have h := congrArg (List.map kV) same.keys
    rw [List.map_map, List.map_map] at h
    exact h
  refine ⟨few, fun R go => ?_⟩
  rw [keys] at go
  exact PySem.W.kdu_collect (PySem.W.kdl_dict (knd := mixKind X.prog X.w) own) (I.ok.hd calm) lies (same.length ▸ few)
    fun h t got grown is => go _ h t (keys_at (by simpa using is.1) fun j v at_j => is.2 j v (by simpa using at_j)) grown
theorem ints_back {us : List Value} {ns : List Int} (h : IntsAre us ns) : us.map SrtO.iv = ns := by
  induction h with
  | nil => rfl
  | cons n t _ ih => exact congrArg (n :: ·) ih
/-- sorted(d, reverse=b) of a dict whose keys are ints -/
def rSortedRevD (b : Bool) : List V → List V → Hp → VK → Prop := fun vs zs H Q => ∃ (a : Addr) (kvs : List (L2.Key × V)) (ks : List Int), vs = [V.ref a] ∧ zs = [.bl b] ∧ Rd H a (.dK kvs) ∧ kvs.map (·.1) = ks.map Sum.inl ∧
  ∀ (ns' : List Int) (p : Addr), ns'.Perm ks → OrdB b ns' → H p = none → Q (.ref p) (upd H p (.lst (ns'.map V.int)))
theorem cr_sortedRevD {b : Bool} (calm : X.calm = true) : CallRK X (.builtin "sorted") [Str.ofString "reverse"] (rSortedRevD b) := by
  rintro pins s σ H _ _ us ws Q I one by_kw ⟨a, kvs, ks, rfl, rfl, d, hks, q⟩
  obtain ⟨v, w, rfl, rfl, rfl, rfl⟩ : ∃ v w, us = [v] ∧ ws = [w] ∧ v = .ref a ∧ w = .bool b := by
    cases one with | cons e1 t1 => cases t1; cases by_kw with | cons e2 t2 => cases t2; exact ⟨_, _, rfl, rfl, e1, e2⟩
  have keys : (kvs.map fun e => kV e.1) = ks.map V.int := by
    have h := congrArg (List.map kV) hks
    rw [List.map_map, List.map_map] at h
    exact h
  have ⟨few, walk⟩ := gathers_dict calm I d
  rw [keys] at walk
  refine sorted_gathered I (by rw [← keys, List.length_map]; exact few) walk SrtO.swo_int (fun us _ _ two r _ _ => SrtO.ints_sortable r.ints two) fun P l hP perm up free => ?_
  obtain ⟨ns, np, en⟩ := go_along perm
  have back := ints_back (Vals.ints (en ▸ hP.vals))
  rw [← en, ← turn_map]
  refine q _ l ((turn_perm ns b).trans np) ?_ free
  have rise : ns.Pairwise (· ≤ ·) := by
    rw [← back, List.pairwise_map]
    exact up.imp fun h => Int.not_lt.mp (of_decide_eq_false h)
  cases b with
  | false => exact rise
  | true => exact List.pairwise_reverse.mpr rise
end
end El
namespace El
open PySem PySem.Spec PyProof.Rows L2
/-! ### heaps -/
/-- what B names stays as it was -/
def Kp (B : Addr → Prop) (H H' : Hp) : Prop := ∀ b o, B b → H b = some o → H' b = some o
theorem Kp.refl {B : Addr → Prop} {H : Hp} : Kp B H H := fun _ _ _ e => e
theorem Kp.trans {B : Addr → Prop} {H H1 H2 : Hp} (h : Kp B H H1) (k : Kp B H1 H2) : Kp B H H2 := fun b o hb e => k b o hb (h b o hb e)
theorem Kp.of {B : Addr → Prop} {H H' : Hp} (h : Same H H') : Kp B H H' := fun b o _ e => h b o e
theorem Kp.same {H H' : Hp} (h : Kp (fun _ => True) H H') : Same H H' := fun b o e => h b o trivial e
theorem same_new {H : Hp} {p : Addr} {o : HO} (h : H p = none) : Same H (upd H p o) := fun b u e => by
  rw [upd_ne (ne_of_none e h)]
  exact e
theorem Same.mut {H H' : Hp} {p : Addr} {o : HO} (e : Same H H') (h : H p = none) : Same H (upd H' p o) := fun b u q => by
  rw [upd_ne (ne_of_none q h)]
  exact e b u q
theorem Kp.mut {B : Addr → Prop} {H H' : Hp} {p : Addr} {o : HO} (e : Kp B H H') (h : ¬ B p) : Kp B H (upd H' p o) := fun b u hb q => by
  have n : b ≠ p := fun z => h (z ▸ hb)
  rw [upd_ne n]
  exact e b u hb q
theorem Kp.new {B : Addr → Prop} {H H' : Hp} {p : Addr} {o : HO} (e : Kp B H H') (h : H' p = none) : Kp B H (upd H' p o) := e.trans (Kp.of (same_new h))
theorem Kp.mutF {B : Addr → Prop} {H H' : Hp} {p : Addr} {o : HO} (e : Kp B H H') (h : H p = none) : Kp B H (upd H' p o) := fun b u hb q => by
  rw [upd_ne (ne_of_none q h)]
  exact e b u hb q
theorem Kp.none {B : Addr → Prop} {H H' : Hp} (e : Kp B H H') {p : Addr} (hb : B p) (h : H' p = none) : H p = none := by
  cases z : H p with
  | none => rfl
  | some x =>
    have := e _ _ hb z
    rw [h] at this
    cases this
theorem no_of {H : Hp} {a p : Addr} {o : HO} (h : H a = some o) (hp : H p = none) : p ≠ a := fun z => by
  rw [z, h] at hp
  cases hp
theorem same_none {H H' : Hp} (e : Same H H') {p : Addr} (h : H' p = none) : H p = none := e.free h
theorem ils {n : Nat} (h : n ≤ 100000) : n < sizeLine := Nat.lt_of_le_of_lt h (by decide)
theorem ile {n : Nat} (h : n ≤ 100000) : n ≤ sizeLine := Nat.le_of_lt (ils h)
theorem ints_at {ns : List Int} {i : Nat} {x : V} (h : (ns.map V.int)[i]? = some x) : ∃ n, ns[i]? = some n ∧ x = .int n := by
  rw [List.getElem?_map] at h
  cases e : ns[i]? with
  | none => rw [e] at h; cases h
  | some n => rw [e] at h; exact ⟨n, rfl, (Option.some.inj h).symm⟩
theorem refs_at {ts : List Addr} {i : Nat} {x : V} (h : (ts.map V.ref)[i]? = some x) : ∃ t, ts[i]? = some t ∧ x = .ref t := by
  rw [List.getElem?_map] at h
  cases e : ts[i]? with
  | none => rw [e] at h; cases h
  | some t => rw [e] at h; exact ⟨t, rfl, (Option.some.inj h).symm⟩
theorem at_lt {α : Type} {l : List α} {i : Nat} {x : α} (h : l[i]? = some x) : i < l.length := (List.getElem?_eq_some_iff.mp h).1
theorem at_some {α : Type} {l : List α} {i : Nat} (h : i < l.length) : ∃ x, l[i]? = some x := ⟨l[i], List.getElem?_eq_getElem h⟩
theorem take_snoc {α : Type} {l : List α} {i : Nat} {x : α} (h : l[i]? = some x) : l.take (i + 1) = l.take i ++ [x] := by
  rw [List.take_add_one, h]
  rfl
theorem take_full {α : Type} (l : List α) : l.take l.length = l := List.take_length
/-! ### a list of pairs of ints -/
structure GsAt (H : Hp) (B : Addr → Prop) (a : Addr) (ts : List Addr) (gs : List (Int × Int)) : Prop where
  top : H a = some (.lst (ts.map V.ref))
  ba : B a
  len : ts.length = gs.length
  at' : ∀ (i : Nat) (t : Addr) (g : Int × Int), ts[i]? = some t → gs[i]? = some g → H t = some (.tup [.int g.1, .int g.2])
  b : ∀ t ∈ ts, B t
theorem GsAt.keep {H H' : Hp} {B : Addr → Prop} {a : Addr} {ts : List Addr} {gs : List (Int × Int)} (h : GsAt H B a ts gs) (k : Kp B H H') : GsAt H' B a ts gs :=
  ⟨k _ _ h.ba h.top, h.ba, h.len, fun i t g e f => k _ _ (h.b t (List.mem_of_getElem? e)) (h.at' i t g e f), h.b⟩
theorem GsAt.same {H H' : Hp} {B : Addr → Prop} {a : Addr} {ts : List Addr} {gs : List (Int × Int)} (h : GsAt H B a ts gs) (k : Same H H') : GsAt H' B a ts gs := h.keep (.of k)
theorem GsAt.weaken {H : Hp} {B B' : Addr → Prop} {a : Addr} {ts : List Addr} {gs : List (Int × Int)} (h : GsAt H B a ts gs) (k : ∀ b, B b → B' b) : GsAt H B' a ts gs :=
  ⟨h.top, k _ h.ba, h.len, h.at', fun t m => k _ (h.b t m)⟩
theorem GsAt.seq {K : PySem.W.Frag} {H : Hp} {B : Addr → Prop} {a : Addr} {ts : List Addr} {gs : List (Int × Int)} (h : GsAt H B a ts gs) : SqL K H a (ts.map V.ref) := SqL.of h.top
theorem GsAt.get {H : Hp} {B : Addr → Prop} {a : Addr} {ts : List Addr} {gs : List (Int × Int)} (h : GsAt H B a ts gs) {i : Nat} {x : V} (e : (ts.map V.ref)[i]? = some x) : ∃ t g, x = .ref t ∧ gs[i]? = some g ∧ H t = some (.tup [.int g.1, .int g.2]) := by
  obtain ⟨t, e1, rfl⟩ := refs_at e
  have hi := at_lt e1
  rw [h.len] at hi
  obtain ⟨g, e2⟩ := at_some hi
  exact ⟨t, g, rfl, e2, h.at' i t g e1 e2⟩
/-- pushed -/
theorem GsAt.push {H : Hp} {B : Addr → Prop} {a : Addr} {ts : List Addr} {gs : List (Int × Int)} (h : GsAt H B a ts gs) (hn : a ∉ ts) {q : Addr} {g : Int × Int} (e : H q = some (.tup [.int g.1, .int g.2])) (bq : B q) :
    GsAt (upd H a (.lst (ts.map V.ref ++ [.ref q]))) B a (ts ++ [q]) (gs ++ [g]) := by
  refine ⟨?_, h.ba, ?_, fun i t x e1 e2 => ?_, fun t m => ?_⟩
  · rw [upd_same, List.map_append]
    rfl
  · rw [List.length_append, List.length_append, h.len]
    rfl
  · have nq : q ≠ a := fun z => by
      rw [z, h.top] at e
      cases e
    by_cases hi : i < ts.length
    · rw [List.getElem?_append_left hi] at e1
      rw [List.getElem?_append_left (by rw [← h.len]; exact hi)] at e2
      have nt : t ≠ a := fun z => hn (z ▸ List.mem_of_getElem? e1)
      rw [upd_ne nt]
      exact h.at' i t x e1 e2
    · have hi' : i = ts.length := by
        have := at_lt e1
        rw [List.length_append, List.length_singleton] at this
        omega
      subst hi'
      rw [List.getElem?_append_right (Nat.le_refl _), Nat.sub_self] at e1
      rw [h.len, List.getElem?_append_right (Nat.le_refl _), Nat.sub_self] at e2
      have e1' : q = t := Option.some.inj e1
      have e2' : g = x := Option.some.inj e2
      subst e1' e2'
      rw [upd_ne nq]
      exact e
  · rcases List.mem_append.mp m with m | m
    · exact h.b t m
    · rw [List.mem_singleton.mp m]
      exact bq
theorem GsAt.there {H : Hp} {B : Addr → Prop} {a : Addr} {ts : List Addr} {gs : List (Int × Int)} (h : GsAt H B a ts gs) : ∀ b, (b = a ∨ b ∈ ts) → ∃ x, H b = some x := fun b m => by
  rcases m with rfl | m
  · exact ⟨_, h.top⟩
  · obtain ⟨i, e⟩ := List.mem_iff_getElem?.mp m
    have hl := at_lt e
    rw [h.len] at hl
    obtain ⟨g, eg⟩ := at_some hl
    exact ⟨_, h.at' i b g e eg⟩
theorem GsAt.reB {H : Hp} {B B' : Addr → Prop} {a : Addr} {ts : List Addr} {gs : List (Int × Int)} (h : GsAt H B a ts gs) (k : ∀ b, (b = a ∨ b ∈ ts) → B b → B' b) : GsAt H B' a ts gs :=
  ⟨h.top, k _ (.inl rfl) h.ba, h.len, h.at', fun t m => k _ (.inr m) (h.b t m)⟩
/-- what stands in H and is named by B -/
def Liv (H : Hp) (B : Addr → Prop) (b : Addr) : Prop := (∃ x, H b = some x) ∧ B b
theorem GsAt.liv {H : Hp} {B : Addr → Prop} {a : Addr} {ts : List Addr} {gs : List (Int × Int)} (h : GsAt H B a ts gs) : GsAt H (Liv H B) a ts gs := h.reB fun b m hb => ⟨h.there b m, hb⟩
theorem Liv.no {H : Hp} {B : Addr → Prop} {p : Addr} (h : H p = none) : ¬ Liv H B p := fun ⟨⟨x, e⟩, _⟩ => by
  rw [h] at e
  cases e
theorem Liv.of {H : Hp} {B : Addr → Prop} {p : Addr} {o : HO} (h : H p = some o) (b : B p) : Liv H B p := ⟨⟨o, h⟩, b⟩
theorem Kp.weak {B B' : Addr → Prop} {H H' : Hp} (k : Kp B H H') (h : ∀ b, B' b → B b) : Kp B' H H' := fun b o hb e => k b o (h b hb) e
theorem Kp.liv {B : Addr → Prop} {H0 H H' : Hp} (k : Kp B H H') : Kp (Liv H0 B) H H' := k.weak fun _ h => h.2
/-! ### a list of lists of ints, each its own -/
structure RmsAt (H : Hp) (B : Addr → Prop) (o : Addr) (ts : List Addr) (rs : List (List Int)) : Prop where
  top : H o = some (.lst (ts.map V.ref))
  bo : B o
  nd : ts.Nodup
  no : o ∉ ts
  len : ts.length = rs.length
  at' : ∀ (i : Nat) (t : Addr) (r : List Int), ts[i]? = some t → rs[i]? = some r → H t = some (.lst (r.map V.int))
  b : ∀ t ∈ ts, B t
theorem RmsAt.keep {H H' : Hp} {B : Addr → Prop} {a : Addr} {ts : List Addr} {rs : List (List Int)} (h : RmsAt H B a ts rs) (k : Kp B H H') : RmsAt H' B a ts rs :=
  ⟨k _ _ h.bo h.top, h.bo, h.nd, h.no, h.len, fun i t g e f => k _ _ (h.b t (List.mem_of_getElem? e)) (h.at' i t g e f), h.b⟩
theorem RmsAt.same {H H' : Hp} {B : Addr → Prop} {a : Addr} {ts : List Addr} {rs : List (List Int)} (h : RmsAt H B a ts rs) (k : Same H H') : RmsAt H' B a ts rs := h.keep (.of k)
theorem RmsAt.weaken {H : Hp} {B B' : Addr → Prop} {a : Addr} {ts : List Addr} {rs : List (List Int)} (h : RmsAt H B a ts rs) (k : ∀ b, B b → B' b) : RmsAt H B' a ts rs :=
  ⟨h.top, k _ h.bo, h.nd, h.no, h.len, h.at', fun t m => k _ (h.b t m)⟩
theorem RmsAt.seq {K : PySem.W.Frag} {H : Hp} {B : Addr → Prop} {a : Addr} {ts : List Addr} {rs : List (List Int)} (h : RmsAt H B a ts rs) : SqL K H a (ts.map V.ref) := SqL.of h.top
theorem RmsAt.get {H : Hp} {B : Addr → Prop} {a : Addr} {ts : List Addr} {rs : List (List Int)} (h : RmsAt H B a ts rs) {i : Nat} {x : V} (e : (ts.map V.ref)[i]? = some x) : ∃ t r, x = .ref t ∧ ts[i]? = some t ∧ rs[i]? = some r ∧ H t = some (.lst (r.map V.int)) := by
  obtain ⟨t, e1, rfl⟩ := refs_at e
  have hi := at_lt e1
  rw [h.len] at hi
  obtain ⟨g, e2⟩ := at_some hi
  exact ⟨t, g, rfl, e1, e2, h.at' i t g e1 e2⟩
theorem RmsAt.of {H : Hp} {B : Addr → Prop} {a : Addr} {ts : List Addr} {rs : List (List Int)} (h : RmsAt H B a ts rs) {i : Nat} {r : List Int} (e : rs[i]? = some r) : ∃ t, ts[i]? = some t ∧ H t = some (.lst (r.map V.int)) := by
  have hi := at_lt e
  rw [← h.len] at hi
  obtain ⟨t, e2⟩ := at_some hi
  exact ⟨t, e2, h.at' i t r e2 e⟩
theorem RmsAt.nil {H : Hp} {B : Addr → Prop} {o : Addr} (h : H o = some (.lst [])) (bo : B o) : RmsAt H B o [] [] :=
  ⟨h, bo, List.nodup_nil, by simp, rfl, fun i t r e _ => by simp at e, fun t m => by simp at m⟩
/-- a new empty list behind -/
theorem RmsAt.push {H : Hp} {B : Addr → Prop} {o : Addr} {ts : List Addr} {rs : List (List Int)} (h : RmsAt H B o ts rs) {q : Addr} {r : List Int} (hq : H q = none) (bq : B q) :
    RmsAt (upd (upd H q (.lst (r.map V.int))) o (.lst (ts.map V.ref ++ [.ref q]))) B o (ts ++ [q]) (rs ++ [r]) := by
  have nq : q ≠ o := no_of h.top hq
  have nqt : ∀ t ∈ ts, q ≠ t := fun t m => by
    obtain ⟨i, hi⟩ := List.mem_iff_getElem?.mp m
    have hl := at_lt hi
    rw [h.len] at hl
    obtain ⟨r', er⟩ := at_some hl
    exact no_of (h.at' i t r' hi er) hq
  refine ⟨?_, h.bo, ?_, ?_, ?_, fun i t x e1 e2 => ?_, fun t m => ?_⟩
  · rw [upd_same, List.map_append]
    rfl
  · rw [List.nodup_append]
    exact ⟨h.nd, by simp, fun a ha b hb => by
      rw [List.mem_singleton.mp hb]
      exact (nqt a ha).symm⟩
  · intro m
    rcases List.mem_append.mp m with m | m
    · exact h.no m
    · exact nq (List.mem_singleton.mp m).symm
  · rw [List.length_append, List.length_append, h.len]
    rfl
  · by_cases hi : i < ts.length
    · rw [List.getElem?_append_left hi] at e1
      rw [List.getElem?_append_left (by rw [← h.len]; exact hi)] at e2
      have nt : t ≠ o := fun z => h.no (z ▸ List.mem_of_getElem? e1)
      rw [upd_ne nt, upd_ne (nqt t (List.mem_of_getElem? e1)).symm]
      exact h.at' i t x e1 e2
    · have hi' : i = ts.length := by
        have := at_lt e1
        rw [List.length_append, List.length_singleton] at this
        omega
      subst hi'
      rw [List.getElem?_append_right (Nat.le_refl _), Nat.sub_self] at e1
      rw [h.len, List.getElem?_append_right (Nat.le_refl _), Nat.sub_self] at e2
      have e1' : q = t := Option.some.inj e1
      have e2' : r = x := Option.some.inj e2
      subst e1' e2'
      rw [upd_ne nq, upd_same]
  · rcases List.mem_append.mp m with m | m
    · exact h.b t m
    · rw [List.mem_singleton.mp m]
      exact bq
/-- one of them changed -/
theorem RmsAt.set {H : Hp} {B : Addr → Prop} {o : Addr} {ts : List Addr} {rs : List (List Int)} (h : RmsAt H B o ts rs) {i : Nat} {t : Addr} (e : ts[i]? = some t) (r : List Int) :
    RmsAt (upd H t (.lst (r.map V.int))) B o ts (rs.set i r) := by
  have nt : t ≠ o := fun z => h.no (z ▸ List.mem_of_getElem? e)
  refine ⟨?_, h.bo, h.nd, h.no, ?_, fun j u x e1 e2 => ?_, h.b⟩
  · rw [upd_ne nt.symm]
    exact h.top
  · rw [List.length_set]
    exact h.len
  · by_cases hj : j = i
    · subst hj
      have e' : u = t := Option.some.inj (e1.symm.trans e)
      subst e'
      rw [upd_same]
      have hl := at_lt e1
      rw [h.len] at hl
      rw [List.getElem?_set_self hl] at e2
      have : r = x := Option.some.inj e2
      rw [this]
    · rw [List.getElem?_set_ne (fun z => hj z.symm)] at e2
      have hut : u ≠ t := fun z => by
        subst z
        exact hj (nd_ix h.nd e1 e)
      rw [upd_ne hut]
      exact h.at' j u x e1 e2
theorem RmsAt.newTop {H H' : Hp} {B B' : Addr → Prop} {o : Addr} {ts : List Addr} {rs : List (List Int)} (h : RmsAt H B o ts rs) (k : ∀ b u, (b = o ∨ b ∈ ts) → H b = some u → H' b = some u) (kb : ∀ b, (b = o ∨ b ∈ ts) → B' b) : RmsAt H' B' o ts rs :=
  ⟨k _ _ (.inl rfl) h.top, kb _ (.inl rfl), h.nd, h.no, h.len, fun i t r e f => k _ _ (.inr (List.mem_of_getElem? e)) (h.at' i t r e f), fun t m => kb t (.inr m)⟩
/-! ### the dict of patience -/
def pks (gs : List (Int × Int)) : List (L2.Key × V) := gs.map fun g => (Sum.inl g.1, V.int g.2)
theorem pks_len (gs : List (Int × Int)) : (pks gs).length = gs.length := List.length_map _
theorem pks_keys (gs : List (Int × Int)) : (pks gs).map (·.1) = (gs.map (·.1)).map Sum.inl := by
  unfold pks
  rw [List.map_map, List.map_map]
  rfl
theorem pks_snoc (gs : List (Int × Int)) (g : Int × Int) : pks (gs ++ [g]) = pks gs ++ [(Sum.inl g.1, V.int g.2)] := List.map_append
theorem pks_none {gs : List (Int × Int)} {a : Int} (h : a ∉ gs.map (·.1)) : valV (pks gs) (Sum.inl a) = none := by
  induction gs with
  | nil => rfl
  | cons g gs ih =>
    have h' : ¬ (a = g.1 ∨ a ∈ gs.map (·.1)) := fun z => h (by rw [List.map_cons]; exact List.mem_cons.mpr z)
    have n : ¬ (Sum.inl g.1 : L2.Key) = Sum.inl a := fun z => h' (.inl (Sum.inl.inj z).symm)
    show valV ((Sum.inl g.1, V.int g.2) :: pks gs) (Sum.inl a) = none
    rw [valV_neg n]
    exact ih fun z => h' (.inr z)
theorem pks_some : ∀ {gs : List (Int × Int)} {g : Int × Int}, (gs.map (·.1)).Nodup → g ∈ gs → valV (pks gs) (Sum.inl g.1) = some (.int g.2)
  | x :: gs, g, nd, h => by
    have nd' : (x.1 :: gs.map (·.1)).Nodup := nd
    obtain ⟨n1, n2⟩ := List.nodup_cons.mp nd'
    show valV ((Sum.inl x.1, V.int x.2) :: pks gs) (Sum.inl g.1) = some (.int g.2)
    rcases List.mem_cons.mp h with e | h
    · subst e
      rw [valV_pos rfl]
    · have n : ¬ (Sum.inl x.1 : L2.Key) = Sum.inl g.1 := fun z => n1 (by
        rw [Sum.inl.inj z]
        exact List.mem_map.mpr ⟨g, h, rfl⟩)
      rw [valV_neg n]
      exact pks_some n2 h
theorem putK_snoc {gs : List (Int × Int)} {g : Int × Int} (h : g.1 ∉ gs.map (·.1)) : putK (pks gs) (Sum.inl g.1) (V.int g.2) = pks (gs ++ [g]) := by
  rw [putK_new _ (pks_none h), pks_snoc]
theorem Fit.take_no {gs : List (Int × Int)} (f : Fit gs) {i : Nat} {g : Int × Int} (h : gs[i]? = some g) : g.1 ∉ (gs.take i).map (·.1) := by
  intro m
  have e : gs = gs.take i ++ g :: gs.drop (i + 1) := by
    have hl := at_lt h
    have e2 : gs[i] = g := by
      rw [List.getElem?_eq_getElem hl] at h
      exact Option.some.inj h
    rw [← e2, List.getElem_cons_drop, List.take_append_drop]
  have nd := f.nd
  rw [e, List.map_append, List.nodup_append] at nd
  exact nd.2.2 _ m g.1 (by rw [List.map_cons]; exact List.mem_cons_self) rfl
/-! ### rules by a written part that is named (for what stands in a comprehension) -/
section
variable {X : Cx}
theorem lenK (K : PySem.W.Frag) (e : X.K = K := by rfl) : CallR X (.builtin "len") (fun xs H Q => ∃ p ys, xs = [.ref p] ∧ (SqL K H p ys ∨ SqT K H p ys) ∧ Q (.int ys.length) H) := by
  subst e
  exact call_len_seq
theorem ixlK (K : PySem.W.Frag) (e : X.K = K := by rfl) : IxR X (rIxL K) := by
  subst e
  exact ix_list
theorem ixtK (K : PySem.W.Frag) (e : X.K = K := by rfl) : IxR X (rIxT K) := by
  subst e
  exact ix_tup
theorem sllK (K : PySem.W.Frag) (e : X.K = K := by rfl) : SlR X (rSlL K) := by
  subst e
  exact sl_list
theorem eqDK (K : PySem.W.Frag) (hu : X.A.units + 64 < cLine) (e : X.K = K := by rfl) : OpR X (compareOp .Eq) (rEqD K) := by
  subst e
  exact op_eqD hu
theorem neDK (K : PySem.W.Frag) (hu : X.A.units + 64 < cLine) (e : X.K = K := by rfl) : OpR X (compareOp .NotEq) (rNeD K) := by
  subst e
  exact op_neD hu
theorem isiK (K : PySem.W.Frag) (e : X.K = K := by rfl) : CallR X (.builtin "isinstance") (rIsi K) := by
  subst e
  exact call_isi
theorem sumK (K : PySem.W.Frag) (hc : X.calm = true) (e : X.K = K := by rfl) : CallR X (.builtin "sum") (rSum K) := by
  subst e
  exact cr_sum hc
theorem inK (K : PySem.W.Frag) (e : X.K = K := by rfl) : OpR X (compareOp .In) (rIn K false) := by
  subst e
  exact op_in_seq
theorem notInK (K : PySem.W.Frag) (e : X.K = K := by rfl) : OpR X (compareOp .NotIn) (rIn K true) := by
  subst e
  exact op_notIn_seq
theorem listOfK (K : PySem.W.Frag) (e : X.K = K := by rfl) : CallR X (.type "list") (fun xs H Q => ∃ p ys, xs = [.ref p] ∧ (SqL K H p ys ∨ SqT K H p ys) ∧ ∀ l, H l = none → Q (.ref l) (upd H l (.lst ys))) := by
  subst e
  exact call_list_of
theorem pgTupK {es : List Expr} {k : Nat} {t : TGs} {pos : Pos} (K : PySem.W.Frag) (n : Nat) (hc : X.calm = true) (h : PGs X es t)
    (hn : (assignEach es X.env).length = n := by rfl) (hst : (assignEach es X.env).findIdx? (·.1) = none := by rfl) (e : X.K = K := by rfl) : PG X (.Tuple es k pos) (gTup K n t) := by
  subst e
  exact pg_tup hc h hn hst
theorem bmK {T : String} {name : Str} {id : String} {o e : Expr} {es : List Expr} {to : TE} {t : TA} {apos cpos : Pos} {r : V → List V → Hp → VK → Prop} (K : PySem.W.Frag) (pa : PlainAttrs T) (slot : Slot T name id) (hty : typeOf (.builtin id) = pure (.type "method_descriptor")) (hm : MtR X id r) (ho : PE X o to) (ha : PA X (e :: es) t)
    (hbase : attributeBase o name X.env (eval o X.env) = eval o X.env := by rfl)
    (hfew : ((backTo cpos (starEach (e :: es) X.env)).all (fun x => !x.1) && (backToKw cpos (keywordEach [] X.env)).all (fun x => x.1.isSome)
      && decide ((e :: es).length + ([] : List Keyword).length + (if ([] : List Keyword).isEmpty then 0 else 1) < 30)) = true := by rfl)
    (hline : (apos.endLine == cpos.line) = true := by rfl) (hs : starEach (e :: es) X.env = (false, eval e X.env) :: starEach es X.env := by rfl) (hplain : (backTo cpos (starEach es X.env)).any (·.1) = false := by rfl) (eK : X.K = K := by rfl) :
    PE X (.Call (.Attribute o name apos) (e :: es) [] cpos) (tBM K T r to t) := by
  subst eK
  exact pe_bm pa slot hty hm ho ha hbase hfew hline hs hplain
end
/-! ### cuts: what holds between two parts of a body -/
section
variable {σ : L2.St} {H : Hp} {D : Ends} {c : TT} {t u tb : TS}
theorem while_to (W : Nat → L2.St → Hp → Prop) (E : L2.St → Hp → Prop) (h0 : ∃ m, W m σ H) (hd : ∀ σ H, E σ H → D.nx σ H)
    (hs : ∀ X : L2.St → Hp → Prop, (∀ σ H, E σ H → X σ H) → ∀ m σ H, W m σ H → c σ H fun b H1 => if b = true then ∃ N : L2.St → Hp → Prop, (∀ σ' H', N σ' H' → ∃ m', m' < m ∧ W m' σ' H') ∧ tb { D with nx := N, ct := N, bk := X } σ H1 else X σ H1) : tWhile c tb D σ H := ⟨W, h0, hs D.nx hd⟩
theorem seq_to (E : L2.St → Hp → Prop) (h1 : ∀ X : L2.St → Hp → Prop, (∀ σ H, E σ H → X σ H) → t { D with nx := X } σ H) (h2 : ∀ σ H, E σ H → u D σ H) : tSeq t u D σ H := h1 (u D) h2
theorem seq_set {i : Nat} {v : V} (h : u D (σ.set i (some v)) H) : tSeq (tAsg (tC v) (gName i)) u D σ H := h
theorem st_to (E : L2.St → Hp → Prop) (h1 : ∀ X : L2.St → Hp → Prop, (∀ σ H, E σ H → X σ H) → t { D with nx := X } σ H) (h2 : ∀ σ H, E σ H → D.nx σ H) : t D σ H := h1 D.nx h2
end
theorem ixN_of {n j : Nat} (hj : j < n) : ixN n (j : Int) = some j := by
  unfold ixN
  rw [if_pos (by omega), if_pos (by omega), Int.toNat_natCast]
theorem seq_ix {n j : Nat} (hj : j < n) : seqIndex? (j : Int) n = some j := (ixN_seq (ixN_of hj)).1
theorem at_pick {xs : List V} {r : Int} (h0 : 0 ≤ r) (h1 : r < xs.length) : ∃ v, atI xs r = some v ∧ v ∈ xs := by
  obtain ⟨k, rfl⟩ : ∃ k : Nat, r = k := ⟨r.toNat, by omega⟩
  obtain ⟨v, e⟩ := at_some (show k < xs.length by omega)
  exact ⟨v, atI_nat e, List.mem_of_getElem? e⟩
theorem erase_perm {α : Type} : ∀ {l : List α} {k : Nat} {x : α}, l[k]? = some x → (x :: l.eraseIdx k).Perm l
  | [], _, _, h => by simp at h
  | a :: l, 0, x, h => by
    obtain rfl : a = x := Option.some.inj h
    exact List.Perm.refl _
  | a :: l, k + 1, x, h => by
    have ih := erase_perm (l := l) (k := k) (x := x) (by simpa using h)
    exact (List.Perm.swap a x (l.eraseIdx k)).trans (ih.cons a)
/-! ### data -/
def dInts (ns : List Int) : PyData := .list (ns.map .int)
def dGs (gs : List (Int × Int)) : PyData := .list (gs.map fun g => .tuple [.int g.1, .int g.2])
def dRows (rs : List (List Int)) : PyData := .list (rs.map dInts)
theorem canAll : ∀ {xs : List PyData}, (∀ x ∈ xs, x.canLay0 = true) → PyData.canLayAll0 xs = true
  | [], _ => by simp [PyData.canLayAll0]
  | x :: xs, h => by
    rw [PyData.canLayAll0, h x List.mem_cons_self, canAll fun y hy => h y (List.mem_cons_of_mem _ hy)]
    rfl
theorem depAll {n : Nat} : ∀ {xs : List PyData}, (∀ x ∈ xs, x.depth ≤ n) → PyData.depthAll xs ≤ n
  | [], _ => by simp [PyData.depthAll]
  | x :: xs, h => by
    rw [PyData.depthAll]
    exact Nat.max_le.mpr ⟨h x List.mem_cons_self, depAll fun y hy => h y (List.mem_cons_of_mem _ hy)⟩
structure Oks (n : Nat) (d : PyData) : Prop where
  can : d.canLay0 = true
  dep : d.depth ≤ n
theorem Oks.int (i : Int) : Oks 0 (.int i) := ⟨by simp [PyData.canLay0], by simp [PyData.depth]⟩
theorem Oks.mono {n m : Nat} {d : PyData} (h : Oks n d) (k : n ≤ m) : Oks m d := ⟨h.can, Nat.le_trans h.dep k⟩
theorem Oks.lst {n : Nat} {xs : List PyData} (h : ∀ x ∈ xs, Oks n x) : Oks (n + 1) (.list xs) := ⟨by rw [PyData.canLay0]; exact canAll fun x m => (h x m).can, by rw [PyData.depth]; exact Nat.succ_le_succ (depAll fun x m => (h x m).dep)⟩
theorem Oks.tup {n : Nat} {xs : List PyData} (h : ∀ x ∈ xs, Oks n x) : Oks (n + 1) (.tuple xs) := ⟨by rw [PyData.canLay0]; exact canAll fun x m => (h x m).can, by rw [PyData.depth]; exact Nat.succ_le_succ (depAll fun x m => (h x m).dep)⟩
theorem Oks.ints (ns : List Int) : Oks 1 (dInts ns) := .lst fun x m => by
  obtain ⟨n, _, rfl⟩ := List.mem_map.mp m
  exact .int n
theorem Oks.gs (gs : List (Int × Int)) : Oks 2 (dGs gs) := .lst fun x m => by
  obtain ⟨g, _, rfl⟩ := List.mem_map.mp m
  refine .tup fun y hy => ?_
  rcases List.mem_cons.mp hy with rfl | hy
  · exact .int _
  · rw [List.mem_singleton.mp hy]
    exact .int _
theorem Oks.rows (rs : List (List Int)) : Oks 2 (dRows rs) := .lst fun x m => by
  obtain ⟨r, _, rfl⟩ := List.mem_map.mp m
  exact .ints r
theorem Oks.shaped {n : Nat} {d : PyData} (h : Oks n d) (k : n ≤ 64 := by decide) : SeqAt.shaped d = true := by
  unfold SeqAt.shaped
  rw [h.can, decide_eq_true (Nat.le_trans h.dep k)]
  rfl
theorem Oks.eqv {n : Nat} {d : PyData} (h : Oks n d) : PyData.eqv d d = true := SeqAt.eqv_refl d h.can
theorem dp_ints {K : PySem.W.Frag} {H : Hp} {ns : List Int} : DpAll K H (ns.map V.int) (ns.map .int) := by
  induction ns with
  | nil => exact .nil
  | cons n ns ih => exact .cons (.int n) ih
theorem Dp.ints {K : PySem.W.Frag} {H : Hp} {a : Addr} {ns : List Int} (h : H a = some (.lst (ns.map V.int))) : Dp K H (.ref a) (dInts ns) := .lst (SqL.of h) dp_ints
theorem dpAll_of {K : PySem.W.Frag} {H : Hp} : ∀ {vs : List V} {ds : List PyData}, vs.length = ds.length → (∀ (i : Nat) (v : V) (d : PyData), vs[i]? = some v → ds[i]? = some d → Dp K H v d) → DpAll K H vs ds
  | [], [], _, _ => .nil
  | v :: vs, d :: ds, hl, h => .cons (h 0 v d rfl rfl) (dpAll_of (by simpa using hl) fun i v d e f => h (i + 1) v d (by simpa using e) (by simpa using f))
  | [], _ :: _, hl, _ => by simp at hl
  | _ :: _, [], hl, _ => by simp at hl
theorem GsAt.dp {K : PySem.W.Frag} {H : Hp} {B : Addr → Prop} {a : Addr} {ts : List Addr} {gs : List (Int × Int)} (h : GsAt H B a ts gs) : Dp K H (.ref a) (dGs gs) := by
  refine .lst h.seq (dpAll_of (by rw [List.length_map, List.length_map, h.len]) fun i v d e f => ?_)
  obtain ⟨t, g, rfl, eg, et⟩ := h.get e
  rw [List.getElem?_map, eg] at f
  obtain rfl := Option.some.inj f
  exact .tup (SqT.of et) (.cons (.int _) (.cons (.int _) .nil))
theorem RmsAt.dp {K : PySem.W.Frag} {H : Hp} {B : Addr → Prop} {a : Addr} {ts : List Addr} {rs : List (List Int)} (h : RmsAt H B a ts rs) : Dp K H (.ref a) (dRows rs) := by
  refine .lst h.seq (dpAll_of (by rw [List.length_map, List.length_map, h.len]) fun i v d e f => ?_)
  obtain ⟨t, r, rfl, _, er, et⟩ := h.get e
  rw [List.getElem?_map, er] at f
  obtain rfl := Option.some.inj f
  exact Dp.ints et
theorem eqv_nil (gs : List Int) : PyData.eqv (dInts gs) (dInts []) = gs.isEmpty := by
  cases gs with
  | nil => rfl
  | cons x r => rfl
theorem relTy (n : String) : RelV (.ty n) (.type n) := rfl
theorem FnOk.or {P : Program} {w : World} {K : PySem.W.Frag} {mg : Str → Option Value} {base : Heap} {CX : CXT} {k : Nat} {f : Addr} {fd : FuncData} {ps : List Str} {sp sp' : Sp} (F : FnOk P w K mg base CX k f fd ps sp) (F' : FnOk P w K mg base CX k f fd ps sp') :
    FnOk P w K mg base CX k f fd ps (fun vs H Q E => sp vs H Q E ∨ sp' vs H Q E) :=
  ⟨fun vs H Q E h => h.elim (F.len vs H Q E) (F'.len vs H Q E), fun A outer s H args us vs Q E hr e0 hb r h => h.elim (F.run A outer s H args us vs Q E hr e0 hb r) (F'.run A outer s H args us vs Q E hr e0 hb r)⟩
/-! ### built-ins by their names -/
structure Bi (mg : Str → Option Value) : Prop where
  len : mg "len" = none
  range : mg "range" = none
  enumerate : mg "enumerate" = none
  sorted : mg "sorted" = none
  sum : mg "sum" = none
  min : mg "min" = none
  max : mg "max" = none
  isinstance : mg "isinstance" = none
  zip : mg "zip" = none
  list_ : mg "list" = none
  tuple_ : mg "tuple" = none
  int_ : mg "int" = none
  bool_ : mg "bool" = none
  str_ : mg "str" = none
  abs : mg "abs" = none
  repr : mg "repr" = none
  dict_ : mg "dict" = none
  any : mg "any" = none
  all : mg "all" = none
  set_ : mg "set" = none
  reversed : mg "reversed" = none
  ValueError_ : mg "ValueError" = none
  divmod : mg "divmod" = none
end El
namespace El
open PySem PySem.Spec PyProof.Rows L2
/-- how many live in each -/
def lens (rs : List (List Int)) : List Int := rs.map fun r => (r.length : Int)
theorem lens_length (rs : List (List Int)) : (lens rs).length = rs.length := List.length_map _
theorem lens_at {rs : List (List Int)} {i : Nat} {r : List Int} (h : rs[i]? = some r) : (lens rs)[i]? = some (r.length : Int) := by
  unfold lens
  rw [List.getElem?_map, h]
  rfl
theorem cut_to (xs : List V) (j : Nat) : cutV xs none (some (j : Int)) = xs.take j := by
  unfold cutV
  rw [HT.sIx_none, HT.sIx_nat]
  show (List.drop 0 xs).take (min j xs.length - 0) = _
  rw [List.drop_zero, Nat.sub_zero, ← List.take_eq_take_min]
/-- the pair that stands at a value -/
def prOf (H : Hp) : V → Int × Int
  | .ref t => match H t with
    | some (.tup [.int i, .int j]) => (i, j)
    | _ => (0, 0)
  | _ => (0, 0)
theorem prOf_is {H : Hp} {t : Addr} {g : Int × Int} (h : H t = some (.tup [.int g.1, .int g.2])) : prOf H (.ref t) = g := by
  show (match H t with
    | some (.tup [.int i, .int j]) => (i, j)
    | _ => (0, 0)) = g
  rw [h]
theorem GsAt.prs {H : Hp} {B : Addr → Prop} {a : Addr} {ts : List Addr} {gs : List (Int × Int)} (h : GsAt H B a ts gs) : (ts.map V.ref).map (prOf H) = gs := by
  refine List.ext_getElem? fun i => ?_
  rw [List.getElem?_map]
  cases e : (ts.map V.ref)[i]? with
  | none =>
    have hl : (ts.map V.ref).length ≤ i := List.getElem?_eq_none_iff.mp e
    rw [List.length_map, h.len] at hl
    rw [List.getElem?_eq_none_iff.mpr hl]
    rfl
  | some x =>
    obtain ⟨t, g, rfl, eg, et⟩ := h.get e
    rw [eg]
    show some (prOf H (.ref t)) = some g
    rw [prOf_is et]
theorem GsAt.mem {H : Hp} {B : Addr → Prop} {a : Addr} {ts : List Addr} {gs : List (Int × Int)} (h : GsAt H B a ts gs) : ∀ x ∈ ts.map V.ref, ∃ t, x = V.ref t ∧ H t = some (.tup [.int (prOf H x).1, .int (prOf H x).2]) := fun x m => by
  obtain ⟨i, e⟩ := List.mem_iff_getElem?.mp m
  obtain ⟨t, g, rfl, eg, et⟩ := h.get e
  refine ⟨t, rfl, ?_⟩
  rw [prOf_is et]
  exact et
theorem sorted_prs {k : V → Int × Int} {ys xs : List V} {gs : List (Int × Int)} (f : Fit gs) (hx : xs.map k = gs) (hs : SrtO.Srtd (ltP k) ys) (hb : SrtO.Stb (ltP k) ys xs) : ys.reverse.map k = byAge gs := by
  refine byAge_of f ?_ ?_
  · rw [← hx]
    exact ((List.reverse_perm ys).trans hb.perm).map k
  · rw [List.map_reverse, List.pairwise_reverse, List.pairwise_map]
    refine hs.imp fun {a b} h => ?_
    have h' : SrtO.lexB (k b) (k a) = false := h
    rw [SrtO.lexB_no] at h'
    omega
theorem cut_1 (xs : List V) : cutV xs (some 1) none = xs.drop 1 := by
  unfold cutV
  rw [show HT.sIx xs.length 0 (some 1) = min 1 xs.length from HT.sIx_nat xs.length 0 1, HT.sIx_none]
  cases xs with
  | nil => rfl
  | cons x r =>
    rw [show min 1 (x :: r).length = 1 by
      rw [List.length_cons]
      omega]
    show (List.take ((x :: r).length - 1) r) = r
    rw [List.length_cons, Nat.add_sub_cancel]
    exact List.take_length
theorem lens_falls {gs : List (Int × Int)} (f : Fit gs) {i : Nat} {x y : Int} (h1 : (lens (settle gs))[i]? = some x) (h2 : ((lens (settle gs)).drop 1)[i]? = some y) : ¬ x < y := by
  rw [List.getElem?_drop] at h2
  unfold lens at h1 h2
  rw [List.getElem?_map] at h1 h2
  have hp := settleL_falls (byAge gs) f.byAge.pos
  cases e1 : (settle gs)[i]? with
  | none => rw [e1] at h1; cases h1
  | some r =>
    cases e2 : (settle gs)[1 + i]? with
    | none => rw [e2] at h2; cases h2
    | some s =>
      rw [e1] at h1
      rw [e2] at h2
      obtain rfl : (r.length : Int) = x := Option.some.inj h1
      obtain rfl : (s.length : Int) = y := Option.some.inj h2
      obtain ⟨l1, q1⟩ := List.getElem?_eq_some_iff.mp (show (settleL (byAge gs))[i]? = some r from e1)
      obtain ⟨l2, q2⟩ := List.getElem?_eq_some_iff.mp (show (settleL (byAge gs))[1 + i]? = some s from e2)
      have := List.pairwise_iff_getElem.mp hp i (1 + i) l1 l2 (by omega)
      rw [q1, q2] at this
      omega
theorem dget_pks {H : Hp} {d : Addr} {gs : List (Int × Int)} {g : Int × Int} (h : H d = some (.dK (pks gs))) (f : Fit gs) (m : g ∈ gs) : DGet H d (.int g.1) (some (.int g.2)) := by
  have q := DGet.k (k := Sum.inl g.1) h
  rw [pks_some f.nd m] at q
  exact q
theorem log_lt {m : Int} {k : Nat} (h0 : 0 < m) (h : m < 2 ^ k) : m.natAbs.log2 < k := by
  obtain ⟨j, rfl⟩ : ∃ j : Nat, m = j := ⟨m.toNat, by omega⟩
  have h' : j < 2 ^ k := by exact_mod_cast h
  rw [Int.natAbs_natCast]
  exact (Nat.log2_lt (by omega)).mpr h'
theorem GsAt.mix {H : Hp} {B B' : Addr → Prop} {a m : Addr} {ts : List Addr} {gs : List (Int × Int)} {ys : List V} (h : GsAt H B a ts gs) (e : H m = some (.lst ys)) (bm : B' m) (hb : ∀ b, B b → B' b) (p : ys.Perm (ts.map V.ref)) :
    ∃ ts' gs', GsAt H B' m ts' gs' ∧ gs'.Perm gs := by
  have hm : ∀ y ∈ ys, ∃ t, y = V.ref t ∧ t ∈ ts := fun y hy => by
    obtain ⟨t, ht, rfl⟩ := List.mem_map.mp (p.mem_iff.mp hy)
    exact ⟨t, rfl, ht⟩
  obtain ⟨us, rfl, hu⟩ : ∃ us : List Addr, ys = us.map V.ref ∧ ∀ u ∈ us, u ∈ ts := by
    clear p e
    induction ys with
    | nil => exact ⟨[], rfl, fun u hu => absurd hu (by simp)⟩
    | cons y ys ih =>
      obtain ⟨t, rfl, ht⟩ := hm y List.mem_cons_self
      obtain ⟨us, rfl, hu⟩ := ih fun z hz => hm z (List.mem_cons_of_mem _ hz)
      exact ⟨t :: us, rfl, fun u h => by
        rcases List.mem_cons.mp h with rfl | h
        · exact ht
        · exact hu u h⟩
  refine ⟨us, (us.map V.ref).map (prOf H), ⟨e, bm, by rw [List.length_map, List.length_map], fun i t g e1 e2 => ?_, fun t ht => hb t (h.b t (hu t ht))⟩, ?_⟩
  · rw [List.getElem?_map, List.getElem?_map, e1] at e2
    have e2' : prOf H (.ref t) = g := Option.some.inj e2
    obtain ⟨j, ej⟩ := List.mem_iff_getElem?.mp (hu t (List.mem_of_getElem? e1))
    obtain ⟨t', g', e3, eg, et⟩ := h.get (i := j) (x := .ref t) (by rw [List.getElem?_map, ej]; rfl)
    injection e3 with e3
    subst e3
    rw [prOf_is et] at e2'
    rw [← e2']
    exact et
  · have := p.map (prOf H)
    rw [h.prs] at this
    exact this
/-- put in anywhere -/
theorem GsAt.ins {H : Hp} {B : Addr → Prop} {a : Addr} {ts : List Addr} {gs : List (Int × Int)} {ys : List V} (h : GsAt H B a ts gs) (hn : a ∉ ts) {q : Addr} {g : Int × Int} (e : H q = some (.tup [.int g.1, .int g.2])) (bq : B q) (p : ys.Perm (ts.map V.ref ++ [.ref q])) :
    ∃ ts' gs', GsAt (upd H a (.lst ys)) B a ts' gs' ∧ gs'.Perm (gs ++ [g]) ∧ a ∉ ts' ∧ ys = ts'.map V.ref := by
  have nq : q ≠ a := fun z => by
    rw [z, h.top] at e
    cases e
  have hm : ∀ y ∈ ys, ∃ t, y = V.ref t ∧ t ∈ ts ++ [q] := fun y hy => by
    rcases List.mem_append.mp (p.mem_iff.mp hy) with m | m
    · obtain ⟨t, ht, rfl⟩ := List.mem_map.mp m
      exact ⟨t, rfl, List.mem_append_left _ ht⟩
    · exact ⟨q, List.mem_singleton.mp m, List.mem_append_right _ (List.mem_singleton.mpr rfl)⟩
  obtain ⟨us, rfl, hu⟩ : ∃ us : List Addr, ys = us.map V.ref ∧ ∀ u ∈ us, u ∈ ts ++ [q] := by
    clear p
    induction ys with
    | nil => exact ⟨[], rfl, fun u hu => absurd hu (by simp)⟩
    | cons y ys ih =>
      obtain ⟨t, rfl, ht⟩ := hm y List.mem_cons_self
      obtain ⟨us, rfl, hu⟩ := ih fun z hz => hm z (List.mem_cons_of_mem _ hz)
      exact ⟨t :: us, rfl, fun u h => by
        rcases List.mem_cons.mp h with rfl | h
        · exact ht
        · exact hu u h⟩
  have ha : ∀ u ∈ us, u ≠ a ∧ B u ∧ ∃ x : Int × Int, H u = some (.tup [.int x.1, .int x.2]) := fun u m => by
    rcases List.mem_append.mp (hu u m) with m | m
    · obtain ⟨j, ej⟩ := List.mem_iff_getElem?.mp m
      obtain ⟨t', g', e3, eg, et⟩ := h.get (i := j) (x := .ref u) (by rw [List.getElem?_map, ej]; rfl)
      injection e3 with e3
      subst e3
      exact ⟨fun z => hn (z ▸ m), h.b u m, g', et⟩
    · rw [List.mem_singleton.mp m]
      exact ⟨nq, bq, g, e⟩
  refine ⟨us, (us.map V.ref).map (prOf H), ⟨upd_same, h.ba, by rw [List.length_map, List.length_map], fun i t x e1 e2 => ?_, fun t m => (ha t m).2.1⟩, ?_, fun m => (ha a m).1 rfl, rfl⟩
  · rw [List.getElem?_map, List.getElem?_map, e1] at e2
    have e2' : prOf H (.ref t) = x := Option.some.inj e2
    obtain ⟨n1, _, y, ey⟩ := ha t (List.mem_of_getElem? e1)
    rw [prOf_is ey] at e2'
    subst e2'
    rw [upd_ne n1]
    exact ey
  · have := p.map (prOf H)
    rw [List.map_append, h.prs] at this
    rw [show [V.ref q].map (prOf H) = [g] by show [prOf H (.ref q)] = [g]; rw [prOf_is e]] at this
    exact this
theorem GsAt.cat {H : Hp} {B : Addr → Prop} {a l : Addr} {ts : List Addr} {gs : List (Int × Int)} (h : GsAt H B a ts gs) {q : Addr} {g : Int × Int} (e : H q = some (.tup [.int g.1, .int g.2])) (el : H l = some (.lst (ts.map V.ref ++ [.ref q]))) :
    GsAt H (fun _ => True) l (ts ++ [q]) (gs ++ [g]) := by
  refine ⟨by rw [List.map_append]; exact el, trivial, by rw [List.length_append, List.length_append, h.len]; rfl, fun i t x e1 e2 => ?_, fun _ _ => trivial⟩
  by_cases hi : i < ts.length
  · rw [List.getElem?_append_left hi] at e1
    rw [List.getElem?_append_left (by rw [← h.len]; exact hi)] at e2
    exact h.at' i t x e1 e2
  · have hi' : i = ts.length := by
      have := at_lt e1
      rw [List.length_append, List.length_singleton] at this
      omega
    subst hi'
    rw [List.getElem?_append_right (Nat.le_refl _), Nat.sub_self] at e1
    rw [h.len, List.getElem?_append_right (Nat.le_refl _), Nat.sub_self] at e2
    obtain rfl : q = t := Option.some.inj e1
    obtain rfl : g = x := Option.some.inj e2
    exact e
theorem inV_ints (x : Int) (ns : List Int) : inV (.int x) (ns.map V.int) = decide (x ∈ ns) := by
  unfold inV
  rw [List.any_map]
  induction ns with
  | nil => rfl
  | cons n ns ih =>
    rw [List.any_cons, ih]
    have e : ((fun y => eqV y (V.int x)) ∘ V.int) n = decide (x = n) := by
      show eqV (.int n) (.int x) = decide (x = n)
      have e2 : eqV (.int n) (.int x) = decide (n = x) := by
        unfold eqV
        first | rfl | simp
      rw [e2]
      by_cases h : n = x
      · subst h; simp
      · rw [decide_eq_false h, decide_eq_false (fun z => h z.symm)]
    rw [e]
    by_cases h : x = n
    · subst h
      simp
    · rw [decide_eq_false h, Bool.false_or]
      by_cases h2 : x ∈ ns
      · rw [decide_eq_true h2, decide_eq_true (List.mem_cons_of_mem _ h2)]
      · rw [decide_eq_false h2, decide_eq_false (fun z => (List.mem_cons.mp z).elim h h2)]
theorem flat_ints (ns : List Int) : (ns.map V.int).all flatV = true := by
  rw [List.all_map, List.all_eq_true]
  intro x _
  rfl
theorem eqvAll_ints : ∀ a b : List Int, PyData.eqvAll (a.map .int) (b.map .int) = decide (a = b)
  | [], [] => rfl
  | [], y :: b => by
    rw [decide_eq_false (by simp)]
    rfl
  | x :: a, [] => by
    rw [decide_eq_false (by simp)]
    rfl
  | x :: a, y :: b => by
    rw [List.map_cons, List.map_cons, PyData.eqvAll, eqvAll_ints a b]
    show ((x == y) && decide (a = b)) = _
    by_cases h : x = y
    · subst h
      by_cases h2 : a = b
      · subst h2
        simp
      · rw [decide_eq_false h2, decide_eq_false (fun z => h2 (List.cons.inj z).2)]
        simp
    · have : (x == y) = false := by simpa using h
      rw [this, decide_eq_false (fun z => h (List.cons.inj z).1)]
      rfl
theorem eqv_ints (a b : List Int) : PyData.eqv (dInts a) (dInts b) = decide (a = b) := by
  unfold dInts
  rw [PyData.eqv]
  exact eqvAll_ints a b
theorem cut_at (xs : List V) (k : Nat) : cutV xs (some (k : Int)) (some ((k : Int) + 1)) = (xs.drop k).take 1 := by
  unfold cutV
  rw [HT.sIx_nat, show (k : Int) + 1 = ((k + 1 : Nat) : Int) by omega, HT.sIx_nat]
  by_cases h : k < xs.length
  · rw [Nat.min_eq_left (by omega), Nat.min_eq_left (by omega), Nat.add_sub_cancel_left]
  · have h1 : min k xs.length = xs.length := by omega
    have h2 : min (k + 1) xs.length = xs.length := by omega
    rw [h1, h2, Nat.sub_self, List.take_zero, List.drop_of_length_le (show xs.length ≤ k by omega)]
    rfl
theorem drop_take1 (L : List Int) (k : Nat) : (L.drop k).take 1 = L[k]?.toList := by
  by_cases h : k < L.length
  · rw [List.getElem?_eq_getElem h, List.drop_eq_getElem_cons h]
    rfl
  · rw [List.getElem?_eq_none (by omega), List.drop_of_length_le (by omega)]
    rfl
end El
namespace El
open PySem PySem.Spec PyProof.Rows L2
section
variable {X : Cx}
/-- the walk over a list -/
theorem gathers_list {pins : List (Addr × Obj)} {σ : L2.St} {H : Hp} {s : Shared} {a : Addr} {xs : List V} (I : Inv X pins σ H s) (h : SqL X.K H a xs) : xs.length ≤ sizeLine ∧ Gathers X s (.ref a) xs := by
  have ⟨us, r, ⟨o, n, at_a, is_list, _, data⟩, few⟩ := I.list h
  refine ⟨few, fun R go => wpAny_collect_seq a (.inl rfl) at_a is_list data (fun h' grown => ?_) ?_⟩
  · rw [List.toList_toArray]
    exact go us h' s.toks r grown
  · rw [List.size_toArray]
    exact r.length ▸ few
/-- a value that is an object's name, seen as ours -/
def asOurs : Value → V
  | .ref a => .ref a
  | _ => .non
/-- sorted(xs, reverse=b) of a list of pairs of ints -/
def rSortedPK (K : PySem.W.Frag) (b : Bool) : List V → List V → Hp → VK → Prop := fun vs zs H Q => ∃ (a : Addr) (xs : List V) (k : V → Int × Int), vs = [V.ref a] ∧ zs = [.bl b] ∧ SqL K H a xs ∧ (∀ x ∈ xs, ∃ t, x = V.ref t ∧ H t = some (.tup [.int (k x).1, .int (k x).2])) ∧
  ∀ ys p, SrtO.Srtd (ltP k) ys → ys.Perm xs → H p = none → Q (.ref p) (upd H p (.lst (if b = true then ys.reverse else ys)))
theorem cr_sortedPK {b : Bool} (_ : X.calm = true) : CallRK X (.builtin "sorted") [Str.ofString "reverse"] (rSortedPK X.K b) := by
  rintro pins s σ H _ _ us ws Q I one by_kw ⟨a, xs, k, rfl, rfl, here, pairs, q⟩
  obtain ⟨v, w, rfl, rfl, rfl, rfl⟩ : ∃ v w, us = [v] ∧ ws = [w] ∧ v = .ref a ∧ w = .bool b := by
    cases one with | cons e1 t1 => cases t1; cases by_kw with | cons e2 t2 => cases t2; exact ⟨_, _, rfl, rfl, e1, e2⟩
  have ⟨few, walk⟩ := gathers_list I here
  have known : ∀ {x : V} {u : Value}, x ∈ xs → RelV x u → asOurs u = x := fun {x u} m e => by
    have ⟨t, ex, _⟩ := pairs x m
    subst ex
    exact congrArg asOurs e
  refine sorted_gathered I few walk (SrtO.swo_lex fun u => k (asOurs u)) (fun us s' l two r J free => ?_) fun P l hP perm up free => ?_
  · refine SrtO.pairs_sortableO (k := fun u => k (asOurs u)) (Nat.lt_of_lt_of_le Nat.two_pos two) (fun u m => ?_) fun o at_l => ?_
    · obtain ⟨P, hP, rfl, rfl⟩ := partners_of r
      have ⟨⟨x, u⟩, mp, eu⟩ := List.mem_map.mp m
      subst eu
      have mx := List.mem_map_of_mem (f := Prod.fst) mp
      have ⟨t, ex, ht⟩ := pairs x mx
      have apart : t ≠ l := fun e => by rw [e, free] at ht; cases ht
      have ⟨_, vs, rv, o, at_t, is_tup, n, data⟩ := J.hok t _ ((upd_ne apart).trans ht)
      rw [known mx (hP _ mp)]
      cases rv with | cons e1 rv => cases rv with | cons e2 rv => cases rv; exact e1.elim fun t1 e1 => e2.elim fun t2 e2 => ⟨t, o, t1, t2, n, by have := hP _ mp; rw [show (x, u).1 = V.ref t from ex] at this; exact this, at_t, is_tup, by rw [data, e1, e2]⟩
    · have ⟨_, vs, e, _, there⟩ := J.hok l _ upd_same
      rw [there] at at_l
      cases at_l
      have differ : Value.type "list" ≠ Value.type "tuple" := by decide
      exact differ
  · have sorts : SrtO.Srtd (ltP k) (P.map Prod.fst) := by
      rw [SrtO.Srtd, List.pairwise_map] at up ⊢
      refine up.imp_of_mem fun {p p'} m m' h => ?_
      have on := fun {p : V × Value} (m : p ∈ P) => known (perm.mem_iff.mp (List.mem_map_of_mem (f := Prod.fst) m)) (hP p m)
      rw [on m, on m'] at h
      exact h
    exact q _ l sorts perm free
/-- sorted by age and patience, turned round: from the eldest on -/
theorem sorted_down {k : V → Int × Int} {ys xs : List V} {gs : List (Int × Int)} (f : Fit gs) (hx : xs.map k = gs) (hs : SrtO.Srtd (ltP k) ys) (hb : ys.Perm xs) : ys.reverse.map k = byAge gs := by
  refine byAge_of f ?_ ?_
  · rw [← hx]
    exact ((List.reverse_perm ys).trans hb).map k
  · rw [List.map_reverse, List.pairwise_reverse, List.pairwise_map]
    refine hs.imp fun {a b} h => ?_
    have h' : SrtO.lexB (k b) (k a) = false := h
    rw [SrtO.lexB_no] at h'
    omega
end
end El
namespace El
open PySem PySem.Spec PyProof.Rows L2
section
variable {X : Cx}
/-- len of a set of ints -/
theorem call_lenSI : CallR X (.builtin "len") (fun xs H Q => ∃ (a : Addr) (S : Int → Bool) (n : Nat), xs = [V.ref a] ∧ H a = some (SetO X.w a S n) ∧ n ≤ 100000 ∧ Q (.int n) H) := by
  intro pins s σ H xs us Q I r h
  obtain ⟨a, S, n, rfl, ha, hn, q⟩ := h
  rw [Vals.ref1 r]
  obtain ⟨o, es, ep, t, ho, hex, hd, _, _, _, hf, he⟩ := (setO_get I ha).setOf (P := X.prog)
  refine call_len_set ho hex hd hf (by rw [he]; exact Int.lt_of_le_of_lt (show (n : Int) ≤ 100000 by omega) (by decide)) ⟨.int n, H, I.tok _, ⟨_, by rw [he]⟩, q⟩
end
theorem piListK {X : Cx} {tg l : Expr} {tl : TE} (K : PySem.W.Frag) (hl : PE X l tl) (e : X.K = K := by rfl) : PI X tg l (iList K tl) := by
  subst e
  exact pi_list hl
/-- the outer walk of a comprehension with two fors, and the inner one -/
theorem out_it {J : It} {n : Nat} {G : Hp → Prop} {Y : Nat → Hp → V → Hp → Prop} (w : Walk J n G Y) {Qd : Hp → Prop} {H0 : Hp} {bd : (Hp → Prop) → V → Hp → Prop} (Pv : Nat → Hp → Prop) (h0 : Pv 0 H0) (hG : ∀ i H, i ≤ n → Pv i H → G H)
    (hs : ∀ i x H H', i < n → Pv i H → Y i H x H' → bd (Pv (i + 1)) x H') (hd : ∀ H, Pv n H → Qd H) :
    ∃ W : Nat → Nat → Hp → Prop, (∃ m, W 0 m H0) ∧ ∀ i m H, W i m H → (J.stop i H ∧ Qd H) ∨ (J.go i H ∧ ∃ Nx : Hp → Prop, (∀ H', Nx H' → ∃ m', m' < m ∧ W (i + 1) m' H') ∧ ∀ x H', J.yld i H x H' → bd Nx x H') := by
  refine ⟨fun i m H => m = n - i ∧ i ≤ n ∧ Pv i H, ⟨n, by simp, Nat.zero_le _, h0⟩, ?_⟩
  rintro i m H ⟨rfl, hi, p⟩
  have q := hG i H hi p
  by_cases hlt : i < n
  · exact .inr ⟨w.goes i H hlt q, Pv (i + 1), fun H' p' => ⟨n - (i + 1), by omega, rfl, hlt, p'⟩, fun x H' y => hs i x H H' hlt p (w.yields i H x H' hlt q y)⟩
  · have e : i = n := by omega
    subst e
    exact .inl ⟨w.stops H q, hd H p⟩
theorem cut_from (xs : List V) (j : Nat) : cutV xs (some (j : Int)) none = xs.drop j := by
  unfold cutV
  rw [HT.sIx_none, HT.sIx_nat]
  show (List.drop (min j xs.length) xs).take (xs.length - min j xs.length) = _
  by_cases h : j ≤ xs.length
  · rw [Nat.min_eq_left h, List.take_of_length_le (by rw [List.length_drop]; omega)]
  · rw [Nat.min_eq_right (by omega), List.drop_of_length_le (Nat.le_refl _), List.drop_of_length_le (show xs.length ≤ j by omega), List.take_nil]
/-- a list of lists of ints, read alone -/
structure RdAt (H : Hp) (o : Addr) (ts : List Addr) (rs : List (List Int)) : Prop where
  top : H o = some (.lst (ts.map V.ref))
  len : ts.length = rs.length
  at' : ∀ (i : Nat) (t : Addr) (r : List Int), ts[i]? = some t → rs[i]? = some r → H t = some (.lst (r.map V.int))
theorem RdAt.same {H H' : Hp} {a : Addr} {ts : List Addr} {rs : List (List Int)} (h : RdAt H a ts rs) (k : Same H H') : RdAt H' a ts rs :=
  ⟨k _ _ h.top, h.len, fun i t g e f => k _ _ (h.at' i t g e f)⟩
theorem RdAt.seq {K : PySem.W.Frag} {H : Hp} {a : Addr} {ts : List Addr} {rs : List (List Int)} (h : RdAt H a ts rs) : SqL K H a (ts.map V.ref) := SqL.of h.top
theorem RmsAt.rd {H : Hp} {B : Addr → Prop} {a : Addr} {ts : List Addr} {rs : List (List Int)} (h : RmsAt H B a ts rs) : RdAt H a ts rs := ⟨h.top, h.len, h.at'⟩
theorem RdAt.get {H : Hp} {a : Addr} {ts : List Addr} {rs : List (List Int)} (h : RdAt H a ts rs) {i : Nat} {x : V} (e : (ts.map V.ref)[i]? = some x) : ∃ t r, x = .ref t ∧ ts[i]? = some t ∧ rs[i]? = some r ∧ H t = some (.lst (r.map V.int)) := by
  obtain ⟨t, e1, rfl⟩ := refs_at e
  have hi := at_lt e1
  rw [h.len] at hi
  obtain ⟨g, e2⟩ := at_some hi
  exact ⟨t, g, rfl, e1, e2, h.at' i t g e1 e2⟩
theorem pks_get {gs : List (Int × Int)} (nd : (gs.map (·.1)).Nodup) {a : Int} (m : a ∈ gs.map (·.1)) : valV (pks gs) (Sum.inl a) = some (.int (pof gs a)) := by
  obtain ⟨g, hg, rfl⟩ := List.mem_map.mp m
  rw [pks_some nd hg, pof_is nd hg]
theorem dget_pof {H : Hp} {d : Addr} {gs : List (Int × Int)} (h : H d = some (.dK (pks gs))) (nd : (gs.map (·.1)).Nodup) {a : Int} (m : a ∈ gs.map (·.1)) : DGet H d (.int a) (some (.int (pof gs a))) := by
  have z := DGet.k (k := Sum.inl a) h
  rw [pks_get nd m] at z
  exact z
theorem take_snoc_flat {rs : List (List Int)} {i : Nat} {r : List Int} (e : rs[i]? = some r) : (rs.take (i + 1)).flatten = (rs.take i).flatten ++ r := by
  rw [take_snoc e, List.flatten_append, List.flatten_cons, List.flatten_nil, List.append_nil]
theorem flat_split {rs : List (List Int)} {i j : Nat} {r : List Int} {a : Int} (nd : rs.flatten.Nodup) (e : rs[i]? = some r) (e2 : r[j]? = some a) : a ∉ (rs.take i).flatten ++ r.take j := by
  have h1 : rs.flatten = (rs.take i).flatten ++ (r ++ (rs.drop (i + 1)).flatten) := by
    have hi := at_lt e
    have h2 : rs = rs.take i ++ r :: rs.drop (i + 1) := by
      have := List.getElem_cons_drop (as := rs) (i := i) hi
      rw [List.getElem?_eq_getElem hi] at e
      rw [Option.some.inj e] at this
      rw [this, List.take_append_drop]
    rw [congrArg List.flatten h2, List.flatten_append, List.flatten_cons]
  have h3 : r = r.take j ++ a :: r.drop (j + 1) := by
    have hj := at_lt e2
    have := List.getElem_cons_drop (as := r) (i := j) hj
    rw [List.getElem?_eq_getElem hj] at e2
    rw [Option.some.inj e2] at this
    rw [this, List.take_append_drop]
  rw [h1] at nd
  generalize (rs.take i).flatten = x at nd ⊢
  generalize (rs.drop (i + 1)).flatten = y at nd
  rw [h3] at nd
  obtain ⟨_, n2, n3⟩ := List.nodup_append.mp nd
  intro m
  rcases List.mem_append.mp m with m | m
  · exact n3 a m a (List.mem_append_left _ (List.mem_append_right _ List.mem_cons_self)) rfl
  · obtain ⟨n4, _, _⟩ := List.nodup_append.mp n2
    obtain ⟨_, _, n7⟩ := List.nodup_append.mp n4
    exact n7 a m a List.mem_cons_self rfl
theorem flat_mem {rs : List (List Int)} {i j : Nat} {r : List Int} {a : Int} (e : rs[i]? = some r) (e2 : r[j]? = some a) : a ∈ rs.flatten :=
  List.mem_flatten.mpr ⟨r, List.mem_of_getElem? e, List.mem_of_getElem? e2⟩
end El
namespace El
open PySem PySem.Spec PyProof.Rows L2
section
variable {X : Cx}
theorem ptTruthK {a : Expr} {ta : TE} (K : PySem.W.Frag) (ha : PE X a ta) (he : ∀ whole, isTrue a X.env whole = (do let v ← whole; standAt a.pos; holding [v] (truthy v))) (e : X.K = K := by rfl) :
    PT X a (tTru K ta) := by
  subst e
  exact pt_truth ha he
/-! ### xs[::s], s 1 or -1 -/
def tStepL (K : PySem.W.Frag) (te ts : TE) : TE := fun σ H Q => te σ H fun x H1 => ts σ H1 fun y H2 => ∃ c, y = .int c ∧ ∃ a xs, x = .ref a ∧ (c = 1 ∨ c = -1) ∧ SqL K H2 a xs ∧ ∀ p, H2 p = none → Q (.ref p) (upd H2 p (.lst (if c = 1 then xs else xs.reverse)))
/-- what such a cut picks -/
theorem pick_way (us : List Value) {c : Int} (h : c = 1 ∨ c = -1) : slicePick us.toArray none none (some c) = (if c = 1 then us else us.reverse).toArray := by
  rcases h with rfl | rfl
  · show slicePick us.toArray none none none = _
    rw [slicePick_cut, HT.sIx_none, HT.sIx_none, List.drop_zero, Nat.sub_zero, List.take_length]
    rfl
  · exact PySem.W.krv_pick us.toArray
/-- a cut lies there that names its step alone -/
def StepAt (s : Shared) (i : Value) (c : Int) : Prop := ∃ p u, i = .ref p ∧ s.heap.IsSliceOf p .none .none (.int c u)
theorem step_made {st : Expr} {ts : TE} {p : Pos} {pins : List (Addr × Obj)} {σ : L2.St} {H : Hp} {s : Shared} {R : Value → Shared → Prop} {D : Int → Hp → Prop} (hs : PE X st ts) (I : Inv X pins σ H s)
    (h : ts σ H fun y H' => ∃ c, y = .int c ∧ D c H') (go : ∀ c H' i s', Inv X pins σ H' s' → StepAt s' i c → D c H' → R i s') : wpAny (model X.prog X.w) X.A (eval (.Slice none none (some st) p) X.env) R X.xe s := by
  refine wpAny_Slice (wpAny_pure (wpAny_pure (thn (hs.run pins s σ H _ I h) ?_)))
  rintro _ s' ⟨_, H', J, e, c, rfl, d⟩
  obtain ⟨u, rfl⟩ : ∃ u, _ = Value.int c u := e
  exact go c H' _ _ (J.kept (t' := s'.toks) fun _ _ => Heap.get?_push_of_some _) ⟨_, u, rfl, .new ..⟩ d
theorem list_cut {pins : List (Addr × Obj)} {σ : L2.St} {H : Hp} {s : Shared} {Q : VK} {a : Addr} {xs : List V} {i : Value} {c : Int} (I : Inv X pins σ H s) (here : SqL X.K H a xs) (cut : StepAt s i c) (h : c = 1 ∨ c = -1)
    (q : ∀ p, H p = none → Q (.ref p) (upd H p (.lst (if c = 1 then xs else xs.reverse)))) : wpAny (model X.prog X.w) X.A (getItem (.ref a) i) (EP X pins σ Q) X.xe s := by
  have ⟨us, r, at_a, few⟩ := I.list here
  have ⟨_, _, e, at_i⟩ := cut
  subst e
  have fits : us.toArray.size ≤ sizeLine := Nat.le_trans (Nat.le_of_eq (us.size_toArray.trans r.length.symm)) few
  have turned : Vals (if c = 1 then xs else xs.reverse) (if c = 1 then us else us.reverse) := by
    split
    · exact r
    · exact r.reverse
  have same : (if c = 1 then xs else xs.reverse).length = xs.length := by
    split
    · rfl
    · exact xs.length_reverse
  refine wpAny_getItem_list_slice at_a.isList at_i .none .none (.int c _) (fun z => by rcases h with rfl | rfl <;> cases z) ?_ fits
  rw [pick_way us h]
  have J := I.laid (a := s.heap.objs.size) (o := .lst (if c = 1 then xs else xs.reverse)) (t' := s.toks) (fun _ _ => Heap.get?_push_of_some _) (Nat.le_refl _) ⟨same ▸ few, _, 0, turned, Heap.get?_push_size _ rfl⟩
  exact ⟨.ref _, _, J, rfl, q _ (I.hok.fresh (Nat.le_refl _))⟩
theorem pe_stepL {e st : Expr} {te ts : TE} {p3 pos : Pos} (he : PE X e te) (hs : PE X st ts) : PE X (.Subscript e (.Slice none none (some st) p3) pos) (tStepL X.K te ts) where
  run pins s σ H Q I h := by
    refine Subscript_ (thn (he.run pins s σ H _ I h) ?_)
    rintro v s1 ⟨x, H1, J1, r, more⟩
    refine step_made hs J1 more ?_
    rintro c H2 i s2 J2 cut ⟨a, xs, rfl, way, here, q⟩
    cases r
    have ⟨_, _, at_a, _⟩ := J2.list here
    exact tail_any (ops := [.ref a, i]) at_a.isList.typeIs PySem.slot_list_getitem.lookup (list_cut J2 here cut way q) (by have ⟨_, _, e, _⟩ := cut; subst e; with_unfolding_all rfl)
end
theorem mergeK_pks {gs : List (Int × Int)} (nd : (gs.map (·.1)).Nodup) : mergeK [] (pks gs) = pks gs := by
  suffices h : ∀ (n : Nat), n ≤ gs.length → mergeK [] (pks (gs.take n)) = pks (gs.take n) by
    have := h gs.length (Nat.le_refl _)
    rw [take_full] at this
    exact this
  intro n
  induction n with
  | zero =>
    intro _
    rw [List.take_zero]
    rfl
  | succ n ih =>
    intro hn
    obtain ⟨g, eg⟩ := at_some hn
    have ht : (gs.take n).map (·.1) = (gs.map (·.1)).take n := List.map_take
    have no : g.1 ∉ (gs.take n).map (·.1) := fun m => by
      rw [ht] at m
      have e : (gs.map (·.1))[n]? = some g.1 := by rw [List.getElem?_map, eg]; rfl
      obtain ⟨i, hi⟩ := List.mem_iff_getElem?.mp m
      rw [List.getElem?_take] at hi
      split at hi
      · have := nd_ix nd hi e
        omega
      · cases hi
    rw [take_snoc eg]
    unfold mergeK at ih ⊢
    rw [pks_snoc, List.foldl_append, ih (by omega)]
    show putK (pks (gs.take n)) (Sum.inl g.1) (V.int g.2) = _
    rw [putK_snoc no, pks_snoc]
theorem GsAt.paired {K : PySem.W.Frag} {H : Hp} {B : Addr → Prop} {a : Addr} {ts : List Addr} {gs : List (Int × Int)} (h : GsAt H B a ts gs) : Paired (fun p kv => SqT K H p [kV kv.1, kv.2]) ts (pks gs) := by
  have hl := h.len
  have ha := h.at'
  clear h
  induction ts generalizing gs with
  | nil =>
    cases gs with
    | nil => exact .nil
    | cons g gs => simp at hl
  | cons t ts ih =>
    cases gs with
    | nil => simp at hl
    | cons g gs =>
      refine .cons (SqT.of (ha 0 t g rfl rfl)) (ih (gs := gs) (by simpa using hl) fun i t' g' e1 e2 => ha (i + 1) t' g' (by simpa using e1) (by simpa using e2))
theorem RdAt.of {H : Hp} {a : Addr} {ts : List Addr} {rs : List (List Int)} (h : RdAt H a ts rs) {i : Nat} {r : List Int} (e : rs[i]? = some r) : ∃ t, ts[i]? = some t ∧ H t = some (.lst (r.map V.int)) := by
  have hi := at_lt e
  rw [← h.len] at hi
  obtain ⟨t, e2⟩ := at_some hi
  exact ⟨t, e2, h.at' i t r e2 e⟩
theorem flat_in {rs : List (List Int)} {r : List Int} (m : r ∈ rs) : r.length ≤ rs.flatten.length := room_le_flat rs r m
theorem full_snoc {rs : List (List Int)} {i : Nat} {r : List Int} (e : rs[i]? = some r) : lensD (rs.take (i + 1)) = if r = [] then lensD (rs.take i) else lensD (rs.take i) ++ [(r.length : Int)] := by
  unfold lensD full
  rw [take_snoc e, List.filter_append]
  cases r with
  | nil => rw [List.filter_cons_of_neg (by simp), List.filter_nil, List.append_nil, if_pos rfl]
  | cons x r => rw [List.filter_cons_of_pos (by simp), List.filter_nil, List.map_append, if_neg (by simp)]; rfl
theorem lensD_len (rs : List (List Int)) : (lensD rs).length ≤ rs.length := by
  unfold lensD full
  rw [List.length_map]
  exact List.length_filter_le _ _
end El
namespace El
open PySem PySem.Spec PyProof.Rows L2
theorem map_erase {α β : Type} (f : α → β) : ∀ (l : List α) (k : Nat), (l.map f).eraseIdx k = (l.eraseIdx k).map f
  | [], _ => rfl
  | a :: l, 0 => rfl
  | a :: l, k + 1 => by
    show f a :: (l.map f).eraseIdx k = f a :: (l.eraseIdx k).map f
    rw [map_erase f l k]
theorem RdAt.keepOn {H H' : Hp} {a : Addr} {ts : List Addr} {rs : List (List Int)} (h : RdAt H a ts rs) (k : ∀ b u, (b = a ∨ b ∈ ts) → H b = some u → H' b = some u) : RdAt H' a ts rs :=
  ⟨k _ _ (.inl rfl) h.top, h.len, fun i t r e f => k _ _ (.inr (List.mem_of_getElem? e)) (h.at' i t r e f)⟩
theorem RdAt.pop {H : Hp} {o : Addr} {ts : List Addr} {rs : List (List Int)} (h : RdAt H o ts rs) (hn : o ∉ ts) (k : Nat) : RdAt (upd H o (.lst ((ts.map V.ref).eraseIdx k))) o (ts.eraseIdx k) (rs.eraseIdx k) := by
  refine ⟨by rw [upd_same, map_erase], ?_, fun i t r e1 e2 => ?_⟩
  · rw [List.length_eraseIdx, List.length_eraseIdx, h.len]
  · have nt : t ≠ o := fun z => hn (z ▸ List.mem_of_mem_eraseIdx (List.mem_of_getElem? e1))
    rw [upd_ne nt]
    rw [List.getElem?_eraseIdx] at e1 e2
    split at e1
    · rename_i hi
      rw [if_pos hi] at e2
      exact h.at' _ _ _ e1 e2
    · rename_i hi
      rw [if_neg hi] at e2
      exact h.at' _ _ _ e1 e2
theorem RdAt.cat {H : Hp} {o1 o2 c : Addr} {ts1 ts2 : List Addr} {rs1 rs2 : List (List Int)} (h1 : RdAt H o1 ts1 rs1) (h2 : RdAt H o2 ts2 rs2) (hc : H c = none) :
    RdAt (upd H c (.lst (ts1.map V.ref ++ ts2.map V.ref))) c (ts1 ++ ts2) (rs1 ++ rs2) := by
  refine ⟨by rw [upd_same, List.map_append], by rw [List.length_append, List.length_append, h1.len, h2.len], fun i t r e1 e2 => ?_⟩
  by_cases hi : i < ts1.length
  · rw [List.getElem?_append_left hi] at e1
    rw [List.getElem?_append_left (by rw [← h1.len]; exact hi)] at e2
    exact same_new hc _ _ (h1.at' i t r e1 e2)
  · rw [List.getElem?_append_right (by omega)] at e1
    rw [List.getElem?_append_right (by rw [← h1.len]; omega), ← h1.len] at e2
    exact same_new hc _ _ (h2.at' _ t r e1 e2)
theorem RdAt.there {H : Hp} {o : Addr} {ts : List Addr} {rs : List (List Int)} (h : RdAt H o ts rs) : ∀ t ∈ ts, ∃ x, H t = some x := fun t m => by
  obtain ⟨i, e⟩ := List.mem_iff_getElem?.mp m
  have hl := at_lt e
  rw [h.len] at hl
  obtain ⟨r, er⟩ := at_some hl
  exact ⟨_, h.at' i t r e er⟩
theorem flat_snoc (rs : List (List Int)) (r : List Int) : (rs ++ [r]).flatten = rs.flatten ++ r := by
  rw [List.flatten_append, List.flatten_cons, List.flatten_nil, List.append_nil]
theorem flat_erase {rs : List (List Int)} {k : Nat} {r : List Int} (e : rs[k]? = some r) : (r ++ (rs.eraseIdx k).flatten).Perm rs.flatten := (erase_perm e).flatten
theorem flat_nils (n : Nat) : (List.replicate n ([] : List Int)).flatten = [] := by
  induction n with
  | zero => rfl
  | succ n ih => rw [List.replicate_succ, List.flatten_cons, ih]; rfl
end El
namespace El
theorem flat_set : ∀ {rs : List (List Int)} {i : Nat} {r : List Int} (a : Int), rs[i]? = some r → (rs.set i (r ++ [a])).flatten.Perm (a :: rs.flatten)
  | [], _, _, _, e => by simp at e
  | s :: rs, 0, r, a, e => by
    obtain rfl : s = r := Option.some.inj e
    show ((s ++ [a]) :: rs).flatten.Perm _
    rw [List.flatten_cons, List.flatten_cons, List.append_assoc]
    exact List.perm_middle
  | s :: rs, i + 1, r, a, e => by
    show (s :: rs.set i (r ++ [a])).flatten.Perm _
    rw [List.flatten_cons, List.flatten_cons]
    exact ((flat_set a (by simpa using e)).append_left s).trans List.perm_middle
/-- the k-th one fuller, as its parts -/
theorem parts_set {α : Type} {rs : List α} {k : Nat} {r x : α} (e : rs[k]? = some r) : rs.take k ++ [x] ++ rs.drop (k + 1) = rs.set k x := by
  have hk := (List.getElem?_eq_some_iff.mp e).1
  rw [List.set_eq_take_append_cons_drop, if_pos hk, List.append_assoc]
  rfl
def fct : Nat → Nat
  | 0 => 1
  | n + 1 => fct n * (n + 1)
theorem fct_le : ∀ {i : Nat}, i ≤ 6 → fct i ≤ 720
  | 0, _ => by decide
  | 1, _ => by decide
  | 2, _ => by decide
  | 3, _ => by decide
  | 4, _ => by decide
  | 5, _ => by decide
  | 6, _ => by decide
  | n + 7, h => absurd h (by omega)
end El
namespace El
theorem flat_pop : ∀ {rs : List (List Int)} {i k : Nat} {r : List Int} {x : Int}, rs[i]? = some r → r[k]? = some x → (x :: (rs.set i (r.eraseIdx k)).flatten).Perm rs.flatten
  | [], _, _, _, _, e, _ => by simp at e
  | s :: rs, 0, k, r, x, e, e2 => by
    obtain rfl : s = r := Option.some.inj e
    show (x :: (s.eraseIdx k :: rs).flatten).Perm _
    rw [List.flatten_cons, List.flatten_cons]
    exact (erase_perm e2).append_right rs.flatten
  | s :: rs, i + 1, k, r, x, e, e2 => by
    show (x :: (s :: rs.set i (r.eraseIdx k)).flatten).Perm _
    rw [List.flatten_cons, List.flatten_cons]
    exact List.perm_middle.symm.trans ((flat_pop (by simpa using e) e2).append_left s)
end El
namespace El
open PySem PySem.Spec PyProof.Rows L2
/-- [f(a, b) for a, b in gs], pairs of ints to ints -/
theorem lc_prs {K : PySem.W.Frag} {B : Addr → Prop} {a D : Addr} {ts : List Addr} {gs : List (Int × Int)} {i j : Nat} {te : TE} {vs : List Nat} {σ : L2.St} {H1 : Hp} {Qd : Hp → Prop} (f : Int × Int → Int) (hG : GsAt H1 B a ts gs) (hD : H1 D = none) (hl : gs.length ≤ 1000)
    (he : ∀ (z : Int × Int) (H' : Hp), z ∈ gs → Same H1 H' → ∀ Q : VK, Q (.int (f z)) H' → te (((wipe σ vs).set i (some (.int z.1))).set j (some (.int z.2))) H' Q) (hw : ∀ z : Int × Int, wipe (((wipe σ vs).set i (some (.int z.1))).set j (some (.int z.2))) vs = wipe σ vs)
    (hd : ∀ H2, Same H1 H2 → H2 D = some (.lst ((gs.map f).map V.int)) → Qd H2) :
    ∃ W : Nat → Nat → Hp → Prop, (∃ m, W 0 m (upd H1 D (.lst []))) ∧ ∀ k m H, W k m H →
      ((Itl K a).stop k H ∧ Qd H) ∨ ((Itl K a).go k H ∧ ∃ Nx : Hp → Prop, (∀ H', Nx H' → ∃ m', m' < m ∧ W (k + 1) m' H') ∧ ∀ x H', (Itl K a).yld k H x H' → gTup K 2 (gCons (gName i) (gCons (gName j) gNil)) x (wipe σ vs) H' fun σ2 H2 => wipe σ2 vs = wipe σ vs ∧ tYes σ2 H2 fun b H3 =>
        if b = true then te σ2 H3 fun y H4 => ∃ acc, H4 D = some (.lst acc) ∧ acc.length < sizeLine ∧ Nx (upd H4 D (.lst (acc ++ [y]))) else Nx H3) := by
  refine lc_it (walk_list (xs := ts.map V.ref)) (fun k H2 => Same H1 H2 ∧ H2 D = some (.lst (((gs.take k).map f).map V.int))) ⟨same_new hD, upd_same⟩ (fun k H2 _ hW => ?_) (fun k x H2 H3 hk hW hY => ?_) (fun H2 hW => ?_)
  · exact (hG.same hW.1).seq
  · obtain ⟨sm, e⟩ := hW
    obtain ⟨rfl, hx⟩ := hY
    obtain ⟨t, z, rfl, ez, et⟩ := (hG.same sm).get hx
    refine ⟨t, _, rfl, SqT.of et, rfl, .int z.1, _, rfl, .int z.2, _, rfl, rfl, ?_⟩
    refine ⟨hw z, he z H3 (List.mem_of_getElem? ez) sm _ ⟨_, e, ils (by rw [List.length_map, List.length_map, List.length_take]; omega), Same.mut sm hD, ?_⟩⟩
    rw [upd_same, take_snoc ez, List.map_append, List.map_append]
    rfl
  · obtain ⟨sm, e⟩ := hW
    rw [List.length_map, hG.len, take_full] at e
    exact hd H2 sm e
theorem GsAt.top' {H : Hp} {B : Addr → Prop} {a : Addr} {ts : List Addr} {gs : List (Int × Int)} (h : GsAt H B a ts gs) {b : Addr} (e : H b = some (.lst (ts.map V.ref))) : GsAt H (fun _ => True) b ts gs := ⟨e, trivial, h.len, h.at', fun _ _ => trivial⟩
/-- a pair of a list of pairs, by its place -/
theorem GsAt.at_ {H : Hp} {B : Addr → Prop} {a : Addr} {ts : List Addr} {gs : List (Int × Int)} (h : GsAt H B a ts gs) {i : Nat} {g : Int × Int} (e : gs[i]? = some g) : ∃ t, (ts.map V.ref)[i]? = some (.ref t) ∧ H t = some (.tup [.int g.1, .int g.2]) := by
  have hl := at_lt e
  rw [← h.len] at hl
  obtain ⟨t, e2⟩ := at_some hl
  exact ⟨t, by rw [List.getElem?_map, e2]; rfl, h.at' i t g e2 e⟩
theorem pick2 {P : Int → Prop} {a b r : Int} (h0 : 0 ≤ r) (h1 : r < 2) (pa : P a) (pb : P b) : ∃ v : Int, atI [V.int a, .int b] r = some (.int v) ∧ P v := by
  obtain ⟨v, hv, mv⟩ := at_pick (xs := [V.int a, .int b]) h0 h1
  rcases List.mem_cons.mp mv with rfl | mv
  · exact ⟨_, hv, pa⟩
  · obtain rfl := List.mem_singleton.mp mv
    exact ⟨_, hv, pb⟩
theorem pick3 {P : Int → Prop} {a b c r : Int} (h0 : 0 ≤ r) (h1 : r < 3) (pa : P a) (pb : P b) (pc : P c) : ∃ v : Int, atI [V.int a, .int b, .int c] r = some (.int v) ∧ P v := by
  obtain ⟨v, hv, mv⟩ := at_pick (xs := [V.int a, .int b, .int c]) h0 h1
  rcases List.mem_cons.mp mv with rfl | mv
  · exact ⟨_, hv, pa⟩
  rcases List.mem_cons.mp mv with rfl | mv
  · exact ⟨_, hv, pb⟩
  · obtain rfl := List.mem_singleton.mp mv
    exact ⟨_, hv, pc⟩
theorem pick4 {P : Int → Prop} {a b c d r : Int} (h0 : 0 ≤ r) (h1 : r < 4) (pa : P a) (pb : P b) (pc : P c) (pd : P d) : ∃ v : Int, atI [V.int a, .int b, .int c, .int d] r = some (.int v) ∧ P v := by
  obtain ⟨v, hv, mv⟩ := at_pick (xs := [V.int a, .int b, .int c, .int d]) h0 h1
  rcases List.mem_cons.mp mv with rfl | mv
  · exact ⟨_, hv, pa⟩
  rcases List.mem_cons.mp mv with rfl | mv
  · exact ⟨_, hv, pb⟩
  rcases List.mem_cons.mp mv with rfl | mv
  · exact ⟨_, hv, pc⟩
  · obtain rfl := List.mem_singleton.mp mv
    exact ⟨_, hv, pd⟩
theorem pickL {P : Int → Prop} {L : List Int} {r : Int} (h0 : 0 ≤ r) (h1 : r < L.length) (p : ∀ x ∈ L, P x) : ∃ v : Int, atI (L.map V.int) r = some (.int v) ∧ P v := by
  obtain ⟨v, hv, mv⟩ := at_pick (xs := L.map V.int) h0 (by rw [List.length_map]; exact h1)
  obtain ⟨x, mx, rfl⟩ := List.mem_map.mp mv
  exact ⟨x, hv, p x mx⟩
/-- pairs that stand at these, whatever list tells them -/
structure Prs (H : Hp) (ts : List Addr) (gs : List (Int × Int)) : Prop where
  len : ts.length = gs.length
  at' : ∀ (i : Nat) (t : Addr) (g : Int × Int), ts[i]? = some t → gs[i]? = some g → H t = some (.tup [.int g.1, .int g.2])
theorem GsAt.pr {H : Hp} {B : Addr → Prop} {a : Addr} {ts : List Addr} {gs : List (Int × Int)} (h : GsAt H B a ts gs) : Prs H ts gs := ⟨h.len, h.at'⟩
theorem Prs.gs {H : Hp} {a : Addr} {ts : List Addr} {gs : List (Int × Int)} (h : Prs H ts gs) (e : H a = some (.lst (ts.map V.ref))) : GsAt H (fun _ => True) a ts gs := ⟨e, trivial, h.len, h.at', fun _ _ => trivial⟩
theorem Prs.same {H H' : Hp} {ts : List Addr} {gs : List (Int × Int)} (h : Prs H ts gs) (k : Same H H') : Prs H' ts gs := ⟨h.len, fun i t g e f => k _ _ (h.at' i t g e f)⟩
theorem Prs.nil {H : Hp} : Prs H [] [] := ⟨rfl, fun i t g e _ => by simp at e⟩
theorem Prs.cons {H : Hp} {t : Addr} {g : Int × Int} {ts : List Addr} {gs : List (Int × Int)} (e : H t = some (.tup [.int g.1, .int g.2])) (h : Prs H ts gs) : Prs H (t :: ts) (g :: gs) := by
  refine ⟨by rw [List.length_cons, List.length_cons, h.len], fun i u x e1 e2 => ?_⟩
  cases i with
  | zero =>
    obtain rfl : t = u := Option.some.inj e1
    obtain rfl : g = x := Option.some.inj e2
    exact e
  | succ i => exact h.at' i u x (by simpa using e1) (by simpa using e2)
theorem Prs.cat {H : Hp} {ts us : List Addr} {gs hs : List (Int × Int)} (h : Prs H ts gs) (k : Prs H us hs) : Prs H (ts ++ us) (gs ++ hs) := by
  refine ⟨by rw [List.length_append, List.length_append, h.len, k.len], fun i t r e1 e2 => ?_⟩
  by_cases hi : i < ts.length
  · rw [List.getElem?_append_left hi] at e1
    rw [List.getElem?_append_left (by rw [← h.len]; exact hi)] at e2
    exact h.at' i t r e1 e2
  · rw [List.getElem?_append_right (by omega)] at e1
    rw [List.getElem?_append_right (by rw [← h.len]; omega), ← h.len] at e2
    exact k.at' _ t r e1 e2
theorem Prs.take {H : Hp} {ts : List Addr} {gs : List (Int × Int)} (h : Prs H ts gs) (n : Nat) : Prs H (ts.take n) (gs.take n) := by
  refine ⟨by rw [List.length_take, List.length_take, h.len], fun i t r e1 e2 => ?_⟩
  rw [List.getElem?_take] at e1 e2
  split at e1
  · rename_i hi
    rw [if_pos hi] at e2
    exact h.at' i t r e1 e2
  · cases e1
theorem Prs.drop {H : Hp} {ts : List Addr} {gs : List (Int × Int)} (h : Prs H ts gs) (n : Nat) : Prs H (ts.drop n) (gs.drop n) := by
  refine ⟨by rw [List.length_drop, List.length_drop, h.len], fun i t r e1 e2 => ?_⟩
  rw [List.getElem?_drop] at e1 e2
  exact h.at' _ t r e1 e2
theorem cutFrom (xs : List V) (j : Nat) : cutV xs (some (j : Int)) none = xs.drop j := by
  unfold cutV
  rw [HT.sIx_none, HT.sIx_nat]
  show (List.drop (min j xs.length) xs).take (xs.length - min j xs.length) = _
  by_cases h : j ≤ xs.length
  · rw [Nat.min_eq_left h, List.take_of_length_le (by rw [List.length_drop]; omega)]
  · rw [Nat.min_eq_right (by omega), List.drop_of_length_le (Nat.le_refl _), List.drop_of_length_le (show xs.length ≤ j by omega), List.take_nil]
theorem iteX {c : Bool} {A B : Prop} (hc : c = false) (h : B) : if c = true then A else B := by
  rw [hc]
  exact iteF h
theorem nd_self (x : V) : (!decide (x = x)) = false := by rw [decide_eq_true rfl]; rfl
theorem log2_lt {x : Int} {k : Nat} (h0 : 0 ≤ x) (h1 : x < 2 ^ k) (hk : 0 < k) : x.natAbs.log2 < k := by
  by_cases h4 : x.natAbs = 0
  · rw [h4]; exact Nat.lt_of_le_of_lt (by decide) hk
  · refine (Nat.log2_lt h4).mpr ?_
    have : ((x.natAbs : Nat) : Int) < ((2 ^ k : Nat) : Int) := by
      rw [show ((x.natAbs : Nat) : Int) = x by omega]
      exact_mod_cast h1
    exact_mod_cast this
theorem part_at {gs : List (Int × Int)} {i : Nat} {g : Int × Int} (e : gs[i]? = some g) : gs = gs.take i ++ [g] ++ gs.drop (i + 1) := by
  have hi := at_lt e
  have h2 := List.getElem_cons_drop (as := gs) (i := i) hi
  rw [List.getElem?_eq_getElem hi] at e
  rw [Option.some.inj e] at h2
  rw [List.append_assoc]
  show gs = gs.take i ++ (g :: gs.drop (i + 1))
  rw [h2, List.take_append_drop]
theorem rg0 {i : Nat} {x : V} (h : x = V.int (0 + (i : Int))) : x = V.int (i : Int) := by
  rw [h, Int.zero_add]
end El
namespace El
open PySem PySem.Spec PyProof.Rows L2
/-! ### raising, where it is kept that the exception's context is None -/
theorem takes0N {X : Cx} : L2N.Takes X (fun _ _ _ _ => False) := fun _ _ y => by
  obtain ⟨_, _, _, _, _, _, _, _, _, _, _, _, _, _, _, _, no⟩ := y
  exact no.elim
section
variable {P : Program} {w : World} {K : PySem.W.Frag} {mg : Str → Option Value} {base : Heap}
/-- a def that may raise so -/
theorem okN {x qual : Str} {st : Stmt} {f : Addr} {fd : FuncData} {N ps : List Str} {k : Nat} {sp : Sp} (F : Fun K x qual st f fd) (S : FnScope N ps (defScope st)) (len : ∀ vs H Q E, sp vs H Q E → vs.length = ps.length)
    (body : ∀ (cdv : Value) (A : Around) (outer : List Env) (s : Shared) (H : Hp) (vs : List V) (Q : VK) (E : XK), Room k (A.deeper (envOfC qual (defScope st) s.heap.objs.size f cdv)) → sp vs H Q E →
      ∃ t, PSs (cxOf (L2N.CX P w) P w K mg base N qual (defScope st) f cdv A outer s H E) (defBody st) t ∧ t { nx := fun _ H' => Q .non H', rt := Q } (start N vs) H) : FnOk P w K mg base (L2N.CX P w) (k + 1) f fd ps sp := by
  obtain ⟨oc, od, kV, doc, pm, an, cdv, ct, osl, rfl, look, code⟩ := F.ex
  exact fn_of look code S len (body cdv)
end
section
variable {X : Cx} {C fI : Addr} {k : Nat} {fd : FuncData} {ps : List Str} {sp : Sp} {x : Str} {e : Expr} {es : List Expr} {ta : TA} {p pos : Pos}
/-- C(e, ..): a new exception, nothing behind it -/
theorem pmkN (T : OexC X.K C) (iC : PySem.W.findIn X.K (.ref C) "__init__" = some (some (.ref fI))) (tI : PySem.W.typeIn X.K (.ref fI) = some (.type "function")) (G : FnOk X.prog X.w X.K X.mg X.base CX0 k fI fd ps sp) (hr : Room (k + 1) X.A) (b : Binds X.K fd ps []) (hg : Gl X x) (hm : X.mg x = some (.ref C))
    (ha : PA X (e :: es) ta) (hdb : (x == ("__debug__" : Str)) = false := by decide) (he : starEach (e :: es) X.env = (false, eval e X.env) :: starEach es X.env := by rfl) (hpl : (backTo pos (starEach es X.env)).any (·.1) = false := by rfl) :
    L2N.PMk X (.Call (.Name x p) (e :: es) [] pos) (tMkO C sp [] ta) := by
  intro pins s σ H Q I asks
  obtain ⟨nm, q, N, bl, bm, sn, sub, ab, col, dd, k0, k1, k2, k3, k5, cls, hbm⟩ := T.cls
  apply wpAny_Call_Name_kw
  apply ld_glob I hg hm _ hdb
  refine PySem.W.callWith_K (h₀ := X.base) I.ok.mod.kin T.kC (wpAny_mono (ha.run pos pins s σ H _ I asks) (fun us s1 got => ?_) fun _ _ err => err) he hpl
  obtain ⟨vs, H1, I1, rv, few, q1⟩ := got
  refine ⟨I1.kIn, ?_⟩
  show wpAny _ _ (call (.ref C) us) _ _ _
  have clsN := I1.kIn _ _ cls
  have n1 : H1 (s1.heap.objs.size + 1) = none := I1.hok.fresh (Nat.le_succ _)
  have told := q1 _ n1
  have up : ∀ b o, s1.heap.get? b = some o → ((s1.heap.push (PySem.W.kdv_tup us)).push (PySem.HandSPX.excO C s1.heap.objs.size)).get? b = some o := fun _ _ z => Heap.get?_push_of_some _ (Heap.get?_push_of_some _ z)
  have new : ((s1.heap.push (PySem.W.kdv_tup us)).push (PySem.HandSPX.excO C s1.heap.objs.size)).get? (s1.heap.objs.size + 1) = some (PySem.HandSPX.excO C s1.heap.objs.size) := by heap_get
  have I2 : Inv X pins σ (upd H1 (s1.heap.objs.size + 1) (exo (s1.heap.objs.size + 1) C none)) { s1 with heap := (s1.heap.push (PySem.W.kdv_tup us)).push (PySem.HandSPX.excO C s1.heap.objs.size) } :=
    I1.laid (t' := s1.toks) (a := s1.heap.objs.size + 1) (o := exo (s1.heap.objs.size + 1) C none) up (Nat.le_succ _) (exo_ok new)
  rw [List.append_nil] at told
  have rAll : Vals (V.ref (s1.heap.objs.size + 1) :: vs) (Value.ref (s1.heap.objs.size + 1) :: us) := .cons rfl rv
  have ln : (Value.ref (s1.heap.objs.size + 1) :: us).length = ps.length := rAll.length.symm.trans (G.len _ _ _ _ told)
  have bound := b { s1 with heap := (s1.heap.push (PySem.W.kdv_tup us)).push (PySem.HandSPX.excO C s1.heap.objs.size) } (Value.ref (s1.heap.objs.size + 1) :: us) I2.kIn (by rw [List.append_nil]; exact ln)
  rw [List.append_nil] at bound
  have small : us.length ≤ sizeLine := by
    rw [← Paired.length rv]
    exact ile (Nat.le_trans few (by decide))
  refine wpAny_call (PySem.HandSPX.call_own F.excBase_ValueError (fun Y => PySem.HandSPX.refsVE_contains Y bm hbm) clsN (PySem.W.looks_findIn I1.kIn iC) (fun me => PySem.W.bind_fn I1.kIn me tI) small ?_)
  refine codeAny_mono (G.run _ X.stack _ _ ⟨Value.ref (s1.heap.objs.size + 1) :: us, []⟩ _ _ _ (fun _ _ _ => False) (hr.make C us []) (I2.env0.make C us []) bound rAll told) fun r s2 done => ?_
  match r, done with
  | .ok (.ret y), done =>
    obtain ⟨v2, H2, os2, bare2, un2, hok2, ry, ey, d, fs, ea, ed, nd, q2⟩ := done
    subst ey
    obtain ⟨hp2, g2, d2, t2, os3⟩ := s2
    obtain ⟨hp1, g1, d1, t1, os1⟩ := s1
    obtain ⟨t0, G2, J, kG, ge, hoe, na⟩ := mk_end0 (d2 := d2) (t2 := t2) I1 (Nat.le_succ _) up un2 hok2 os2 bare2 ea ed nd
    exact ⟨ry, _, _, _, ⟨G2, g2, d2, t2, os3⟩, _, .ref C, some d, rfl, J, kG, ge, hoe, ⟨rfl, rfl, fun fv z => by cases z; rfl⟩, rfl, rfl, na, rfl, bare2, raises_own T.exC T.tyC, q2⟩
  | .error er, done => exact pass0 pins σ _ _ er s2 I2 done
end
end El
namespace El
open PySem PySem.Spec PyProof.Rows L2
/-! ### the program's own errors: InnError over ValueError, and those over InnError, each with what -/
/-- a def that may raise, as callers see it -/
structure DfX (P : Program) (w : World) (K : PySem.W.Frag) (mg : Str → Option Value) (base : Heap) (k : Nat) (x : Str) (ps : List Str) (st : Stmt) (sp : Sp) : Prop where
  ex : ∃ (f : Addr) (fd : FuncData), Fun K x x st f fd ∧ mg x = some (.ref f) ∧ FnOk P w K mg base (L2N.CX P w) k f fd ps sp ∧ Binds K fd ps []
theorem At.dfx {P : Program} {w : World} {K : PySem.W.Frag} {mg : Str → Option Value} {base : Heap} {k : Nat} {x : Str} {ps : List Str} {st : Stmt} {sp : Sp} (A : At K mg x ps st)
    (h : ∀ f fd, Fun K x x st f fd → FnOk P w K mg base (L2N.CX P w) k f fd ps sp) : DfX P w K mg base k x ps st sp := by
  obtain ⟨f, fd, F, m, b⟩ := A.ex
  exact ⟨f, fd, F, m, h f fd F, b⟩
section
variable {X : Cx} {k : Nat} {x : Str} {ps : List Str} {st : Stmt} {sp : Sp} {p pos : Pos} {e : Expr} {es : List Expr} {kws : List Keyword} {t tk : TA} {W : WX}
/-- f(..) of such a def, what it raises as W tells -/
theorem pe_dfS (D : DfX X.prog X.w X.K X.mg X.base k x ps st sp) (tk : L2N.Takes X W) (hr : Room k X.A) (hg : Gl X x) (ha : PA X (e :: es) t) (hdb : (x == ("__debug__" : Str)) = false := by decide)
    (he : starEach (e :: es) X.env = (false, eval e X.env) :: starEach es X.env := by rfl) (hpl : (backTo pos (starEach es X.env)).any (·.1) = false := by rfl) : PE X (.Call (.Name x p) (e :: es) [] pos) (tCallS sp (WE W) t) := by
  obtain ⟨f, fd, F, m, G, b⟩ := D.ex
  exact pe_callS G hr hg m F.kp b (fun σ => L2N.passAt tk σ) ha hdb he hpl
/-- f(..) of such a def where nothing is raised -/
theorem pe_dfN (D : DfX X.prog X.w X.K X.mg X.base k x ps st sp) (hr : Room k X.A) (hg : Gl X x) (ha : PA X (e :: es) t) (hdb : (x == ("__debug__" : Str)) = false := by decide)
    (he : starEach (e :: es) X.env = (false, eval e X.env) :: starEach es X.env := by rfl) (hpl : (backTo pos (starEach es X.env)).any (·.1) = false := by rfl) : PE X (.Call (.Name x p) (e :: es) [] pos) (tCall sp [] E0 t) := by
  obtain ⟨f, fd, F, m, G, b⟩ := D.ex
  refine pe_call G hr hg m F.kp b .nil (fun pins σ H s v s' I c => ?_) ha hdb he hpl
  obtain ⟨_, _, _, _, _, _, _, _, _, _, _, _, z⟩ := c
  exact z.elim
def tCallWS (n : Nat) (sp : Sp) (W : WX) (g : List V → List V) (tk : TA) : TE := fun σ H Q => tk σ H fun zs H2 => zs.length = n ∧ sp (g zs) H2 Q (fun cls d H => W cls d σ H)
end
/-! ### InnError.__init__(self, ..) -/
structure InnC (K : PySem.W.Frag) (mg : Str → Option Value) (C0 : Addr) : Prop where
  g : mg "InnError" = some (.ref C0)
  rd : PySem.W.readsIn K C0 (.type "type") = true
  ga : PySem.W.specialIn K (.ref C0) "__getattribute__" = some (some (.builtin "type.__getattribute__"))
  i : PySem.W.findCls K (.ref C0) (.type "type") "__init__" = some (.val (.builtin "ValueError.__init__"))
section
variable {X : Cx} {C0 : Addr} {e : Expr} {es : List Expr} {ta : TA} {p1 p2 pos : Pos}
theorem pe_ownI {pl : Sem Bool} (T : InnC X.K X.mg C0) (ha : PA X (e :: es) ta) (hg : Gl X "InnError" := by rfl)
    (hev : eval (.Call (.Attribute (.Name "InnError" p1) "__init__" p2) (e :: es) [] pos) X.env = (do
      let v0 ← eval (.Name "InnError" p1) X.env
      standAt p2.atName
      let (fn, one) ← holding [v0] (getMethod v0 "__init__" pl)
      callWith pos fn one (backTo pos (starEach (e :: es) X.env)) (backToKw pos (keywordEach [] X.env))) := by rfl)
    (hse : starEach (e :: es) X.env = (false, eval e X.env) :: starEach es X.env := by rfl) (hpl : (backTo pos (starEach es X.env)).any (·.1) = false := by rfl) :
    PE X (.Call (.Attribute (.Name "InnError" p1) "__init__" p2) (e :: es) [] pos) (tVeI X.K ta) := by
  refine ⟨fun pins s σ H Q I h => PySem.W.methodCall_KW (ld_glob I hg T.g ?_) hev⟩
  refine PySem.W.method_cls I.kIn T.ga (PySem.W.cls_value I.kIn T.rd T.i rfl ?_)
  show wpAny _ _ (callWith pos (Value.builtin "ValueError.__init__") [] (backTo pos (starEach (e :: es) X.env)) []) _ _ { s with toks := s.toks + 1 }
  refine PyProof.Rows.callWith_method1 (thn (ha.run pos pins _ σ H _ (I.tok _) h) fun us s1 hh => ?_) hse hpl
  obtain ⟨vs, H1, I1, r1, a, C, ws, rfl, hl, T1, ea, q⟩ := hh
  cases r1 with
  | @cons _ u0 _ ur ra rw' =>
    cases ra
    have hz : ur.length ≤ sizeLine := by
      rw [← Paired.length rw']
      exact ile (Nat.le_trans hl (by decide))
    exact oinit_ok T1 I1 ea hz fun s' J => ⟨.non, H1, J, rfl, q⟩
end
/-! ### what the top says of such a class, x its name -/
structure Own (K : PySem.W.Frag) (mg : Str → Option Value) (x : Str) (C fI : Addr) : Prop where
  g : mg x = some (.ref C)
  o : OexC K C
  xf : XfC K C
  no : PySem.W.findIn K (.ref C) "what" = some none
  iC : PySem.W.findIn K (.ref C) "__init__" = some (some (.ref fI))
  tI : PySem.W.typeIn K (.ref fI) = some (.type "function")
  cl : (PySem.W.clsIn K C).isSome = true
  ac : PySem.W.findIn K (.ref C) "__class__" = some (some (.builtin "object.__class__"))
  mo : PySem.W.mroIn K C (.type "object") = some true
/-- what isinstance leans on -/
structure IsX (K : PySem.W.Frag) : Prop where
  hn : PySem.W.specialIn K (.builtin "object.__class__") "__get__" = some (some (.builtin "getset_descriptor.__get__"))
  ht : PySem.W.takesIn K (.builtin "object.__class__") = some true
/-- isinstance(e, c), e the exception that the suite holds, with its dict at d -/
def rIsD (K : PySem.W.Frag) (D a : Addr) : List V → Hp → VK → Prop := fun xs H Q => ∃ (c : V) (cv : Value) (b : Bool), xs = [.ref a, c] ∧ (∀ u, RelV c u → u = cv) ∧ PySem.W.kitOne K (.ref D) cv = some b ∧ Q (.bl b) H
/-- isinstance(e, (c1, ..)) -/
def rIsT (K : PySem.W.Frag) (D a : Addr) : List V → Hp → VK → Prop := fun xs H Q => ∃ (t : Addr) (cs : List V) (cvs : List Value) (b : Bool), xs = [.ref a, .ref t] ∧ SqT K H t cs ∧ (∀ us, Vals cs us → us = cvs) ∧ PySem.W.kitAny K (.ref D) cvs = some b ∧ Q (.bl b) H
section
variable {X : Cx} {a D : Addr} {d : Option Addr} {oe : Obj} {pn : List (Addr × Obj)} {fI : Addr} {x : Str}
theorem own_inst {pins : List (Addr × Obj)} {σ : L2.St} {H : Hp} {s : Shared} {dd : Addr} {fs : List (Str × V)} (hz : Zc (.ref D) (some dd) oe) (hf : ∃ vs, oe.data = .fields vs) (I : Inv (X.suite a ((a, oe) :: pn)) pins σ H s) (ed : H dd = some (.xd fs)) :
    ∃ od, PySem.W.InstAt s.heap a oe D (some od) := by
  obtain ⟨ha, _⟩ := I.pin (a, oe) (List.mem_append_left _ List.mem_cons_self)
  obtain ⟨vs, hd⟩ := hf
  obtain ⟨mA, hns, _⟩ := (show ObjOk X.prog X.w H s.heap dd (.xd fs) from I.hok dd _ ed)
  obtain ⟨od, ho, _⟩ := lookIn_ns hns
  exact ⟨od, ha, hz.1, by unfold PySem.W.notCls; rw [hd] <;> rfl, by rw [hz.2]; exact ho⟩
theorem own_kit {K : PySem.W.Frag} {mg : Str → Option Value} {od : Option Obj} (T : Own K mg x D fI) (J : IsX K) : PySem.W.KitX K (.ref a) (.ref D) (fun h => PySem.W.InstAt h a oe D od) :=
  PySem.W.kitx_exc T.cl T.xf.ga T.xf.gg T.xf.exC T.ac J.hn J.ht T.mo
theorem call_isD {dd : Addr} (T : Own X.K X.mg x D fI) (J : IsX X.K) (hz : Zc (.ref D) (some dd) oe) (hf : ∃ vs, oe.data = .fields vs) :
    CallR (X.suite a ((a, oe) :: pn)) (.builtin "isinstance") (fun xs H Q => (∃ fs, H dd = some (.xd fs)) ∧ (rIsD X.K D a xs H Q ∨ rIsT X.K D a xs H Q)) := by
  intro pins s σ H xs us Q I r h
  obtain ⟨⟨fs, ed⟩, h⟩ := h
  obtain ⟨od, hI⟩ := own_inst hz hf I ed
  rcases h with ⟨c, cv, b, rfl, hcv, e, q⟩ | ⟨t, cs, cvs, b, rfl, hs, hcs, e, q⟩
  · cases r with
    | cons rx rr =>
      cases rr with
      | cons rt rr =>
        cases rr
        cases rx
        obtain rfl := hcv _ rt
        exact PySem.W.kia_one (own_kit T J) I.kIn hI e (fun z => nomatch z) fun tk => ⟨.bl b, H, I.kept (t' := tk) fun _ _ z => z, rfl, q⟩
  · cases r with
    | cons rx rr =>
      cases rr with
      | cons rt rr =>
        cases rr
        cases rx
        cases rt
        obtain ⟨its, rv, ⟨o, ho, hc, n, hd⟩, _⟩ := I.tuple hs
        obtain rfl := hcs _ rv
        obtain ⟨oc, od', oda, osl⟩ := o
        dsimp only at hc hd
        subst hc hd
        exact PySem.W.kia_tup (own_kit T J) I.kIn hI ho e (fun z => nomatch z) fun tk => ⟨.bl b, H, I.kept (t' := tk) fun _ _ z => z, rfl, q⟩
end
/-- the heap behind C(v): all as it was, the dict alone beside -/
theorem mk_heap {H : Hp} {a d : Addr} {x z : HO} {y u : HO} (ha : H a = none) (hd : d ≠ a) : upd (del (upd (upd (upd H a x) d y) a z) a) d u = upd H d u := by
  funext b
  by_cases h1 : b = d
  · rw [h1, upd_same, upd_same]
  · rw [upd_ne h1, upd_ne h1]
    by_cases h2 : b = a
    · rw [h2, del_same, ha]
    · rw [del_ne h2, upd_ne h2, upd_ne h1, upd_ne h2]
/-- an except clause's class -/
theorem te_of {K : PySem.W.Frag} {C0 C : Addr} (h1 : PySem.W.subIn K (.ref C0) (.type "BaseException") = some true) (hd : PySem.W.hasDictIn K C0 = true) (ht : PySem.W.typeIn K (.ref C0) = some (.type "type")) (h4 : PySem.W.subIn K (.ref C) (.ref C0) = some true) : PySem.W.exmOne K (.ref C) (.ref C0) = some true := PySem.W.exm_ref h1 hd ht h4
/-! ### in a suite: the exception's class known at the reading alone -/
def rIsAny (K : PySem.W.Frag) (mg : Str → Option Value) (a : Addr) (cls : Value) (d : Option Addr) : List V → Hp → VK → Prop := fun xs H Q => ∃ (x : Str) (D fI dd : Addr), cls = .ref D ∧ d = some dd ∧ Own K mg x D fI ∧ IsX K ∧ (∃ fs, H dd = some (.xd fs)) ∧ (rIsD K D a xs H Q ∨ rIsT K D a xs H Q)
def tXfAny (K : PySem.W.Frag) (a : Addr) (cls : Value) (d : Option Addr) (f : Str) (te : TE) : TE := fun σ H Q => ∃ C, XfC K C ∧ PySem.W.findIn K (.ref C) f = some none ∧ tXf a cls d C f te σ H Q
section
variable {X : Cx} {a : Addr} {cls : Value} {d : Option Addr} {oe : Obj} {pn : List (Addr × Obj)}
theorem isAnyK (K : PySem.W.Frag) (mg : Str → Option Value) (hz : Zc cls d oe) (hf : ∃ vs, oe.data = .fields vs) (e : X.K = K := by rfl) (e2 : X.mg = mg := by rfl) : CallR (X.suite a ((a, oe) :: pn)) (.builtin "isinstance") (rIsAny K mg a cls d) := by
  subst e
  subst e2
  intro pins s σ H xs us Q I r h
  obtain ⟨x, D, fI, dd, rfl, rfl, T, J, h1, h2⟩ := h
  exact call_isD T J hz hf pins s σ H xs us Q I r ⟨h1, h2⟩
theorem pe_xfA {e : Expr} {te : TE} {pos : Pos} {n : Str} (K : PySem.W.Frag) (hz : Zc cls d oe) (hf : ∃ vs, oe.data = .fields vs) (he : PE (X.suite a ((a, oe) :: pn)) e te) (eK : X.K = K := by rfl) (hb : attributeBase e n X.env (eval e X.env) = eval e X.env := by rfl) :
    PE (X.suite a ((a, oe) :: pn)) (.Attribute e n pos) (tXfAny K a cls d n te) := by
  subst eK
  refine ⟨fun pins s σ H Q I h => ?_⟩
  obtain ⟨C, T, hno, h⟩ := h
  exact (pe_xf (C := C) T hno hz hf he hb).run pins s σ H Q I h
end
/-- xs.count(y), xs of flat things -/
def rCountF (K : PySem.W.Frag) : V → List V → Hp → VK → Prop := fun x xs H Q => ∃ (a : Addr) (ys : List V) (y : V), x = .ref a ∧ xs = [y] ∧ SqL K H a ys ∧ flatV y = true ∧ ys.all flatV = true ∧ Q (.int ((ys.countP fun z => eqV z y : Nat) : Int)) H
theorem countU {y : V} : ∀ {ys : List V} {its : List Value}, Vals ys its → ys.all flatV = true → its.countP (eqU y) = ys.countP fun z => eqV z y
  | _, _, .nil, _ => rfl
  | _, _, .cons (a := z) (b := u) (l₁ := zs) r t, h => by
    have h' : (flatV z && zs.all flatV) = true := h
    obtain ⟨h1, h2⟩ := Bool.and_eq_true_iff.mp h'
    rw [List.countP_cons, List.countP_cons, countU t h2, eqU_of r h1]
section
variable {X : Cx}
theorem mtCountK (K : PySem.W.Frag) (e : X.K = K := by rfl) : MtR X "list.count" (rCountF K) := by
  subst e
  intro pins s σ H x xs v us Q I rx rxs h
  obtain ⟨a, ys, y, rfl, rfl, hs, fy, fys, q⟩ := h
  cases rx
  obtain ⟨u, rfl, ru⟩ := rxs.one
  obtain ⟨its, rv, ⟨⟨cl, dd, da, sl⟩, n, ho, hc, hdn, hd⟩, hlen⟩ := I.list hs
  dsimp only at hc hd
  subst hc hd
  refine call_meets PySem.F.slot_list_count ⟨_, ho, rfl⟩ PySem.F.entry_list_count (PySem.F.args_list_count_2 _ _) (SeqAt.list_countAt a its.toArray n dd sl u (eqU y)) ⟨ho, fun u' hu' => mem_eqAt ru fy rv fys u' (by simpa using hu'), ?_⟩
  have ec : its.toArray.toList.countP (eqU y) = ys.countP fun z => eqV z y := countU rv fys
  refine ⟨.int ((ys.countP fun z => eqV z y : Nat) : Int), H, I.tok _, ⟨s.toks, ?_⟩, q⟩
  rw [← ec]
theorem mtIndexK (K : PySem.W.Frag) (e : X.K = K := by rfl) : MtR X "list.index" (rIndex K) := by
  subst e
  exact mt_index
end
/-! ### the errors' own __init__ -/
/-- what repr takes here -/
def Rdb (v : V) : Prop := (∃ i : Int, v = .int i ∧ i.natAbs < 10 ^ 200) ∨ ∃ y : Str, v = .str y ∧ (reprText y).length ≤ 100000
theorem text_len {i : Int} (h : i.natAbs < 10 ^ 200) : (Str.ofString (toString i)).length ≤ 201 := by
  by_cases h0 : 0 ≤ i
  · exact Nat.le_succ_of_le (PyProof.Rows.toString_length_le h0 (by decide) (by
      have : ((i.natAbs : Nat) : Int) < ((10 ^ 200 : Nat) : Int) := by exact_mod_cast h
      rw [show ((i.natAbs : Nat) : Int) = i by omega] at this
      exact_mod_cast this))
  · have e := PyProof.Rows.len_text_negI (n := i) (by omega)
    have h2 := PyProof.Rows.toString_length_le (v := 0 - i) (k := 200) (by omega) (by decide) (by
      have : ((i.natAbs : Nat) : Int) < ((10 ^ 200 : Nat) : Int) := by exact_mod_cast h
      rw [show ((i.natAbs : Nat) : Int) = 0 - i by omega] at this
      exact_mod_cast this)
    omega
def sp_init (K : PySem.W.Frag) : Sp := fun vs H Q _ => ∃ (a C : Addr) (v : V), vs = [.ref a, v] ∧ OexC K C ∧ PySem.W.findIn K (.ref C) "what" = some none ∧ H a = some (exo a C none) ∧ Rdb v ∧
  ∀ d, H d = none → d ≠ a → Q .non (upd (upd H d (exd d [(("what" : Str), v)])) a (exo a C (some d)))
/-- such a class with its __init__ -/
structure OwnD (P : Program) (w : World) (K : PySem.W.Frag) (mg : Str → Option Value) (base : Heap) (x : Str) (C : Addr) : Prop where
  ex : ∃ (fI : Addr) (fd : FuncData), Own K mg x C fI ∧ FnOk P w K mg base CX0 1 fI fd ["self", "what"] (sp_init K) ∧ Binds K fd ["self", "what"] []
theorem OwnD.own {P : Program} {w : World} {K : PySem.W.Frag} {mg : Str → Option Value} {base : Heap} {x : Str} {C : Addr} (O : OwnD P w K mg base x C) : ∃ fI, Own K mg x C fI := by
  obtain ⟨fI, _, T, _⟩ := O.ex
  exact ⟨fI, T⟩
theorem OwnD.g {P : Program} {w : World} {K : PySem.W.Frag} {mg : Str → Option Value} {base : Heap} {x : Str} {C : Addr} (O : OwnD P w K mg base x C) : mg x = some (.ref C) := by
  obtain ⟨fI, T⟩ := O.own
  exact T.g
section
variable {X : Cx} {C : Addr} {x : Str} {e : Expr} {es : List Expr} {ta : TA} {W : WX} {p pos pos2 : Pos}
theorem pa_on {σ : L2.St} {H : Hp} {R : List V → Hp → Prop} (ha : PA X es ta) (h : ta σ H R) : PA X es (fun σ' H' Q' => σ' = σ ∧ H' = H ∧ ∀ vs H1, R vs H1 → Q' vs H1) := by
  refine ⟨fun pos pins s σ' H' Q' I h2 => ?_⟩
  obtain ⟨rfl, rfl, h2⟩ := h2
  exact thn (ha.run pos pins s σ' H' R I h) fun us s1 ⟨vs, H1, I1, r1, q⟩ => ⟨vs, H1, I1, r1, h2 vs H1 q⟩
/-- raise C(e) -/
def tRaiseOwn (C : Addr) (W : WX) (ta : TA) : TS := fun _ σ H => ta σ H fun vs H1 => ∃ v, vs = [v] ∧ Rdb v ∧ ∀ d, H1 d = none → W (.ref C) (some d) σ (upd H1 d (.xd [(("what" : Str), v)]))
theorem ps_raiseOwn (O : OwnD X.prog X.w X.K X.mg X.base x C) (hr : Room 2 X.A) (hc : X.calm = true) (tk : L2N.Takes X W) (ha : PA X [e] ta) (hg : Gl X x) (hdb : (x == ("__debug__" : Str)) = false := by decide)
    (he : starEach [e] X.env = (false, eval e X.env) :: starEach [] X.env := by rfl) (hpl : (backTo pos (starEach [] X.env)).any (·.1) = false := by rfl) :
    PS X (.Raise (some (.Call (.Name x p) [e] [] pos)) none pos2) (tRaiseOwn C W ta) := by
  obtain ⟨fI, fd, T, F, b⟩ := O.ex
  refine ⟨fun pins s σ H D I h => ?_⟩
  refine (L2N.ps_raise hc tk (pmkN T.o T.iC T.tI F hr b hg T.g (pa_on ha h) hdb he hpl)).run pins s σ H D I ⟨rfl, rfl, fun vs H1 ⟨v, ev, rv, q⟩ => ?_⟩
  subst ev
  refine ⟨by show 1 ≤ 1000; decide, fun a na => ⟨a, C, v, rfl, T.o, T.no, upd_same, rv, fun d nd da => ⟨rfl, d, _, upd_same, by rw [upd_ne da, upd_same], ?_, ?_⟩⟩⟩
  · rw [upd_ne da] at nd
    exact nd
  · rw [mk_heap na da]
    exact q d (by rw [upd_ne da] at nd; exact nd)
end
theorem valsRefs : ∀ {l : List Addr} {us : List Value}, Vals (l.map V.ref) us → us = l.map Value.ref
  | [], _, .nil => rfl
  | a :: l, _, .cons r t => by
    obtain rfl : _ = Value.ref a := r
    rw [List.map_cons, valsRefs t]
theorem relRef (a : Addr) : RelV (.ref a) (.ref a) := rfl
theorem bootVE : bootBuiltins "ValueError" = some (.type "ValueError") := by decide +kernel
theorem own_mro (C0 : Addr) : PySem.HandSPX.refsVE [.ref C0, .type "ValueError", .type "Exception", .type "BaseException", .type "object"] = true := by
  show PySem.HandSPX.refsVE [.type "ValueError", .type "Exception", .type "BaseException", .type "object"] = true
  decide +kernel
theorem kit_self {K : PySem.W.Frag} (C : Addr) : PySem.W.kitOne K (.ref C) (.ref C) = some true := by
  unfold PySem.W.kitOne
  rw [if_pos (beq_self_eq_true _)]
theorem kit_no {K : PySem.W.Frag} {C D : Addr} (h : PySem.W.subIn K (.ref C) (.ref D) = some false) (hc : PySem.W.isClsIn K D = true) (ht : PySem.W.typeIn K (.ref D) = some (.type "type")) (ne : C ≠ D) : PySem.W.kitOne K (.ref C) (.ref D) = some false := by
  unfold PySem.W.kitOne
  rw [if_neg (fun z => ne (Value.ref.inj (eq_of_beq z)))]
  have h1 : (PySem.W.clsIn K D).isSome = true := hc
  show (if ((PySem.W.clsIn K D).isSome && PySem.W.typeIn K (.ref D) == some (.type "type")) = true then PySem.W.subIn K (.ref C) (.ref D) else none) = _
  rw [if_pos (by rw [h1, ht]; rfl)]
  exact h
theorem kit_ve {K : PySem.W.Frag} {C : Addr} (h : PySem.W.subIn K (.ref C) (.type "ValueError") = some true) : PySem.W.kitOne K (.ref C) (.type "ValueError") = some true := by
  unfold PySem.W.kitOne
  have hne : ¬ (Value.ref C == Value.type "ValueError") = true := fun z => nomatch (eq_of_beq z)
  rw [if_neg hne]
  show (if PySem.W.kitMeta "ValueError" = true then PySem.W.subIn K (.ref C) (.type "ValueError") else none) = _
  rw [if_pos (by decide +kernel)]
  exact h
theorem kit_none {K : PySem.W.Frag} {t : Value} : ∀ {l : List Value}, (∀ c ∈ l, PySem.W.kitOne K t c = some false) → PySem.W.kitAny K t l = some false
  | [], _ => rfl
  | c :: l, h => by
    unfold PySem.W.kitAny
    rw [h c List.mem_cons_self]
    exact kit_none fun d m => h d (List.mem_cons_of_mem _ m)
end El
namespace El
open PySem PySem.Spec PyProof.Rows L2
/-! ### a def that refuses some things and answers others: both promises put together -/
theorem Df.orx {P : Program} {w : World} {K : PySem.W.Frag} {mg : Str → Option Value} {base : Heap} {j k : Nat} {x : Str} {ps : List Str} {st : Stmt} {sp1 sp2 : Sp} (G : Df P w K mg base j x ps st sp1) (B : DfX P w K mg base k x ps st sp2) (h : j ≤ k) :
    DfX P w K mg base k x ps st (fun vs H Q E => sp1 vs H Q E0 ∨ sp2 vs H Q E) := by
  obtain ⟨f, fd, F, m, G1, b⟩ := G.ex
  obtain ⟨f', fd', F', m', B1, _⟩ := B.ex
  obtain rfl : f = f' := Value.ref.inj (Option.some.inj (m.symm.trans m'))
  have efd : fd = fd' := by
    obtain ⟨_, _, _, _, _, _, _, _, _, rfl, l1, _⟩ := F.ex
    obtain ⟨_, _, _, _, _, _, _, _, _, rfl, l2, _⟩ := F'.ex
    exact Data.func.inj (Obj.mk.inj (Option.some.inj (l1.symm.trans l2))).2.2.1
  subst efd
  refine ⟨f, fd, F, m, ⟨fun vs H Q E hs => hs.elim (G1.len vs H Q E0) (B1.len vs H Q E), fun A outer s H args us vs Q E room ent bound vals want => ?_⟩, b⟩
  rcases want with want | want
  · refine codeAny_mono (G1.run A outer s H args us vs Q E0 (room.mono h) ent bound vals want) fun r s2 told => ?_
    match r, told with
    | .ok (.ret _), told => exact told
    | .error _, told => exact told.elim
  · exact B1.run A outer s H args us vs Q E room ent bound vals want
theorem Df.up {P : Program} {w : World} {K : PySem.W.Frag} {mg : Str → Option Value} {base : Heap} {j k : Nat} {x : Str} {ps : List Str} {st : Stmt} {sp : Sp} (G : Df P w K mg base j x ps st sp) (h : j ≤ k) : Df P w K mg base k x ps st sp := by
  obtain ⟨f, fd, F, m, G1, b⟩ := G.ex
  exact ⟨f, fd, F, m, G1.mono h, b⟩
theorem DfX.up {P : Program} {w : World} {K : PySem.W.Frag} {mg : Str → Option Value} {base : Heap} {j k : Nat} {x : Str} {ps : List Str} {st : Stmt} {sp : Sp} (G : DfX P w K mg base j x ps st sp) (h : j ≤ k) : DfX P w K mg base k x ps st sp := by
  obtain ⟨f, fd, F, m, G1, b⟩ := G.ex
  exact ⟨f, fd, F, m, G1.mono h, b⟩
/-! ### errors whose value is a number, a text, None or a pair of numbers -/
def RdW (H : Hp) (v : V) : Prop := Rdb v ∨ v = .non ∨ ∃ (t : Addr) (i j : Int), v = .ref t ∧ H t = some (.tup [.int i, .int j]) ∧ i.natAbs < 10 ^ 200 ∧ j.natAbs < 10 ^ 200
theorem RdW.same {H H' : Hp} {v : V} (h : RdW H v) (k : Same H H') : RdW H' v := by
  rcases h with h | h | ⟨t, i, j, e, et, hi, hj⟩
  · exact .inl h
  · exact .inr (.inl h)
  · exact .inr (.inr ⟨t, i, j, e, k _ _ et, hi, hj⟩)
theorem two_pair (a b : Str) : (tupleText [a, b]).length = a.length + b.length + 4 := by
  have h := join_length_add [a, b] (List.cons_ne_nil _ _)
  rw [piled_cons, piled_cons, piled_nil] at h
  have o : ("(" : Str).length = 1 := by decide +kernel
  have c : (((if [a, b].length == 1 then ",)" else ")" : String) : Str)).length = 1 := by
    show ((")" : String) : Str).length = 1
    decide +kernel
  unfold tupleText
  rw [Str.length_append, Str.length_append, o, c]
  omega
theorem bits_of {i : Int} (h : i.natAbs < 10 ^ 200) : i.natAbs.log2 < 1920 := by
  by_cases h0 : i.natAbs = 0
  · rw [h0]
    decide
  · exact Nat.lt_trans ((Nat.log2_lt h0).mpr (Nat.lt_trans h (by decide +kernel : 10 ^ 200 < 2 ^ 700))) (by decide)
/-- {x!r}: some text, not too long -/
def tFmtW (te : TE) : TE := fun σ H Q => te σ H fun x H1 => RdW H1 x ∧ ∀ m : Str, m.length ≤ 100000 → Q (.str m) H1
section
variable {X : Cx}
theorem pe_fmtW {e : Expr} {te : TE} {pos : Pos} {k : Nat} (hr : Room k X.A) (he : PE X e te) : PE X (.FormattedValue e 114 none pos) (tFmtW te) := by
  constructor
  intro pins s σ H Q inv asks
  apply wpAny_FormattedValue_repr
  refine wpAny_mono (he.run pins s σ H _ inv asks) (fun v s1 got => ?_) fun _ _ err => err
  obtain ⟨x, H1, I1, r1, hw, q⟩ := got
  have hs : (100000 : Nat) ≤ sizeLine := by decide
  have told : ∀ (m : Str) (u t' : Tok), m.length ≤ 100000 → EP X pins σ Q (.str m u) { s1 with toks := t' } := fun m u t' hm => ⟨.str m, H1, I1.tok _, ⟨u, rfl⟩, q m hm⟩
  rcases hw with (⟨i, rfl, hi⟩ | ⟨y, rfl, hy⟩) | rfl | ⟨t, i, j, rfl, et, hi, hj⟩
  · obtain ⟨t, rfl⟩ := r1
    have hl : (Str.ofString (toString i)).length ≤ 100000 := Nat.le_trans (text_len hi) (by decide)
    exact pyReprObj_int (bits_of hi) (wpAny_formatField_str (told _ _ _ hl) (told _ _ _ hl) (int_text_fits (bits_of hi)))
  · obtain ⟨t, rfl⟩ := r1
    have hz := Nat.le_trans hy hs
    exact pyReprObj_str (wpAny_formatField_str (told _ _ _ hy) (told _ _ _ hy) hz) hz
  · cases r1
    have hl : (("None" : String) : Str).length ≤ 100000 := by decide +kernel
    exact pyReprObj_none (wpAny_formatField_str (told _ _ _ hl) (told _ _ _ hl) (Nat.le_trans hl hs))
  · cases r1
    obtain ⟨its, rv, ⟨o, ho, hcl, n, hd⟩, _⟩ := I1.tuple (SqT.of (K := X.K) et)
    obtain ⟨u1, u2, rfl, r1, r2⟩ := vals2 rv
    obtain ⟨k1, rfl⟩ := r1
    obtain ⟨k2, rfl⟩ := r2
    have hu := hr.units
    have hT : ReprAll X.prog X.w [Value.int i k1, Value.int j k2] [Str.ofString (toString i), Str.ofString (toString j)] := .cons (ReprIs.int k1 (bits_of hi)) (.cons (ReprIs.int k2 (bits_of hj)) .nil)
    have hz : (tupleText [Str.ofString (toString i), Str.ofString (toString j)]).length ≤ 500 := by
      rw [two_pair]
      have := text_len hi
      have := text_len hj
      omega
    refine wpAny_pyReprObj_slot (by omega) ⟨o, ho, hcl⟩ F.slot_tuple_repr (fmt_tuple_repr ho hcl hd hT (Nat.le_trans hz (by decide)) fun m u tk hm => ⟨m, u, rfl, ?_⟩)
    have hl : m.length ≤ 100000 := by omega
    exact wpAny_formatField_str (told _ _ _ hl) (told _ _ _ hl) (Nat.le_trans hl hs)
end
def sp_initW (K : PySem.W.Frag) : Sp := fun vs H Q _ => ∃ (a C : Addr) (v : V), vs = [.ref a, v] ∧ OexC K C ∧ PySem.W.findIn K (.ref C) "what" = some none ∧ H a = some (exo a C none) ∧ RdW H v ∧
  ∀ d, H d = none → d ≠ a → Q .non (upd (upd H d (exd d [(("what" : Str), v)])) a (exo a C (some d)))
structure OwnW (P : Program) (w : World) (K : PySem.W.Frag) (mg : Str → Option Value) (base : Heap) (x : Str) (C : Addr) : Prop where
  ex : ∃ (fI : Addr) (fd : FuncData), Own K mg x C fI ∧ FnOk P w K mg base CX0 1 fI fd ["self", "what"] (sp_initW K) ∧ Binds K fd ["self", "what"] []
theorem OwnW.own {P : Program} {w : World} {K : PySem.W.Frag} {mg : Str → Option Value} {base : Heap} {x : Str} {C : Addr} (O : OwnW P w K mg base x C) : ∃ fI, Own K mg x C fI := by
  obtain ⟨fI, _, T, _⟩ := O.ex
  exact ⟨fI, T⟩
section
variable {X : Cx} {C : Addr} {x : Str} {e : Expr} {ta : TA} {W : WX} {p pos pos2 : Pos}
/-- raise C(e) -/
def tRaiseW (C : Addr) (W : WX) (ta : TA) : TS := fun _ σ H => ta σ H fun vs H1 => ∃ v, vs = [v] ∧ RdW H1 v ∧ ∀ d, H1 d = none → W (.ref C) (some d) σ (upd H1 d (.xd [(("what" : Str), v)]))
theorem ps_raiseW (O : OwnW X.prog X.w X.K X.mg X.base x C) (hr : Room 2 X.A) (hc : X.calm = true) (tk : L2N.Takes X W) (ha : PA X [e] ta) (hg : Gl X x) (hdb : (x == ("__debug__" : Str)) = false := by decide)
    (he : starEach [e] X.env = (false, eval e X.env) :: starEach [] X.env := by rfl) (hpl : (backTo pos (starEach [] X.env)).any (·.1) = false := by rfl) :
    PS X (.Raise (some (.Call (.Name x p) [e] [] pos)) none pos2) (tRaiseW C W ta) := by
  obtain ⟨fI, fd, T, F, b⟩ := O.ex
  refine ⟨fun pins s σ H D I h => ?_⟩
  refine (L2N.ps_raise hc tk (pmkN T.o T.iC T.tI F hr b hg T.g (pa_on ha h) hdb he hpl)).run pins s σ H D I ⟨rfl, rfl, fun vs H1 ⟨v, ev, rv, q⟩ => ?_⟩
  subst ev
  refine ⟨by show 1 ≤ 1000; decide, fun a na => ⟨a, C, v, rfl, T.o, T.no, upd_same, rv.same (same_new na), fun d nd da => ⟨rfl, d, _, upd_same, by rw [upd_ne da, upd_same], ?_, ?_⟩⟩⟩
  · rw [upd_ne da] at nd
    exact nd
  · rw [mk_heap na da]
    exact q d (by rw [upd_ne da] at nd; exact nd)
end
end El
namespace El
open PySem PySem.Spec PyProof.Rows L2
/-! ### an exception that is kept behind its suite -/
def Exc (a : Addr) (cls : Value) (d : Option Addr) : HO := .ext fun h => ∃ (oe : Obj) (vs : Array Value), h.get? a = some oe ∧ Zc cls d oe ∧ oe.data = .fields vs
/-- what is asked of an exception that comes: it is of the class c, and the suite lets go on, the exception noted -/
def wKept (K : PySem.W.Frag) (c : Value) (i : Nat) (ts : Addr → Value → Option Addr → TS) (D : Ends) : WX := fun cls d σ H =>
  PySem.W.exmOne K cls c = some true ∧ ∀ a, H a = none → ts a cls d { nx := fun σ' H' => D.nx (σ'.set i none) (upd H' a (Exc a cls d)), rt := fun _ _ => False, bk := fun _ _ => False, ct := fun _ _ => False } (σ.set i (some (.ref a))) H
section
variable {X : Cx} {pins : List (Addr × Obj)} {σ : L2.St} {H : Hp} {s : Shared}
/-- one more pin -/
theorem pin_more (I : Inv X pins σ H s) {p : Addr × Obj} (e : s.heap.get? p.1 = some p.2) (n : H p.1 = none) (nl : p.1 ≠ X.env.locals) (nf : p.1 ∉ X.fs) (nc : ∀ v, p.2.data ≠ .cell v) : Inv X (p :: pins) σ H s :=
  I.pins_of fun q m => (List.mem_cons.mp m).elim (fun z => by subst z; exact ⟨e, n, nl, nf, nc⟩) fun z => I.pin q (List.mem_append_right _ z)
/-- a pinned exception is noted -/
theorem note_exc {a : Addr} {oe : Obj} {vs : Array Value} {cls : Value} {d : Option Addr} (I : Inv X ((a, oe) :: pins) σ H s) (hz : Zc cls d oe) (hd : oe.data = .fields vs) (new : ∀ o, X.s_0.heap.get? a = some o → X.H_0 a ≠ none) (apart : ∀ p ∈ X.pn ++ pins, p.1 ≠ a) :
    Inv X pins σ (upd H a (Exc a cls d)) s := by
  obtain ⟨ea, na, nl, nf, nc⟩ := I.pin (a, oe) (List.mem_append_right _ List.mem_cons_self)
  have other : ∀ {b : Addr}, b ≠ a → upd H a (Exc a cls d) b = H b := fun z => upd_ne z
  have dead : ∀ {b : Addr} {u : HO}, H b = some u → b ≠ a := fun e z => by
    rw [z, na] at e
    cases e
  have cells : ∀ y c, X.env.cells.lookup y = some c → c ≠ a := fun y c e1 z => by
    obtain ⟨v, o, e2, e3⟩ := I.cell y c e1
    rw [z, ea] at e2
    exact nc v (by rw [Option.some.inj e2]; exact e3)
  refine { ok := I.ok, os := I.os, bare := I.bare, loc := I.loc, cell := I.cell, len := I.len, base := ⟨I.base.keep, I.base.slot, fun b o e1 e2 e3 => ?_, I.base.there, fun b xs e1 => ?_, fun b o u e1 => ?_, fun b ps e1 => ?_⟩, free := ?_, freeC := fun y c e1 => ?_, pin := fun p m => ?_, hok := fun b u e1 => ?_ }
  · rw [other fun z => new o (z ▸ e1) (z ▸ e2)]
    exact I.base.free b o e1 e2 e3
  · have e2 := I.base.tups b xs e1
    rw [other (dead e2)]
    exact e2
  · have e2 := I.base.frzs b o u e1
    rw [other (dead e2)]
    exact e2
  · obtain ⟨more, e2⟩ := I.base.tbls b ps e1
    exact ⟨more, by rw [other (dead e2)]; exact e2⟩
  · rw [other nl.symm]
    exact I.free
  · rw [other (cells y c e1)]
    exact I.freeC y c e1
  · obtain ⟨p1, p2, p3, p4, p5⟩ := I.pin p ((List.mem_append.mp m).elim (fun z => List.mem_append_left _ z) fun z => List.mem_append_right _ (List.mem_cons_of_mem _ z))
    exact ⟨p1, by rw [other (apart p m)]; exact p2, p3, p4, p5⟩
  · by_cases hb : b = a
    · subst hb
      obtain rfl : Exc b cls d = u := Option.some.inj (upd_same.symm.trans e1)
      exact ⟨⟨oe, vs, ea, hz, hd⟩, ⟨oe, ea⟩, fun h1 h2 ⟨o, v, q1, q2⟩ k => ⟨o, v, k o q1, q2⟩⟩
    · rw [other hb] at e1
      exact (I.hok b u e1).stay (fun _ _ _ q => q) (fun _ q => by rw [other (dead q)]; exact q) fun _ _ q => by rw [other (dead q)]; exact q
end
section
variable {X : Cx} {x n : Str} {c : Value} {i : Nat} {body suite : List Stmt} {b₀ : Stmt} {np pos pos' : Pos} {tb : WX → TS} {ts : Addr → Value → Option Addr → TS}
/-- try: .. except x as n: .., the exception alive behind it -/
theorem ps_try_kept (hs : X.stack = X.env :: X.outer) (hf : X.env.frame = some X.env.locals) (hN : X.N.Nodup) (hi : X.N[i]? = some n) (hln : X.env.kindOf n = some .local) (hc : Names X x c) (hx : X.ex = [])
    (hb : ∀ W pn xe, Takes (X.tr pn xe) W → PassesOwn (model X.prog X.w) X.A X.env xe → PSs (X.tr pn xe) body (tb W))
    (hsu : ∀ a oe cls d pn, Zc cls d oe → (∃ vs, oe.data = .fields vs) → PSs (X.suite a ((a, oe) :: pn)) (b₀ :: suite) (ts a cls d)) :
    PS X (.Try body [.ExceptHandler (some (.Name x np)) (some n) (b₀ :: suite) pos'] [] [] pos) (fun D σ H => tb (wKept X.K c i ts D) D σ H) := by
  constructor
  intro pins s σ H D I asks
  have ok := I.ok
  have frames : X.A.frames = some (X.env :: X.outer) := ok.frames.trans (congrArg some hs)
  apply wpAny_Try_except
  have run := (hb (wKept X.K c i ts D) (X.pn ++ pins) (fun e s₁ => wpAny (model X.prog X.w) X.A (noteFrame e X.env) (fun _ s₂ => wpAny (model X.prog X.w) X.A (setFlight e none) (fun _ s₃ => wpAny (model X.prog X.w) X.A (handleBy e X.env [.ExceptHandler (some (.Name x np)) (some n) (b₀ :: suite) pos']) (SP X pins D) X.xe s₃) X.xe s₂) X.xe s₁) ?air PassesOwn.looking).run [] s σ H D (I.toTry _) asks
  case air =>
    intro u s1 flown
    obtain ⟨a, ground, s0, pins0, σ1, H1, cls, d, rfl, inTry, stays, slots, sky, na, os, bare, hit, go⟩ := flown
    have J : Inv X pins σ1 H1 s0 := inTry.ofTry ok
    have gone : ground.get? a = none := by
      rcases sky with z | z | z
      · exact z.2.1
      · exact z.2.1
      · exact z.2.1
    have apart0 : ∀ {b : Addr} {o : Obj}, s0.heap.get? b = some o → b ∉ frs X.stack → b ≠ a := fun e nb z => by
      have := stays _ _ e nb
      rw [z, gone] at this
      cases this
    have offStack : ∀ {b : Addr}, b ≠ X.env.locals → b ∉ X.fs → b ∉ frs X.stack := fun n1 n2 m => by
      rw [hs] at m
      obtain ⟨e, me, he⟩ := List.mem_filterMap.mp m
      rcases List.mem_cons.mp me with rfl | me
      · rw [hf] at he
        exact n1 (Option.some.inj he).symm
      · exact n2 (List.mem_filterMap.mpr ⟨e, me, he⟩)
    rw [hs] at sky
    change wpAny _ X.A (noteFrame (Value.ref a) X.env) _ _ s1
    apply Sky.land Zc.steady frames hf sky
    intro h3 fly3 slots3
    have J3 : Inv X pins σ1 H1 { s1 with heap := h3 } := J.landed stays fly3.1 (slots.trans slots3) os bare
    obtain ⟨o3, v3, e3, z3, d3⟩ := fly3.there
    have notFrame : ∀ {h : Heap} {o : Obj} {v : Array Value}, h.FunFrames ground (X.env :: X.outer) → h.get? a = some o → o.data = .fields v → a ∉ frs (X.env :: X.outer) := fun ff e dd m => by
      obtain ⟨_, o', e', no⟩ := ff.mem m
      obtain rfl := Option.some.inj (e.symm.trans e')
      exact no _ dd
    have off := notFrame fly3.2.2.1 e3 d3
    have nl : a ≠ X.env.locals := fun z => off (List.mem_filterMap.mpr ⟨X.env, List.mem_cons_self, by rw [hf, z]⟩)
    have nf : a ∉ X.fs := fun m => by
      obtain ⟨e, me, q⟩ := List.mem_filterMap.mp m
      exact off (List.mem_filterMap.mpr ⟨e, List.mem_cons_of_mem _ me, q⟩)
    have inSuite := J3.suite e3 d3 na nl nf
    have new : ∀ o, X.s_0.heap.get? a = some o → X.H_0 a ≠ none := fun o e0 h0 => by
      have := J.base.keep a o e0 h0 nf (by rw [hx]; exact List.not_mem_nil)
      exact apart0 this (offStack nl nf) rfl
    have apart : ∀ p ∈ X.pn ++ pins, p.1 ≠ a := fun p m => by
      obtain ⟨p1, _, p3, p4, _⟩ := J.pin p m
      exact apart0 p1 (offStack p3 p4)
    apply wpAny_handleBy_cons (codeAny_handlers_test ?asked) (by intro q; cases q)
    have kind : PySem.W.Looks (model X.prog X.w) h3 (typeOf (.ref a)) cls := fun A Q E s k q => wpAny_typeOf_ref (k _ _ e3) (by rw [z3.1]; exact q)
    have fits := PySem.W.exm_one (M := model X.prog X.w) J3.kIn kind hit
    have named : ∀ {Q E : Value → Shared → Prop}, Q c { s1 with heap := h3 } → wpAny (model X.prog X.w) (X.A.mark (some (.ref a))) (eval (.Name x np) X.env) Q E { s1 with heap := h3 } := fun {Q E} q => by
      obtain ⟨glob, plain, here | ⟨absent, boot, notName⟩⟩ := hc
      · exact ld_glob (X := X.suite a ((a, o3) :: (X.pn ++ pins))) inSuite glob here q plain
      · exact ld_blt (X := X.suite a ((a, o3) :: (X.pn ++ pins))) inSuite glob absent boot q notName plain
    apply named
    apply fits.here
    apply codeAny_handlers_suite_as
    apply HandSPX.lands_againZ fly3
    intro h4 fly4 slots4
    have J4 : Inv X pins σ1 H1 { s1 with heap := h4 } := J.landed stays fly4.1 ((slots.trans slots3).trans slots4) os bare
    obtain ⟨o4, v4, e4, z4, d4⟩ := fly4.there
    have start4 := J4.suite e4 d4 na nl nf
    apply store_ok (X := X.suite a ((a, o4) :: (X.pn ++ pins))) (v := .ref a) start4 hN hi (.inl hln) rfl ?_ (.inr hln)
    intro s5 I5
    refine wpAny_mono ((hsu a o4 cls d (X.pn ++ pins) z4 ⟨_, d4⟩).run [] s5 _ H1 _ I5 (go a na)) (fun flow s6 told => ?_) fun _ _ no => no.elim
    cases flow with
    | next =>
      obtain ⟨σ6, H6, I6, q6⟩ := told
      have P6 := I6.pin (a, o4) (List.mem_append_left _ List.mem_cons_self)
      exact gone_ok (pin_more (I6.unsuite ok) P6.1 P6.2.1 nl nf P6.2.2.2.2) hN hi hln fun s7 I7 => ⟨_, _, note_exc I7 z4 d4 new apart, q6⟩
    | brk =>
      obtain ⟨_, _, _, no⟩ := told
      exact no.elim
    | cont =>
      obtain ⟨_, _, _, no⟩ := told
      exact no.elim
    | ret u =>
      obtain ⟨_, _, _, _, _, no⟩ := told
      exact no.elim
  refine wpAny_mono run (fun flow s1 told => ?_) fun _ _ err => err
  cases flow with
  | next =>
    obtain ⟨σ1, H1, I1, q1⟩ := told
    exact wpAny_execs_nil ⟨σ1, H1, I1.ofTry ok, q1⟩
  | brk =>
    obtain ⟨σ1, H1, I1, q1⟩ := told
    exact ⟨σ1, H1, I1.ofTry ok, q1⟩
  | cont =>
    obtain ⟨σ1, H1, I1, q1⟩ := told
    exact ⟨σ1, H1, I1.ofTry ok, q1⟩
  | ret u =>
    obtain ⟨v, σ1, H1, I1, r1, q1⟩ := told
    exact ⟨v, σ1, H1, I1.ofTry ok, r1, q1⟩
end
end El
namespace El
open PySem PySem.Spec PyProof.Rows L2
/-! ### such an exception asked: its class, its value -/
/-- of the class at D, its dict at dd with the value v in it -/
structure ExcAt (K : PySem.W.Frag) (mg : Str → Option Value) (H : Hp) (a D : Addr) (v : V) : Prop where
  ex : ∃ (x : Str) (fI dd : Addr), H a = some (Exc a (.ref D) (some dd)) ∧ H dd = some (.xd [(("what" : Str), v)]) ∧ Own K mg x D fI
theorem ExcAt.keep {K : PySem.W.Frag} {mg : Str → Option Value} {H H' : Hp} {a D : Addr} {v : V} (h : ExcAt K mg H a D v) (k : Same H H') : ExcAt K mg H' a D v :=
  let ⟨x, fI, dd, e, ed, O⟩ := h.ex
  ⟨x, fI, dd, k _ _ e, k _ _ ed, O⟩
section
variable {X : Cx} {pins : List (Addr × Obj)} {σ : L2.St} {H : Hp} {s : Shared}
theorem exc_inst {a D dd : Addr} {fs : List (Str × V)} (I : Inv X pins σ H s) (e : H a = some (Exc a (.ref D) (some dd))) (ed : H dd = some (.xd fs)) :
    ∃ (oe : Obj) (od : Obj) (mA : Str → Option Value), PySem.W.InstAt s.heap a oe D (some od) ∧ (∀ f, RelO (fs.lookup f) (mA f)) ∧ ∀ f, PySem.W.lookIn f od = some (mA f) := by
  obtain ⟨⟨oe, vs, here, ⟨hc, hdict⟩, hdata⟩, _⟩ := (show ObjOk X.prog X.w H s.heap a (Exc a (.ref D) (some dd)) from I.hok a _ e)
  obtain ⟨mA, names, rel⟩ := (show ObjOk X.prog X.w H s.heap dd (.xd fs) from I.hok dd _ ed)
  obtain ⟨od, look, same⟩ := lookIn_ns names
  exact ⟨oe, od, mA, ⟨here, hc, by unfold PySem.W.notCls; rw [hdata] <;> rfl, by rw [hdict]; exact look⟩, rel, fun f => same f⟩
/-- isinstance(e, c), isinstance(e, (c1, ..)) -/
def rIsE (K : PySem.W.Frag) (mg : Str → Option Value) : List V → Hp → VK → Prop := fun xs H Q => ∃ (a D : Addr) (v : V), ExcAt K mg H a D v ∧ IsX K ∧ (rIsD K D a xs H Q ∨ rIsT K D a xs H Q)
theorem call_isE (K : PySem.W.Frag) (mg : Str → Option Value) (e : X.K = K := by rfl) (e2 : X.mg = mg := by rfl) : CallR X (.builtin "isinstance") (rIsE K mg) := by
  subst e e2
  intro pins s σ H xs us Q I rel asks
  obtain ⟨a, D, v, ⟨x, fI, dd, ea, ed, T⟩, J, asks⟩ := asks
  obtain ⟨oe, od, mA, here, _, _⟩ := exc_inst I ea ed
  have kit := own_kit (a := a) (oe := oe) (od := some od) T J
  rcases asks with ⟨c, cv, b, rfl, one, told, q⟩ | ⟨t, cs, cvs, b, rfl, tup, all, told, q⟩
  · obtain ⟨u1, u2, rfl, r1, r2⟩ := vals2 rel
    obtain rfl : u1 = Value.ref a := r1
    obtain rfl := one _ r2
    exact PySem.W.kia_one kit I.kIn here told (fun z => nomatch z) fun tk => ⟨.bl b, H, I.kept (t' := tk) fun _ _ z => z, rfl, q⟩
  · obtain ⟨u1, u2, rfl, r1, r2⟩ := vals2 rel
    obtain rfl : u1 = Value.ref a := r1
    obtain rfl : u2 = Value.ref t := r2
    obtain ⟨its, vals, ⟨⟨oc, od', oda, osl⟩, here2, hc, n, hd⟩, _⟩ := I.tuple tup
    obtain rfl := all _ vals
    dsimp only at hc hd
    subst hc hd
    exact PySem.W.kia_tup kit I.kIn here here2 told (fun z => nomatch z) fun tk => ⟨.bl b, H, I.kept (t' := tk) fun _ _ z => z, rfl, q⟩
/-- e.what -/
def tWhat (K : PySem.W.Frag) (mg : Str → Option Value) (te : TE) : TE := fun σ H Q => te σ H fun x H1 => ∃ (a D : Addr) (v : V), x = .ref a ∧ ExcAt K mg H1 a D v ∧ Q v H1
theorem pe_what {e : Expr} {te : TE} {pos : Pos} (K : PySem.W.Frag) (mg : Str → Option Value) (he : PE X e te) (eK : X.K = K := by rfl) (e2 : X.mg = mg := by rfl) (hb : attributeBase e "what" X.env (eval e X.env) = eval e X.env := by rfl) :
    PE X (.Attribute e "what" pos) (tWhat K mg te) := by
  subst eK e2
  constructor
  intro pins s σ H Q I asks
  apply attr_of hb
  refine wpAny_mono (he.run pins s σ H _ I asks) (fun u s1 got => ?_) fun _ _ err => err
  obtain ⟨x, H1, I1, rx, a, D, v, rfl, ⟨xn, fI, dd, ea, ed, T⟩, q⟩ := got
  obtain rfl : u = Value.ref a := rx
  obtain ⟨oe, od, mA, here, rel, same⟩ := exc_inst I1 ea ed
  obtain ⟨u, hu, ru⟩ := RelO.some_of (v := v) (o := mA ("what" : Str)) (by
    have := rel "what"
    exact this)
  exact HandSPX.exc_get I1.kIn here T.xf.ga T.xf.gg T.xf.exC (PySem.W.findObj_own T.xf.hdC T.no rfl (by rw [same, hu])) (handed_of ru) ⟨v, H1, I1.tok _, ru, q⟩
end
end El
namespace El
open PySem PySem.Spec PyProof.Rows L2
/-! ### an exception of the text's own, made and kept as a value -/
section
variable {X : Cx} {pins : List (Addr × Obj)} {σ : L2.St} {H : Hp} {s s1 : Shared}
/-- nothing but the heap, the system and the generators' bareness is asked of a state -/
theorem inv_other (I : Inv X pins σ H s) (hh : s1.heap = s.heap) (ho : s1.os = s.os) (hb : AllBare s1.gens) : Inv X pins σ H s1 := by
  obtain ⟨h, g, d, t, o⟩ := s
  obtain ⟨h1, g1, d1, t1, o1⟩ := s1
  obtain rfl : h1 = h := hh
  obtain rfl : o1 = o := ho
  exact ⟨I.ok, I.os, hb, I.base, I.loc, I.cell, I.free, I.freeC, I.pin, I.hok, I.len⟩
/-- what makes an exception, as a value -/
def tMade (t : L2.St → Hp → XK → Prop) : TE := fun σ H Q => t σ H fun cls d H' => ∀ a, H' a = none → Q (.ref a) (upd H' a (Exc a cls d))
theorem pe_made {e : Expr} {t : L2.St → Hp → XK → Prop} (hm : PMk X e t) : PE X e (tMade t) := by
  refine ⟨fun pins s σ H Q I h => wpAny_mono (hm pins s σ H _ I h) (fun u s' hu => ?_) fun _ _ z => z⟩
  obtain ⟨a, oe, vs, sI, H', cls, d, rfl, J, k, no, yes, zc, dd, _, na, ho, hb, _, q⟩ := hu
  have J2 : Inv X pins σ H' { s' with heap := sI.heap } := inv_other J rfl ho hb
  exact ⟨.ref a, _, J2.laidN (h' := s'.heap) (t' := s'.toks) k no na (show ObjOk X.prog X.w _ s'.heap a (Exc a cls d) from ⟨⟨oe, vs, yes, zc, dd⟩, ⟨oe, yes⟩, fun h1 h2 ⟨o, v, q1, q2⟩ kk => ⟨o, v, kk o q1, q2⟩⟩), rfl, q a na⟩
end
section
variable {X : Cx} {C : Addr} {x : Str} {e : Expr} {ta : TA} {p pos : Pos}
/-- C(e), C a class whose __init__ keeps what it is given -/
def tErr (K : PySem.W.Frag) (mg : Str → Option Value) (C : Addr) (ta : TA) : TE := fun σ H Q => ta σ H fun vs H1 => ∃ v, vs = [v] ∧ RdW H1 v ∧ ∀ (a : Addr) (H2 : Hp), Same H1 H2 → H1 a = none → ExcAt K mg H2 a C v → Q (.ref a) H2
theorem pe_err (K : PySem.W.Frag) (mg : Str → Option Value) (O : OwnW X.prog X.w X.K X.mg X.base x C) (hr : Room 2 X.A) (ha : PA X [e] ta) (hg : Gl X x) (eK : X.K = K := by rfl) (eM : X.mg = mg := by rfl) (hdb : (x == ("__debug__" : Str)) = false := by decide)
    (he : starEach [e] X.env = (false, eval e X.env) :: starEach [] X.env := by rfl) (hpl : (backTo pos (starEach [] X.env)).any (·.1) = false := by rfl) :
    PE X (.Call (.Name x p) [e] [] pos) (tErr K mg C ta) := by
  subst eK eM
  obtain ⟨fI, fd, T, F, b⟩ := O.ex
  refine ⟨fun pins s σ H Q I h => ?_⟩
  refine (pe_made (pmk_oex T.o T.iC T.tI F hr b .nil pass0 hg T.g (pa_on ha h) hdb he hpl)).run pins s σ H Q I ⟨rfl, rfl, fun vs H1 ⟨v, ev, rv, q⟩ => ?_⟩
  subst ev
  refine ⟨by show 1 ≤ 1000; decide, fun a na => ⟨a, C, v, rfl, T.o, T.no, upd_same, rv.same (same_new na), fun d nd da => ⟨rfl, d, _, upd_same, by rw [upd_ne da, upd_same], ?_, fun c nc => ?_⟩⟩⟩
  · rw [upd_ne da] at nd
    exact nd
  · rw [mk_heap na da] at nc ⊢
    have nd1 : H1 d = none := by
      rw [upd_ne da] at nd
      exact nd
    have s1 := same_new (o := .xd [(("what" : Str), v)]) nd1
    have s2 := same_new (o := Exc c (.ref C) (some d)) nc
    exact q c _ (s1.trans s2) (s1.free nc) ⟨x, fI, d, upd_same, s2 _ _ (show upd H1 d (.xd [(("what" : Str), v)]) d = _ from upd_same), T⟩
end
end El
namespace El
open PySem PySem.Spec PyProof.Rows L2 HotX
/-! ### a list's iterator at its end, where an exception is handled -/
section
variable {prog : Program} {w : World} {A : Around} {E : Value → Shared → Prop} {s : Shared} {x1 : Addr}
theorem stop_hot {α : Type} {Q : α → Shared → Prop} (hot : HotAt A x1 s.heap) (hE : ∀ (h : Heap) (a : Addr), (∀ b o, s.heap.get? b = some o → h.get? b = some o) → (∃ o, h.get? a = some o ∧ o.cls = .type "StopIteration") → E (.ref a) { s with heap := h }) :
    wpAny (model prog w) A (Builtin.SmallTypes.stopIteration : Sem α) Q E s := by
  obtain ⟨hp, g, d, t, os⟩ := s
  obtain ⟨hh, o1, vs1, e1, d1, c1⟩ := hot
  unfold Builtin.SmallTypes.stopIteration newExc newTuple
  wp_walk
  have up : ∀ {b o} (u v : Obj), hp.get? b = some o → ((hp.push u).push v).get? b = some o := fun _ _ e => Heap.get?_push_of_some _ (Heap.get?_push_of_some _ e)
  have old : x1 < (hp.push { cls := .type "tuple", data := .seq #[] }).objs.size := Heap.lt_size (Heap.get?_push_of_some _ e1)
  refine raiseNew_hot ⟨hh, o1, vs1, up _ _ e1, d1, c1⟩ (Nat.ne_of_lt old) (Heap.get?_push_size _ rfl) rfl (by simp only [Array.size_append]; exact Nat.lt_of_lt_of_le (by decide : 2 < 6) (Nat.le_add_right _ _)) (hE _ _ (fun b o e => ?_) ⟨_, Heap.get?_update_self _ (Heap.get?_push_size _ rfl) rfl, rfl⟩)
  have e2 := Heap.get?_push_of_some { cls := .type "tuple", data := .seq #[] } e
  rw [Heap.get?_update_other _ _ (Nat.ne_of_gt (Heap.lt_size e2))]
  exact up _ _ e
theorem next_end_hot {it l : Addr} {i : Nat} {items : Array Value} {Q : Option Value → Shared → Prop} (hot : HotAt A x1 s.heap) (hit : s.heap.IsListIter it l i) (hl : s.heap.IsList l items) (hx : items[i]? = none)
    (q : ∀ h, (∀ b o, b ≠ it → s.heap.get? b = some o → h.get? b = some o) → Q none { s with heap := h }) : wpAny (model prog w) A (pyNext (.ref it)) Q E s := by
  obtain ⟨o, ho, hc, hd⟩ := id hit
  obtain ⟨ol, hol, _, nl, hdl⟩ := hl
  have apart : x1 ≠ it := fun z => by
    obtain ⟨_, o1, vs1, e1, d1, c1⟩ := hot
    rw [z, ho] at e1
    obtain rfl : o = o1 := Option.some.inj e1
    rw [hd] at d1
    obtain rfl := Data.fields.inj d1
    cases c1
  unfold pyNext
  refine wpAny_bind (wpAny_attempt (wpAny_callSpecial?_slot (name := Str.ofString "__next__") hit.typeIs slot_listiter_next (wpAny_call_entry slot_listiter_next hit.typeIs entry_listiter_next ?_ (args_listiter_next _))))
  refine (?_ : wpAny _ _ (field (.ref it) 0 >>= _) _ _ s)
  refine wpAny_bind (wpAny_field ho hd (x := .ref l) rfl ?_)
  wp_walk
  rw [hd]
  wp_walk
  rw [hdl]
  refine wpAny_pure ?_
  have none_there : items[(i : Int).toNat]? = none := hx
  dsimp only
  rw [none_there]
  dsimp only
  refine wpAny_bind (wpAny_rule (wpAny_bind (wpAny_setField ho hd (by show 0 < 2; decide) ?_)))
  obtain ⟨hh, o1, vs1, e1, d1, c1⟩ := hot
  refine stop_hot (A := A.in1) (x1 := x1) ⟨hh, o1, vs1, ?_, d1, c1⟩ fun h a up ⟨ox, hox, hcx⟩ => ?_
  · show (s.heap.update it _).get? x1 = some o1
    rw [Heap.get?_update_other _ _ apart.symm]
    exact e1
  · refine wpAny_bind (wpAny_isInstance (T := "StopIteration") (b := true) ⟨ox, hox, hcx⟩ isSubtype_stop (wpAny_pure (q h fun b o nb e => up b o ?_)))
    show (s.heap.update it _).get? b = some o
    rw [Heap.get?_update_other _ _ nb.symm]
    exact e
end
end El
namespace El
open PySem PySem.Spec PyProof.Rows L2 HotX
/-! ### a tuple taken apart there -/
section
variable {prog : Program} {w : World} {A : Around} {E : Value → Shared → Prop} {s : Shared} {x1 : Addr}
theorem tup_end_hot {it t : Addr} {i : Nat} {items : Array Value} {Q : Option Value → Shared → Prop} (hot : HotAt A x1 s.heap) (hit : IsTupIter s.heap it t i) (ht : IsTup s.heap t items) (hx : items[i]? = none)
    (q : ∀ h, (∀ b o, b ≠ it → s.heap.get? b = some o → h.get? b = some o) → Q none { s with heap := h }) : wpAny (model prog w) A (pyNext (.ref it)) Q E s := by
  obtain ⟨o, ho, hc, hd⟩ := id hit
  obtain ⟨ot, hot', _, nt, hdt⟩ := ht
  have apart : x1 ≠ it := fun z => by
    obtain ⟨_, o1, vs1, e1, d1, c1⟩ := hot
    rw [z, ho] at e1
    obtain rfl : o = o1 := Option.some.inj e1
    rw [hd] at d1
    obtain rfl := Data.fields.inj d1
    cases c1
  unfold pyNext
  refine wpAny_bind (wpAny_attempt (wpAny_callSpecial?_slot (name := Str.ofString "__next__") hit.typeIs slot_tupleiter_next (wpAny_call_entry slot_tupleiter_next hit.typeIs entry_tupleiter_next ?_ (args_tupleiter_next _))))
  refine (?_ : wpAny _ _ (field (.ref it) 0 >>= _) _ _ s)
  refine wpAny_bind (wpAny_field ho hd (x := .ref t) rfl ?_)
  wp_walk
  rw [hd]
  wp_walk
  rw [hdt]
  refine wpAny_pure ?_
  have none_there : items[(i : Int).toNat]? = none := hx
  dsimp only
  rw [none_there]
  dsimp only
  refine wpAny_bind (wpAny_rule (wpAny_bind (wpAny_setField ho hd (by show 0 < 2; decide) ?_)))
  obtain ⟨hh, o1, vs1, e1, d1, c1⟩ := hot
  refine stop_hot (A := A.in1) (x1 := x1) ⟨hh, o1, vs1, ?_, d1, c1⟩ fun h a up ⟨ox, hox, hcx⟩ => ?_
  · show (s.heap.update it _).get? x1 = some o1
    rw [Heap.get?_update_other _ _ apart.symm]
    exact e1
  · refine wpAny_bind (wpAny_isInstance (T := "StopIteration") (b := true) ⟨ox, hox, hcx⟩ isSubtype_stop (wpAny_pure (q h fun b o nb e => up b o ?_)))
    show (s.heap.update it _).get? b = some o
    rw [Heap.get?_update_other _ _ nb.symm]
    exact e
theorem apart_hot {t : Addr} {items : Array Value} {targets : List (Bool × (Value → Sem Unit))} {Q : Unit → Shared → Prop} (hot : HotAt A x1 s.heap) (ht : IsTup s.heap t items) (hn : targets.length = items.size) (hs : targets.findIdx? (·.1) = none)
    (q : ∀ h, (∀ b o, s.heap.get? b = some o → h.get? b = some o) → wpAny (model prog w) A (assignInOrder (targets.map (·.2)) items.toList) Q E { s with heap := h }) : wpAny (model prog w) A (unpack (.ref t) targets) Q E s := by
  have old : t < s.heap.objs.size := let ⟨_, e, _⟩ := ht; Heap.lt_size e
  unfold unpack
  rw [hn, hs]
  refine wpAny_bind (wpAny_holding ?_)
  unfold unpackItems notIterableAtAll
  refine wpAny_bind (wpAny_bind (wpAny_specialOf ht.typeIs slot_tuple_iter.lookup (wpAny_pure ?_)))
  rw [if_neg (by decide)]
  refine wpAny_bind (wpAny_holding (iter_tuple ht (wpAny_bind (wpAny_holding (draw_tuple (Nat.ne_of_lt old) items.size 0 _ _ ⟨_, Heap.get?_push_size _ rfl, rfl, rfl⟩ (ht.push _) (by omega) fun h1 hit1 sb1 => ?_)))))
  have whole : (items.toList.drop 0).take (0 + items.size - 0) = items.toList := by
    rw [List.drop_zero]
    exact List.take_of_length_le (by simp)
  have whole' : (items.toList.drop 0).take items.size = items.toList := by
    rw [List.drop_zero]
    exact List.take_of_length_le (by simp)
  rw [whole', if_neg (by simp)]
  have kept : ∀ b o, s.heap.get? b = some o → h1.get? b = some o := fun b o e => (sb1.2 b (Nat.ne_of_lt (Heap.lt_size e))).trans (Heap.get?_push_of_some _ e)
  have ht1 : IsTup h1 t items := let ⟨o, e, r⟩ := ht; ⟨o, kept _ _ e, r⟩
  obtain ⟨hh, o1, vs1, e1, d1, c1⟩ := hot
  refine wpAny_bind (wpAny_holding (tup_end_hot (x1 := x1) ⟨hh, o1, vs1, kept _ _ e1, d1, c1⟩ hit1 ht1 (by simp) fun h2 k2 => ?_))
  rw [if_neg (by decide)]
  exact wpAny_pure (q h2 fun b o e => k2 b o (Nat.ne_of_lt (Heap.lt_size e)) (kept b o e))
end
end El
namespace El
open PySem PySem.Spec PyProof.Rows L2 HotX L2H
/-! ### [e for t in l if c] where an exception is handled -/
/-- the one that is handled stands, whatever else is so -/
def HotBlk (Y : Cx) : Prop := ∀ (pins : List (Addr × Obj)) (σ : L2.St) (H : Hp) (s : Shared), Inv Y pins σ H s → ∃ x1, HotAt Y.A x1 s.heap
theorem HotC.blk {X : Cx} (h : HotC X) : HotBlk X := fun _ _ _ _ I => h.at I
/-- a, b = a tuple, there -/
theorem pgTupH {X : Cx} {es : List Expr} {k : Nat} {t : TGs} {pos : Pos} (K : PySem.W.Frag) (n : Nat) (hot : HotBlk X) (h : PGs X es t) (hn : (assignEach es X.env).length = n := by rfl) (hst : (assignEach es X.env).findIdx? (·.1) = none := by rfl) (e : X.K = K := by rfl) :
    PG X (.Tuple es k pos) (gTup K n t) := by
  subst e
  constructor
  intro pins s σ H v u Q I r asks
  obtain ⟨a, xs, rfl, hq, ln, asks⟩ := asks
  obtain rfl : u = Value.ref a := r
  obtain ⟨its, rv, tup, _⟩ := I.tuple hq
  obtain ⟨x1, hx⟩ := hot pins σ H s I
  rw [assign_Tuple]
  refine wpAny_bind (wpAny_standAt (apart_hot hx tup ?_ hst fun h2 up => ?_))
  · rw [hn, ← ln, rv.length]
    rfl
  · exact h.run pins _ σ H xs _ Q (I.kept (t' := s.toks) up) rv asks
/-- what a turn over the list at a is to reach, D the new list -/
def RunL (K : PySem.W.Frag) (a D : Addr) (g : TG) (tt : TT) (te : TE) (vs : List Nat) (σ : L2.St) (W : Nat → Nat → Hp → Prop) (Qe : Hp → Prop) : Prop := ∀ k m H, W k m H →
  ((Itl K a).stop k H ∧ Qe H) ∨ ((Itl K a).go k H ∧ ∃ Nx : Hp → Prop, (∀ H', Nx H' → ∃ m', m' < m ∧ W (k + 1) m' H') ∧ ∀ x H', (Itl K a).yld k H x H' → g x (wipe σ vs) H' fun σ2 H2 => wipe σ2 vs = wipe σ vs ∧ tt σ2 H2 fun b H3 =>
    if b = true then te σ2 H3 fun y H4 => ∃ acc, H4 D = some (.lst acc) ∧ acc.length < sizeLine ∧ Nx (upd H4 D (.lst (acc ++ [y]))) else Nx H3)
section
variable {Y : Cx} {it a D x1 : Addr} {R : Result → Shared → Prop} {elt tg iter : Expr} {ifs : List Expr} {scope : Scope} {pos : Pos} {g : TG} {tt : TT} {te : TE} {vs : List Nat} {σ : L2.St} {W : Nat → Nat → Hp → Prop} {Qe : Hp → Prop}
/-- the iterator turned, all else as it was -/
theorem Inv.iterAt {σ1 : L2.St} {H : Hp} {s : Shared} {h : Heap} (I : Inv Y [] σ1 H s) (f : FpOk Y [] H it) (k : ∀ b o, b ≠ it → s.heap.get? b = some o → h.get? b = some o) : Inv Y [] σ1 H { s with heap := h } :=
  I.turned (t' := s.toks) k f.1 f.2.1 f.2.2.2.1 f.2.2.2.2.1 f.2.2.2.2.2
theorem loop_hot (hot : ∀ σ1 H s, Inv Y [] σ1 H s → HotAt Y.A x1 s.heap) (fy : ∀ H : Hp, H it = none → FpOk Y [] H it) (no : Y.xe = fun _ _ => False) (pg : PG Y tg g) (pt : PTs Y ifs tt) (pe : PE Y elt te) (run : RunL Y.K a D g tt te vs σ W Qe)
    (fin : ∀ H s, Inv Y [] (wipe σ vs) H s → H it = none → Qe H → R (.ok .next) s) {m k : Nat} {H : Hp} {s : Shared} (I : Inv Y [] (wipe σ vs) H s) (st : s.heap.IsListIter it a k) (n : H it = none) (w : W k m H) :
    codeAny (model Y.prog Y.w) Y.A (.compLoop (.ListComp elt [⟨tg, iter, ifs, 0⟩] scope pos) 0 (.ref it) (.ref D) Y.env) R s := by
  have quiet : ∀ {α : Type} {t : Sem α} {P Q : α → Shared → Prop} {E : Value → Shared → Prop} {s : Shared}, wpAny (model Y.prog Y.w) Y.A t P Y.xe s → (∀ u s1, P u s1 → Q u s1) → wpAny (model Y.prog Y.w) Y.A t Q E s := fun h q => wpAny_mono h q fun e s1 z => by
    rw [no] at z
    exact z.elim
  refine compLoop_any (fun j s' => ∃ k H', Inv Y [] (wipe σ vs) H' s' ∧ s'.heap.IsListIter it a k ∧ H' it = none ∧ W k j H') (fun j s' ⟨k, H', J, stj, nj, wj⟩ => ?_) m ⟨k, H, I, st, n, w⟩
  rcases run k j H' wj with ⟨⟨xs, hq, hx⟩, qe⟩ | ⟨⟨xs, x, hq, hx⟩, Nx, next, step⟩
  · obtain ⟨its, rv, pl, _⟩ := J.list hq
    have out : its.toArray[k]? = none := by
      rw [List.getElem?_toArray]
      exact List.getElem?_eq_none (by rw [← rv.length]; exact hx)
    exact next_end_hot (hot _ _ _ J) stj pl.isList out fun h kp => fin H' _ (Inv.iterAt J (fy _ nj) kp) nj qe
  · obtain ⟨its, rv, pl, _⟩ := J.list hq
    obtain ⟨u, eu, ru⟩ := rv.get hx
    refine wpAny_pyNext_list_item stj pl.isList (x := u) (by rw [List.getElem?_toArray]; exact eu) fun h sth sb => ?_
    have J1 := Inv.iterAt J (fy _ nj) fun b o nb e => (sb.2 b nb).trans e
    obtain ⟨oi, ei, ci, di⟩ := id sth
    refine go_of (s := { s' with heap := h }) ei ci di (by decide) ?_
    -- the iterator pinned while the turn runs
    have nc : ∀ v, oi.data ≠ .cell v := fun v z => by
      rw [di] at z
      cases z
    have J2 : Inv Y [(it, oi)] (wipe σ vs) H' { s' with heap := h } := J1.pins_of fun p hp => by
      rw [List.mem_singleton.mp hp]
      exact ⟨ei, nj, (fy _ nj).2.1, (fy _ nj).2.2.1, nc⟩
    refine quiet (pg.run _ _ _ _ x u _ J2 ru (step x H' ⟨rfl, fun ys hy => by rw [J.list_inj hy hq]; exact hx⟩)) fun _ s2 ⟨σ2, H2, I2, eσ, q2⟩ => ?_
    refine quiet (pt.run _ _ _ _ _ I2 q2) fun b s3 ⟨H3, I3, q3⟩ => ?_
    have again : ∀ {s4 : Shared} {H4 : Hp}, Inv Y [(it, oi)] σ2 H4 s4 → Nx H4 → ∃ j', j' < j ∧ ∃ k H', Inv Y [] (wipe σ vs) H' s4 ∧ s4.heap.IsListIter it a k ∧ H' it = none ∧ W k j' H' := fun {s4 H4} I4 nx => by
      obtain ⟨j', lt, w'⟩ := next H4 nx
      obtain ⟨e4, n4, _⟩ := I4.pin (it, oi) (List.mem_append_right _ (List.mem_singleton.mpr rfl))
      have ln : (wipe σ vs).length = σ2.length := by rw [← eσ, wipe_length]
      have I5 : Inv Y [] σ2 H4 s4 := I4.pins_of fun p hp => absurd hp (by simp)
      exact ⟨j', lt, k + 1, H4, I5.weak ln (fun i v e => (wipe_some (eσ ▸ e)).1), ⟨oi, e4, ci, di⟩, n4, w'⟩
    cases b with
    | false => exact again I3 q3
    | true =>
      refine quiet (pe.run _ _ _ _ _ I3 q3) fun y s4 ⟨yv, H4, I4, r4, acc, eD, lt, nx⟩ => ?_
      exact app_ok I4 eD lt r4 fun s5 I5 => again I5 nx
end
section
variable {X : Cx} {elt tg iter : Expr} {ifs : List Expr} {scope : Scope} {own : List (Str × Nat)} {pos : Pos} {g : TG} {tt : TT} {te te0 : TE}
theorem blk_run {pins : List (Addr × Obj)} {σ : L2.St} {H3 : Hp} {s3 : Shared} {Q : VK} {it a D : Addr} {m : Nat} {W : Nat → Nat → Hp → Prop} (hc : HotC X) (hN : X.N.Nodup) (ok : BlkOk X.N X.env.scope scope own) (hg : ∀ (s : Shared) (H : Hp) (C : Addr) (cl : List (Str × Addr)) (fp : List Addr), HotBlk (X.blk s H scope (compEnvC scope cl C X.env) fp) → PG (X.blk s H scope (compEnvC scope cl C X.env) fp) tg g)
    (ht : ∀ (s : Shared) (H : Hp) (C : Addr) (cl : List (Str × Addr)) (fp : List Addr), PTs (X.blk s H scope (compEnvC scope cl C X.env) fp) ifs tt) (he : ∀ (s : Shared) (H : Hp) (C : Addr) (cl : List (Str × Addr)) (fp : List Addr), PE (X.blk s H scope (compEnvC scope cl C X.env) fp) elt te)
    (I : Inv X pins σ H3 s3) (st : s3.heap.IsListIter it a 0) (f : FpOk X pins H3 it) (w0 : W 0 m H3) (run : RunL X.K a D g tt te (own.map (·.2)) σ W fun H => Q (.ref D) H) :
    codeAny (model X.prog X.w) X.A (.compStart (.ListComp elt [⟨tg, iter, ifs, 0⟩] scope pos) 0 (.ref it) (.ref D) (compEnvC scope (cellsFrom (s3.heap.objs.size + 1) scope.names (cloFrom X.env.cells scope.names [])) s3.heap.objs.size X.env))
      (compPost (model X.prog X.w) X.A X.xe none (EP X pins σ Q) (.ref D) s3.heap.objs.size) { s3 with heap := pushCells (s3.heap.push { cls := .type "dict", data := .dict #[] }) scope.names } := by
  obtain ⟨oi, ei, ci, di⟩ := id st
  have lit : it < s3.heap.objs.size := Heap.lt_size ei
  have I4 := block_start (fp := [it]) I ok hN fun b hb => by
    rw [List.mem_singleton.mp hb]
    exact ⟨f, lit⟩
  have st4 : (pushCells (s3.heap.push { cls := .type "dict", data := .dict #[] }) scope.names).IsListIter it a 0 := ⟨oi, pushCells_keeps _ _ _ _ (Heap.get?_push_of_some _ ei), ci, di⟩
  obtain ⟨ce, ece⟩ : ∃ ce, ce = compEnvC scope (cellsFrom (s3.heap.objs.size + 1) scope.names (cloFrom X.env.cells scope.names [])) s3.heap.objs.size X.env := ⟨_, rfl⟩
  have pg0 := hg s3 H3 s3.heap.objs.size (cellsFrom (s3.heap.objs.size + 1) scope.names (cloFrom X.env.cells scope.names [])) [it]
  have pt := ht s3 H3 s3.heap.objs.size (cellsFrom (s3.heap.objs.size + 1) scope.names (cloFrom X.env.cells scope.names [])) [it]
  have pe := he s3 H3 s3.heap.objs.size (cellsFrom (s3.heap.objs.size + 1) scope.names (cloFrom X.env.cells scope.names [])) [it]
  have cL : ce.locals = s3.heap.objs.size := by
    rw [ece]
    rfl
  rw [← ece] at I4 pg0 pt pe ⊢
  clear ece
  have mit : it ∈ (X.blk s3 H3 scope ce [it]).ex := List.mem_singleton.mpr rfl
  have fy : ∀ H : Hp, H it = none → FpOk (X.blk s3 H3 scope ce [it]) [] H it := fun H n => ⟨n, (I4.ok.exf it mit).1, I4.ok.exfs it mit, .inl mit, fun x c e => (I4.ok.exf it mit).2 x c e, fun p hp => absurd (show p ∈ ([] : List (Addr × Obj)) ++ [] from hp) (by simp)⟩
  obtain ⟨p, ⟨hh, v1, e1, c1⟩, hp⟩ := hc
  obtain ⟨gp, np, lp, fp, _⟩ := I.pin p (List.mem_append_left _ hp)
  have pit : p.1 ≠ it := f.2.2.2.2.2 p (List.mem_append_left _ hp)
  have hot : ∀ pins1 σ1 H s, Inv (X.blk s3 H3 scope ce [it]) pins1 σ1 H s → HotAt X.A p.1 s.heap := fun _ σ1 H s J =>
    ⟨hh, p.2, v1, J.base.keep p.1 p.2 gp np (fun hm => (List.mem_cons.mp (I.stkSub p.1 hm)).elim lp fp) (fun hm => pit (List.mem_singleton.mp hm)), e1, c1⟩
  have pg := pg0 fun p1 σ1 H s J => ⟨p.1, hot p1 σ1 H s J⟩
  have loop : codeAny (model X.prog X.w) X.A (.compLoop (.ListComp elt [⟨tg, iter, ifs, 0⟩] scope pos) 0 (.ref it) (.ref D) ce) (compPost (model X.prog X.w) X.A X.xe none (EP X pins σ Q) (.ref D) s3.heap.objs.size) { s3 with heap := pushCells (s3.heap.push { cls := .type "dict", data := .dict #[] }) scope.names } :=
    loop_hot (Y := X.blk s3 H3 scope ce [it]) (hot []) fy rfl pg pt pe run (fun H s J nit qe => ?_) I4 st4 f.1 w0
  · exact codeAny_compStart_list loop (wpAny_pyIter_listiter st4 loop)
  · -- back where the def stands
    have back : Inv X pins σ H s := I.call' (ch := [it]) J.os J.base J.hok J.bare fun b hb => by
      rw [List.mem_singleton.mp hb]
      exact ⟨f.2.2.2.1, f.2.1, f.2.2.2.2.1, f.2.2.2.2.2⟩
    obtain ⟨mC, nsC, _⟩ := J.loc
    have nC : H s3.heap.objs.size = none := by
      have z : H ce.locals = none := J.free
      rw [cL] at z
      exact z
    have nsC' : s.heap.Ns ce.locals mC := nsC
    rw [cL] at nsC'
    have fC := I.fpOk (Nat.le_refl _) nC
    exact ⟨mC, nsC', fun h sb => ⟨.ref D, H, back.turned (t' := s.toks) (fun b o nb e => (sb.2 b nb).trans e) fC.1 fC.2.1 fC.2.2.2.1 fC.2.2.2.2.1 fC.2.2.2.2.2, rfl, qe⟩⟩
theorem pe_lcH (hc : HotC X) (hN : X.N.Nodup) (hi : PE X iter te0) (ok : BlkOk X.N X.env.scope scope own) (hg : ∀ (s : Shared) (H : Hp) (C : Addr) (cl : List (Str × Addr)) (fp : List Addr), HotBlk (X.blk s H scope (compEnvC scope cl C X.env) fp) → PG (X.blk s H scope (compEnvC scope cl C X.env) fp) tg g)
    (ht : ∀ (s : Shared) (H : Hp) (C : Addr) (cl : List (Str × Addr)) (fp : List Addr), PTs (X.blk s H scope (compEnvC scope cl C X.env) fp) ifs tt) (he : ∀ (s : Shared) (H : Hp) (C : Addr) (cl : List (Str × Addr)) (fp : List Addr), PE (X.blk s H scope (compEnvC scope cl C X.env) fp) elt te)
    (hs : ∀ x, foldedSetIterable iter X.env x = pure x := by intro _; rfl) : PE X (.ListComp elt [⟨tg, iter, ifs, 0⟩] scope pos) (tLc (iList X.K te0) g tt te (own.map (·.2))) := by
  refine ⟨fun pins s σ H Q I h => ?_⟩
  have open_ : ∀ y ∈ scope.names, y.2 = .free → ∃ c, X.env.cells.lookup y.1 = some c := fun y hy e => (ok.free y hy e).elim (fun z => I.ok.has _ (.inl z)) fun z => I.ok.has _ (.inr z)
  rw [eval_ListComp]
  refine wpAny_comprehension_free (use := none) rfl hs (closure_ok open_) ok.kind (fun y hy e => (ok.uniq y hy).trans (by rw [e])) (wpAny_mono (hi.run pins s σ H _ I h) (fun v s1 told => ?_) fun _ _ z => z)
  obtain ⟨x, H1, I1, rx, a, rfl, ⟨xs, hq⟩, q⟩ := told
  obtain rfl : v = Value.ref a := rx
  obtain ⟨its, rv, pl, _⟩ := I1.list hq
  refine wpAny_pyIter_list pl.isList (wpAny_newObj_type (newEnv_comp ?_) (by show 0 ≤ sizeLine; decide))
  -- the iterator
  generalize eit : s1.heap.objs.size = it
  generalize eh2 : s1.heap.push { cls := .type "list_iterator", data := .fields #[.ref a, .int 0 0] } = h2
  have up2 : ∀ b o, s1.heap.get? b = some o → h2.get? b = some o := fun b o e => by
    rw [← eh2]
    exact Heap.get?_push_of_some _ e
  have st2 : h2.IsListIter it a 0 := by
    rw [← eh2, ← eit]
    exact ⟨_, Heap.get?_push_size _ rfl, rfl, rfl⟩
  have I2 : Inv X pins σ H1 { s1 with heap := h2 } := I1.kept (t' := s1.toks) up2
  have f2 : FpOk X pins H1 it := by
    rw [← eit]
    exact I1.fpOk (Nat.le_refl _) (I1.hok.fresh (Nat.le_refl _))
  have nD : H1 h2.objs.size = none := I2.hok.fresh (Nat.le_refl _)
  obtain ⟨W, ⟨m, w0⟩, run⟩ := q h2.objs.size nD
  have I3 : Inv X pins σ (upd H1 h2.objs.size (.lst [])) { s1 with heap := h2.push { cls := .type "list", data := .seq ([] : List Value).toArray } } :=
    I2.laid (t' := s1.toks) (fun b o e => Heap.get?_push_of_some _ e) (Nat.le_refl _) ⟨Nat.zero_le _, [], 0, .nil, Heap.get?_push_size _ rfl⟩
  have lit : it < h2.objs.size := let ⟨_, e, _⟩ := st2; Heap.lt_size e
  have st3 : (h2.push { cls := .type "list", data := .seq ([] : List Value).toArray }).IsListIter it a 0 := let ⟨o, e, r⟩ := st2; ⟨o, Heap.get?_push_of_some _ e, r⟩
  have f3 : FpOk X pins (upd H1 h2.objs.size (.lst [])) it := ⟨by rw [upd_ne (Nat.ne_of_lt lit)]; exact f2.1, f2.2⟩
  exact blk_run hc hN ok hg ht he I3 st3 f3 w0 run
end
end El
namespace El
open PySem PySem.Spec PyProof.Rows L2 HotX L2H
/-! ### a def called where an exception is handled: its promise is told which -/
abbrev ZSp := Addr → Value → Option Addr → Sp
abbrev NoX : XK := fun _ _ _ => False
structure FnZ (P : Program) (w : World) (K : PySem.W.Frag) (mg : Str → Option Value) (base : Heap) (k : Nat) (f : Addr) (fd : FuncData) (ps : List Str) (sp : ZSp) : Prop where
  len : ∀ a c d vs H Q E, sp a c d vs H Q E → vs.length = ps.length
  run : ∀ (A : Around) (outer : List Env) (s : Shared) (H : Hp) (args : Args) (us : List Value) (vs : List V) (Q : VK) (a : Addr) (oe : Obj) (c : Value) (d : Option Addr), RoomH k A → A.handled = some (.ref a) → L2N.Zn c d oe → (∃ fv, oe.data = .fields fv) → PinOk outer H s (a, oe) →
    Env0 P w K mg base A outer s H → BindsTo s fd args (ps.zip us) → Vals vs us → sp a c d vs H Q NoX → codeAny (model P w) A (.call (.ref f) args) (CR CX0 outer P w H s Q NoX) s
theorem hot_of {A : Around} {a : Addr} {oe : Obj} {c : Value} {d : Option Addr} (h : A.handled = some (.ref a)) (z : L2N.Zn c d oe) (f : ∃ fv, oe.data = .fields fv) : Hot1 A (a, oe) :=
  ⟨h, let ⟨fv, e⟩ := f; ⟨fv, e, z.2.2 fv e⟩⟩
theorem mark_of {A : Around} {v : Value} (h : A.handled = some v) : A.mark (some v) = A := by
  cases A
  cases h
  rfl
section
variable {P : Program} {w : World} {K : PySem.W.Frag} {mg : Str → Option Value} {base : Heap} {x qual : Str} {st : Stmt} {f : Addr} {fd : FuncData} {N ps : List Str} {k : Nat} {sp : ZSp}
theorem okZ (F : Fun K x qual st f fd) (S : FnScope N ps (defScope st)) (len : ∀ a c d vs H Q E, sp a c d vs H Q E → vs.length = ps.length)
    (body : ∀ (cdv : Value) (A : Around) (outer : List Env) (s : Shared) (H : Hp) (vs : List V) (Q : VK) (a : Addr) (oe : Obj) (c : Value) (d : Option Addr), RoomH k (A.deeper (envOfC qual (defScope st) s.heap.objs.size f cdv)) → Hot1 A (a, oe) → L2N.Zn c d oe → (∃ fv, oe.data = .fields fv) → sp a c d vs H Q NoX →
      ∃ t, PSs ((cxOf CX0 P w K mg base N qual (defScope st) f cdv A outer s H NoX).suite a [(a, oe)]) (defBody st) t ∧ t { nx := fun _ H' => Q .non H', rt := Q } (L2.start N vs) H) : FnZ P w K mg base (k + 1) f fd ps sp := by
  obtain ⟨oc, od, kV, doc, pm, an, cdv, ct, osl, rfl, lk, code⟩ := F.ex
  refine ⟨len, fun A outer s H args us vs Q a oe c d hr hh hz hf pin e0 bd rv asks => ?_⟩
  have inK : K.In s.heap := e0.mod.kin.keeps fun b o e => (e0.bs b o e).1
  have free : s.heap.NoLimit := e0.mod.nolimit.keeps fun b o e => (e0.bs b o e).1
  have ln := len _ _ _ _ _ _ _ asks
  have sorts : ∀ y ∈ ps.zip us, (defScope st).names.lookup y.1 = some .local ∨ ((defScope st).names.lookup y.1 = some .cell ∧ ((cellsFrom (s.heap.objs.size + 1) (defScope st).names []).lookup y.1).isSome = true) := fun y hy =>
    (S.par y.1 (List.of_mem_zip (show (y.1, y.2) ∈ ps.zip us from hy)).1).elim .inl fun z => .inr ⟨z, PySem.W.cellsFrom_some _ _ _ (.inl z)⟩
  refine codeAny_call_function hr.depth (inK _ _ lk) rfl S.co S.gen rfl (PySem.W.codeRec_of inK code) (bd _ _ _ _ (wpAny_newFunctionEnv_cells S.kind sorts fun env he s1 y => ?_))
  subst he
  refine ⟨free.keeps y.toInCall.keep, codeAny_func ?_⟩
  obtain ⟨t, ht, asks2⟩ := body cdv A outer s H vs Q a oe c d (hr.deeper _) (hot_of hh hz hf) hz hf asks
  have I := inv_startH (CX := CX0) (E := NoX) S pin e0 ln rv y
  have J : Inv ((cxOf CX0 P w K mg base N qual (defScope st) f cdv A outer s H NoX).suite a [(a, oe)]) [] (L2.start N vs) H s1 :=
    ⟨⟨I.ok.mod, I.ok.kind, I.ok.glob, I.ok.blt, I.ok.above, I.ok.inj, I.ok.has, I.ok.cab, (fun z => nomatch (show false = true from z)), I.ok.frames, I.ok.stk, I.ok.exf, I.ok.bs, I.ok.bsz, I.ok.noex, I.ok.exfs, I.ok.funs, I.ok.frf⟩, I.os, I.bare, I.base, I.loc, I.cell, I.free, I.freeC, I.pin, I.hok, I.len⟩
  have went := ht.run [] s1 (L2.start N vs) H _ J asks2
  have same : (A.deeper (envOfC qual (defScope st) s.heap.objs.size f cdv)).mark (some (.ref a)) = A.deeper (envOfC qual (defScope st) s.heap.objs.size f cdv) := mark_of hh
  have turn : ∀ {A2 : Around}, (A.deeper (envOfC qual (defScope st) s.heap.objs.size f cdv)).mark (some (.ref a)) = A2 → wpAny (model P w) A2 (execs (defBody st) (envOfC qual (defScope st) s.heap.objs.size f cdv))
      (SP ((cxOf CX0 P w K mg base N qual (defScope st) f cdv A outer s H NoX).suite a [(a, oe)]) [] { nx := fun _ H' => Q .non H', rt := Q }) (fun _ _ => False) s1 := fun e => e ▸ went
  have went2 := turn same
  refine wpAny_mono went2 (fun fl s2 told => ?_) fun _ _ z => z.elim
  match fl, told with
  | .ret u, told =>
    obtain ⟨v, σ2, H2, I2, ru, q⟩ := told
    exact ⟨v, H2, I2.os, I2.bare, I2.base, I2.hok, ru, q⟩
  | .next, told =>
    obtain ⟨σ2, H2, I2, q⟩ := told
    exact ⟨.non, H2, I2.os, I2.bare, I2.base, I2.hok, rfl, q⟩
  | .brk, told => exact told.elim fun _ z => z.elim fun _ z => (show False from z.2).elim
  | .cont, told => exact told.elim fun _ z => z.elim fun _ z => (show False from z.2).elim
end
/-- such a def, as its callers see it -/
structure DfZ (P : Program) (w : World) (K : PySem.W.Frag) (mg : Str → Option Value) (base : Heap) (k : Nat) (x : Str) (ps : List Str) (st : Stmt) (sp : ZSp) : Prop where
  ex : ∃ (f : Addr) (fd : FuncData), Fun K x x st f fd ∧ mg x = some (.ref f) ∧ FnZ P w K mg base k f fd ps sp ∧ Binds K fd ps []
theorem At.dfz {P : Program} {w : World} {K : PySem.W.Frag} {mg : Str → Option Value} {base : Heap} {k : Nat} {x : Str} {ps : List Str} {st : Stmt} {sp : ZSp} (A : At K mg x ps st)
    (h : ∀ f fd, Fun K x x st f fd → FnZ P w K mg base k f fd ps sp) : DfZ P w K mg base k x ps st sp := by
  obtain ⟨f, fd, F, m, b⟩ := A.ex
  exact ⟨f, fd, F, m, h f fd F, b⟩
section
variable {X : Cx} {k : Nat} {x : Str} {ps : List Str} {st : Stmt} {sp : ZSp} {p pos : Pos} {e : Expr} {es : List Expr} {t : TA} {a : Addr} {oe : Obj} {c : Value} {d : Option Addr} {pn : List (Addr × Obj)}
def tCallZ (sp : ZSp) (a : Addr) (c : Value) (d : Option Addr) (t : TA) : TE := fun σ H Q => t σ H fun vs H1 => sp a c d vs H1 Q NoX
theorem pe_dfZ (D : DfZ X.prog X.w X.K X.mg X.base k x ps st sp) (hz : L2N.Zn c d oe) (hf : ∃ fv, oe.data = .fields fv) (hr : Room k X.A) (hg : Gl X x) (ha : PA (X.suite a ((a, oe) :: pn)) (e :: es) t) (hdb : (x == ("__debug__" : Str)) = false := by decide)
    (he : starEach (e :: es) X.env = (false, eval e X.env) :: starEach es X.env := by rfl) (hpl : (backTo pos (starEach es X.env)).any (·.1) = false := by rfl) : PE (X.suite a ((a, oe) :: pn)) (.Call (.Name x p) (e :: es) [] pos) (tCallZ sp a c d t) := by
  obtain ⟨f, fd, F, m, G, b⟩ := D.ex
  have kp := F.kp
  constructor
  intro pins s σ H Q I asks
  apply wpAny_Call_Name_kw
  apply ld_glob I hg m _ hdb
  refine PySem.W.callWith_K (h₀ := X.base) I.ok.mod.kin kp (wpAny_mono (ha.run pos pins s σ H _ I asks) (fun us s1 got => ?_) fun _ _ z => z) he hpl
  obtain ⟨vs, H1, I1, rv, q⟩ := got
  refine ⟨I1.kIn, ?_⟩
  have ln : us.length = ps.length := by
    rw [← rv.length]
    exact G.len _ _ _ _ _ _ _ q
  have bound := b s1 us I1.kIn (by rw [List.append_nil]; exact ln)
  rw [List.append_nil] at bound
  obtain ⟨g1, n1, l1, f1, c1⟩ := I1.pin (a, oe) (List.mem_append_left _ List.mem_cons_self)
  have pinned : PinOk X.stack H1 s1 (a, oe) := ⟨g1, n1, fun hm => (List.mem_cons.mp (I1.stkSub a hm)).elim l1 f1, c1⟩
  refine wpAny_call (codeAny_mono (G.run (X.A.mark (some (.ref a))) X.stack s1 H1 ⟨us, []⟩ us vs Q a oe c d ⟨hr.dp, hr.un⟩ rfl hz hf pinned I1.env0 bound rv q) fun r s2 told => ?_)
  match r, told with
  | .ok (.ret _), told => exact I1.after told
  | .error _, told => exact told.elim
end
end El
namespace El
/-- a crowd comes to a first room in which h live -/
def kst (h : Int) (c : Int × Int) : Int := if c.2 + 1 ≤ h then h else if h + c.1 ≤ c.2 + 1 then h + c.1 else c.2 + 1
def stay (cs : List (Int × Int)) (n : Int) : Int := cs.foldl kst n
def Crw (cs : List (Int × Int)) : Prop := ∀ c ∈ cs, 1 ≤ c.1 ∧ 0 ≤ c.2
theorem stay_snoc (cs : List (Int × Int)) (c : Int × Int) (n : Int) : stay (cs ++ [c]) n = kst (stay cs n) c := by
  unfold stay
  rw [List.foldl_append]
  rfl
theorem stay_cat (cs ds : List (Int × Int)) (n : Int) : stay (cs ++ ds) n = stay ds (stay cs n) := by
  unfold stay
  rw [List.foldl_append]
theorem stay_cons (c : Int × Int) (cs : List (Int × Int)) (n : Int) : stay (c :: cs) n = stay cs (kst n c) := rfl
theorem kst_ge (h : Int) (c : Int × Int) (k : 1 ≤ c.1) : h ≤ kst h c := by
  unfold kst
  split
  · omega
  · split <;> omega
/-- one elder more: as many, or one more -/
theorem kst_one (h h' : Int) (c : Int × Int) (k : 1 ≤ c.1) (d : h' = h ∨ h' = h + 1) : kst h' c = kst h c ∨ kst h' c = kst h c + 1 := by
  unfold kst
  split <;> split <;> (try split) <;> (try split) <;> omega
theorem Crw.cons {c : Int × Int} {cs : List (Int × Int)} (h : Crw (c :: cs)) : (1 ≤ c.1 ∧ 0 ≤ c.2) ∧ Crw cs := ⟨h c List.mem_cons_self, fun d m => h d (List.mem_cons_of_mem _ m)⟩
theorem Crw.cat {cs ds : List (Int × Int)} (h : Crw cs) (k : Crw ds) : Crw (cs ++ ds) := fun c m => (List.mem_append.mp m).elim (h c) (k c)
theorem stay_ge : ∀ {cs : List (Int × Int)}, Crw cs → ∀ n, n ≤ stay cs n
  | [], _, n => Int.le_refl _
  | c :: cs, h, n => by
    rw [stay_cons]
    exact Int.le_trans (kst_ge n c h.cons.1.1) (stay_ge h.cons.2 _)
theorem stay_one : ∀ {cs : List (Int × Int)}, Crw cs → ∀ n n', (n' = n ∨ n' = n + 1) → stay cs n' = stay cs n ∨ stay cs n' = stay cs n + 1
  | [], _, n, n', d => d
  | c :: cs, h, n, n', d => by
    rw [stay_cons, stay_cons]
    exact stay_one h.cons.2 _ _ (kst_one n n' c h.cons.1.1 d)
/-- a crowd parted in two -/
theorem kst_part (h : Int) (a b p : Int) (ha : 1 ≤ a) (hb : 1 ≤ b) : kst (kst h (a, p)) (b, p) = kst h (a + b, p) := by
  unfold kst
  dsimp only
  split <;> (try split) <;> (try split) <;> (try split) <;> (try split) <;> omega
end El
namespace El
theorem stay_lt {M : Int} : ∀ {cs : List (Int × Int)}, (∀ c ∈ cs, c.2 + 1 < M) → ∀ n, n < M → stay cs n < M
  | [], _, n, h => h
  | c :: cs, k, n, h => by
    rw [stay_cons]
    refine stay_lt (fun d m => k d (List.mem_cons_of_mem _ m)) _ ?_
    have := k c List.mem_cons_self
    unfold kst
    split
    · omega
    · split <;> omega
theorem kst_0 (h p : Int) : kst h (0, p) = h := by
  unfold kst
  dsimp only
  split
  · rfl
  · split <;> omega
theorem kst_succ (h p : Int) (k : Nat) : kst h (((k + 1 : Nat) : Int), p) = kst h ((k : Int), p) + (if decide (kst h ((k : Int), p) ≤ p) = true then 1 else 0) := by
  by_cases e : kst h ((k : Int), p) ≤ p
  · rw [decide_eq_true e, if_pos rfl]
    unfold kst at e ⊢
    dsimp only at e ⊢
    split <;> (try split) <;> (try split) <;> (try split) <;> (split at e) <;> (try split at e) <;> omega
  · rw [decide_eq_false e, if_neg (by decide), Int.add_zero]
    unfold kst at e ⊢
    dsimp only at e ⊢
    split <;> (try split) <;> (try split) <;> (try split) <;> (split at e) <;> (try split at e) <;> omega
end El
namespace El
open PySem PySem.Spec PyProof.Rows L2 SX
/-! ### numbers as texts -/
def numI (i : Int) : List Nat := if 0 ≤ i then TL.numL i.toNat else 45 :: TL.numL (0 - i).toNat
theorem numI_nat (n : Nat) : numI (n : Int) = TL.numL n := by
  unfold numI
  rw [if_pos (by omega), Int.toNat_natCast]
theorem numI_neg {i : Int} (h : i < 0) : numI i = 45 :: TL.numL (0 - i).toNat := by
  unfold numI
  rw [if_neg (by omega)]
theorem ofs_cat (a b : String) : Str.ofString (a ++ b) = Str.ofString a ++ Str.ofString b := by
  have ofs : ∀ s : String, (Str.ofString s).cps.toList = s.toList.map Char.toNat := fun s => by
    rw [Str.ofString_eq_toList]
  refine TL.ext_tl ?_
  show (Str.ofString (a ++ b)).cps.toList = (Str.ofString a ++ Str.ofString b).cps.toList
  rw [ofs, PySem.Str.cps_append, Array.toList_append, ofs, ofs, String.toList_append, List.map_append]
theorem text_S (i : Int) : Str.ofString (toString i) = S (numI i) := by
  by_cases h : 0 ≤ i
  · obtain ⟨n, rfl⟩ : ∃ n : Nat, i = n := ⟨i.toNat, by omega⟩
    rw [numI_nat, num_S]
  · rw [PyProof.Rows.toString_neg (by omega), numI_neg (by omega)]
    have e : (0 - i : Int) = (((0 - i).toNat : Nat) : Int) := by omega
    have e2 : Str.ofString ("-" ++ toString (0 - i)) = Str.ofString "-" ++ Str.ofString (toString (0 - i)) := ofs_cat _ _
    rw [e2, e, num_S, Int.toNat_natCast]
    show S [45] ++ _ = _
    rw [S_cat]
    rfl
def Sm (i : Int) : Prop := i.natAbs < 10 ^ 30
theorem digit_all {l : List Nat} (h : NumText.AllDigits l) : l.all (fun c => decide (48 ≤ c) && decide (c ≤ 57)) = true := by
  rw [List.all_eq_true]
  intro c m
  have := h c m
  rw [decide_eq_true this.1, decide_eq_true this.2]
  rfl
theorem uni_digit : ∀ c : Nat, c < 128 → Unicode.isDigit c = (decide (48 ≤ c) && decide (c ≤ 57)) := by decide +kernel
theorem digits_word {l : List Nat} : (Txt.isascii (S l) && Txt.isdigit (S l)) = (!l.isEmpty && l.all (fun c => decide (48 ≤ c) && decide (c ≤ 57))) := by
  have e1 : Txt.isascii (S l) = l.all (fun c => decide (c < 128)) := by
    show (l.toArray).all _ = _
    rw [← Array.all_toList]
  have e2 : Txt.isdigit (S l) = (!l.isEmpty && l.all Unicode.isDigit) := by
    show (decide ((S l).length > 0) && (l.toArray).all Unicode.isDigit) = _
    rw [← Array.all_toList, S_len]
    cases l with
    | nil => rfl
    | cons x r => rfl
  rw [e1, e2]
  clear e1 e2
  induction l with
  | nil => rfl
  | cons c r ih =>
    rw [List.all_cons, List.all_cons, List.all_cons]
    cases r with
    | nil =>
      by_cases h : c < 128
      · rw [uni_digit c h, decide_eq_true h]
        rfl
      · rw [decide_eq_false h]
        have : (decide (48 ≤ c) && decide (c ≤ 57)) = false := by rw [decide_eq_false (show ¬ c ≤ 57 by omega), Bool.and_false]
        rw [this]
        rfl
    | cons d r =>
      have ih' : (List.all (d :: r) (fun c => decide (c < 128)) && (true && List.all (d :: r) Unicode.isDigit)) = (true && List.all (d :: r) fun c => decide (48 ≤ c) && decide (c ≤ 57)) := ih
      by_cases h : c < 128
      · rw [uni_digit c h, decide_eq_true h]
        cases hd : (decide (48 ≤ c) && decide (c ≤ 57)) with
        | true =>
          show (true && List.all (d :: r) _ && (true && (true && List.all (d :: r) _))) = (true && (true && List.all (d :: r) _))
          rw [Bool.true_and, Bool.true_and, Bool.true_and]
          exact ih'
        | false => simp
      · rw [decide_eq_false h]
        have : (decide (48 ≤ c) && decide (c ≤ 57)) = false := by rw [decide_eq_false (show ¬ c ≤ 57 by omega), Bool.and_false]
        rw [this]
        simp
def unsign : List Nat → List Nat
  | [] => []
  | c :: r => if c = 45 then r else c :: r
theorem prefix_off (l : List Nat) : Txt.removeprefix (S l) (S [45]) = S (unsign l) := by
  have hs : Builtin.Str.subAt (S l) (S [45]) 0 = decide (l.take 1 = [45]) := by
    rw [PySem.StrLaws.subAt_eq, S_len]
    show ((l.drop 0).take 1 == [45]) = _
    rw [List.drop_zero]
    by_cases h : l.take 1 = [45]
    · rw [h]; rfl
    · rw [decide_eq_false h]
      exact beq_eq_false_iff_ne.mpr h
  unfold Txt.removeprefix Txt.affix
  rw [hs]
  cases l with
  | nil => rfl
  | cons c r =>
    by_cases h : c = 45
    · subst h
      rw [decide_eq_true (by rfl), if_pos rfl, S_len, S_len]
      show (if ((r.length + 1) - 1 == r.length + 1) = true then S (45 :: r) else Builtin.Str.strSub (S (45 :: r)) 1 (r.length + 1)) = S r
      rw [if_neg (by rw [beq_iff_eq]; omega)]
      refine TL.ext_tl ?_
      show (Builtin.Str.strSub (S (45 :: r)) 1 (r.length + 1)).cps.toList = r
      rw [PySem.StrLaws.strSub_toList]
      show (r.take (r.length + 1 - 1)) = r
      rw [Nat.add_sub_cancel, List.take_length]
    · have hne : ¬ (c :: r).take 1 = [45] := fun z => h (List.cons.inj z).1
      rw [decide_eq_false hne, if_neg Bool.false_ne_true]
      show S (c :: r) = S (if c = 45 then r else c :: r)
      rw [if_neg h]
theorem unsign_num (i : Int) : unsign (numI i) = TL.numL i.natAbs := by
  by_cases h : 0 ≤ i
  · obtain ⟨n, rfl⟩ : ∃ n : Nat, i = n := ⟨i.toNat, by omega⟩
    rw [numI_nat, Int.natAbs_natCast]
    cases e : TL.numL n with
    | nil => exact absurd e (TL.numL_ne n)
    | cons c r =>
      have hc := TL.numL_digits n c (by rw [e]; exact List.mem_cons_self)
      show (if c = 45 then r else c :: r) = _
      rw [if_neg (by omega)]
  · rw [numI_neg (by omega)]
    show TL.numL (0 - i).toNat = _
    congr 1
    omega
theorem numI_len {i : Int} (h : Sm i) : (numI i).length ≤ 31 := by
  unfold Sm at h
  by_cases h0 : 0 ≤ i
  · obtain ⟨n, rfl⟩ : ∃ n : Nat, i = n := ⟨i.toNat, by omega⟩
    rw [numI_nat]
    exact Nat.le_succ_of_le (TL.numL_len (by decide) (by rw [Int.natAbs_natCast] at h; exact h))
  · rw [numI_neg (by omega), List.length_cons]
    exact Nat.succ_le_succ (TL.numL_len (by decide) (by
      have : (0 - i).toNat = i.natAbs := by omega
      rw [this]
      exact h))
theorem numI_ne (i : Int) : numI i ≠ [] := by
  unfold numI
  split
  · exact TL.numL_ne _
  · simp
/-- no other signs than - and figures -/
theorem numI_free {c : Nat} (i : Int) (h1 : c ≠ 45) (h2 : c < 48 ∨ 57 < c) : c ∉ numI i := by
  unfold numI
  split
  · exact TL.numL_free h2
  · intro m
    rcases List.mem_cons.mp m with e | m
    · exact h1 e
    · exact TL.numL_free h2 m
theorem numI_reads {i : Int} (h : Sm i) : intText? (S (numI i)) = some i := by
  by_cases h0 : 0 ≤ i
  · obtain ⟨n, rfl⟩ : ∃ n : Nat, i = n := ⟨i.toNat, by omega⟩
    rw [numI_nat, int_S (digit_all (TL.numL_digits n)) (TL.numL_ne n) (by
      have := numI_len h
      rw [numI_nat] at this
      omega), TL.numL_val]
  · have hl := numI_len h
    rw [numI_neg (by omega)] at hl ⊢
    rw [intText_neg (cs := TL.numL (0 - i).toNat) rfl (TL.numL_digits _) (TL.numL_ne _) (by rw [S_len]; omega), TL.numL_val]
    congr 1
    omega
theorem numI_inj {i j : Int} (h : numI i = numI j) : i = j := by
  have h1 : unsign (numI i) = unsign (numI j) := by rw [h]
  rw [unsign_num, unsign_num] at h1
  have h2 := TL.numL_inj h1
  by_cases a : 0 ≤ i
  · by_cases b : 0 ≤ j
    · omega
    · exfalso
      rw [numI_neg (show j < 0 by omega)] at h
      obtain ⟨n, rfl⟩ : ∃ n : Nat, i = n := ⟨i.toNat, by omega⟩
      rw [numI_nat] at h
      have := TL.numL_digits n 45 (by rw [h]; exact List.mem_cons_self)
      omega
  · by_cases b : 0 ≤ j
    · exfalso
      rw [numI_neg (show i < 0 by omega)] at h
      obtain ⟨n, rfl⟩ : ∃ n : Nat, j = n := ⟨j.toNat, by omega⟩
      rw [numI_nat] at h
      have := TL.numL_digits n 45 (by rw [← h]; exact List.mem_cons_self)
      omega
    · omega
theorem Sm.log {i : Int} (h : Sm i) : i.natAbs.log2 < 1920 := by
  unfold Sm at h
  by_cases h0 : i.natAbs = 0
  · rw [h0]; decide
  · exact Nat.lt_trans ((Nat.log2_lt h0).mpr (Nat.lt_trans h (by decide +kernel : 10 ^ 30 < 2 ^ 200))) (by decide)
end El
namespace El
open PySem PySem.Spec PyProof.Rows L2 SX
/-- a pair of numbers, and several, as texts -/
def twoW (c : Nat) (g : Int × Int) : List Nat := TL.joinL [c] [numI g.1, numI g.2]
def noneL : List Nat := [110, 111, 110, 101]
def textOf (c : Nat) (gs : List (Int × Int)) : List Nat := if gs = [] then noneL else TL.joinL [32] (gs.map (twoW c))
def Sms (gs : List (Int × Int)) : Prop := ∀ g ∈ gs, Sm g.1 ∧ Sm g.2
theorem none_S : ("none" : Str) = S noneL := by
  refine TL.ext_tl ?_
  decide +kernel
theorem one_S : ("x" : Str) = S [120] ∧ (":" : Str) = S [58] ∧ (" " : Str) = S [32] ∧ ("," : Str) = S [44] ∧ ("-" : Str) = S [45] ∧ (" | " : Str) = S [32, 124, 32] := by
  refine ⟨TL.ext_tl ?_, TL.ext_tl ?_, TL.ext_tl ?_, TL.ext_tl ?_, TL.ext_tl ?_, TL.ext_tl ?_⟩ <;> decide +kernel
theorem twoW_is (c : Nat) (g : Int × Int) : twoW c g = numI g.1 ++ ([c] ++ numI g.2) := rfl
theorem twoW_len {c : Nat} {g : Int × Int} (h : Sm g.1 ∧ Sm g.2) : (twoW c g).length ≤ 63 := by
  rw [twoW_is, List.length_append, List.length_append]
  have := numI_len h.1
  have := numI_len h.2
  show _ + (1 + _) ≤ _
  omega
theorem joinL_len (sep : List Nat) (k : Nat) : ∀ l : List (List Nat), (∀ w ∈ l, w.length ≤ k) → (TL.joinL sep l).length ≤ l.length * (k + sep.length)
  | [], _ => Nat.zero_le _
  | [w], h => by
    have := h w List.mem_cons_self
    show w.length ≤ 1 * (k + sep.length)
    omega
  | w :: v :: r, h => by
    have h1 := h w List.mem_cons_self
    have h2 := joinL_len sep k (v :: r) fun u m => h u (List.mem_cons_of_mem _ m)
    show (w ++ (sep ++ TL.joinL sep (v :: r))).length ≤ _
    rw [List.length_append, List.length_append, List.length_cons, Nat.add_mul, Nat.one_mul]
    omega
theorem textOf_len {c : Nat} {gs : List (Int × Int)} (h : Sms gs) : (textOf c gs).length ≤ gs.length * 64 + 4 := by
  unfold textOf
  split
  · show 4 ≤ _
    omega
  · refine Nat.le_trans (joinL_len [32] 63 _ fun w m => ?_) ?_
    · obtain ⟨g, mg, rfl⟩ := List.mem_map.mp m
      exact twoW_len (h g mg)
    · rw [List.length_map]
      show gs.length * 64 ≤ _
      omega
theorem two_free {c : Nat} {g : Int × Int} (hc : c ≠ 32) : 32 ∉ twoW c g := by
  rw [twoW_is]
  intro m
  rcases List.mem_append.mp m with m | m
  · exact numI_free g.1 (by decide) (by decide) m
  · rcases List.mem_append.mp m with m | m
    · exact hc (List.mem_singleton.mp m).symm
    · exact numI_free g.2 (by decide) (by decide) m
theorem split_text {c : Nat} {gs : List (Int × Int)} (hc : c ≠ 32) (h : gs ≠ []) : Txt.split (S (textOf c gs)) (S [32]) = (gs.map (twoW c)).map S := by
  unfold textOf
  rw [if_neg h, split_S (by decide) (by decide), spl_join (by simpa using h) fun w m => ?_]
  obtain ⟨g, _, rfl⟩ := List.mem_map.mp m
  exact two_free hc
theorem split_two {c : Nat} {g : Int × Int} (hc : c < 256) (h1 : c ≠ 45) (h2 : c < 48 ∨ 57 < c) : Txt.split (S (twoW c g)) (S [c]) = [numI g.1, numI g.2].map S := by
  unfold twoW
  rw [split_S (by simp) (by simp [hc]), spl_join (by simp) fun w m => ?_]
  rcases List.mem_cons.mp m with rfl | m
  · exact numI_free _ h1 h2
  · rw [List.mem_singleton.mp m]
    exact numI_free _ h1 h2
theorem S_ne {a b : List Nat} (h : a ≠ b) : S a ≠ S b := fun z => h (S_inj z)
/-- a text of some is not `none` -/
theorem text_none {c : Nat} {gs : List (Int × Int)} (hn : gs ≠ []) : textOf c gs ≠ noneL := by
  unfold textOf
  rw [if_neg hn]
  intro e
  cases gs with
  | nil => exact hn rfl
  | cons g gs =>
    have h1 : ∃ d r, numI g.1 = d :: r ∧ (d = 45 ∨ (48 ≤ d ∧ d ≤ 57)) := by
      unfold numI
      split
      · cases e2 : TL.numL g.1.toNat with
        | nil => exact absurd e2 (TL.numL_ne _)
        | cons d r => exact ⟨d, r, rfl, .inr (TL.numL_digits g.1.toNat d (by rw [e2]; exact List.mem_cons_self))⟩
      · exact ⟨45, _, rfl, .inl rfl⟩
    obtain ⟨d, r, e2, hd⟩ := h1
    have h3 : ∃ r', TL.joinL [32] ((g :: gs).map (twoW c)) = d :: r' := by
      rw [List.map_cons, twoW_is, e2]
      cases gs with
      | nil => exact ⟨_, rfl⟩
      | cons g2 gs => exact ⟨_, rfl⟩
    obtain ⟨r', e3⟩ := h3
    rw [e3] at e
    have := (List.cons.inj e).1
    omega
theorem text_pos {c : Nat} {gs : List (Int × Int)} (hn : gs ≠ []) : 0 < (textOf c gs).length := by
  unfold textOf
  rw [if_neg hn]
  cases gs with
  | nil => exact absurd rfl hn
  | cons g gs =>
    have h := numI_ne g.1
    have h1 : 0 < (twoW c g).length := by
      rw [twoW_is, List.length_append]
      have := List.length_pos_iff.mpr h
      omega
    rw [List.map_cons]
    cases gs with
    | nil => exact h1
    | cons g2 gs =>
      show 0 < (twoW c g ++ _).length
      rw [List.length_append]
      omega
theorem fs_two (a b : Int) (c : Nat) (x : Str) (hx : x = S [c]) : Str.empty ++ Str.ofString (toString a) ++ x ++ Str.ofString (toString b) = S (twoW c (a, b)) := by
  rw [PySem.Str.empty_append, hx, text_S, text_S, S_cat, S_cat, twoW_is, List.append_assoc]
theorem fs_two' (a b : Int) (c : Nat) (x : Str) (hx : x = S [c]) : Str.ofString (toString a) ++ x ++ Str.ofString (toString b) = S (twoW c (a, b)) := by
  rw [hx, text_S, text_S, S_cat, S_cat, twoW_is, List.append_assoc]
theorem text_small {i : Int} (h : Sm i) : (Str.ofString (toString i)).length ≤ 31 := by
  rw [text_S, S_len]
  exact numI_len h
theorem sum_lens {l : List Str} {k : Nat} (h : ∀ w ∈ l, w.length ≤ k) : (l.map (·.length)).sum ≤ l.length * k := by
  induction l with
  | nil => exact Nat.zero_le _
  | cons w l ih =>
    have h1 := h w List.mem_cons_self
    have h2 := ih fun v m => h v (List.mem_cons_of_mem _ m)
    rw [List.map_cons, List.sum_cons, List.length_cons, Nat.add_mul, Nat.one_mul]
    omega
theorem iteTx {c : Bool} {A B : Prop} (hc : c = true) (h : A) : if c = true then A else B := by rw [if_pos hc]; exact h
theorem digs_lt : ∀ (n : Nat) (cs : List Nat), cs.length = n → NumText.AllDigits cs → NumText.digitsVal cs < 10 ^ n
  | 0, cs, h, _ => by
    rw [List.length_eq_zero_iff.mp h]
    decide
  | n + 1, cs, h, hd => by
    rcases List.eq_nil_or_concat cs with rfl | ⟨a, d, rfl⟩
    · cases h
    · rw [List.concat_eq_append] at *
      rw [List.length_append] at h
      have ih := digs_lt n a (by simpa using h) fun c m => hd c (List.mem_append_left _ m)
      have h2 := hd d (List.mem_append_right _ (List.mem_singleton.mpr rfl))
      rw [NumText.digitsVal_snoc, Nat.pow_succ]
      omega
/-- a number of thirty figures and no more -/
theorem sm_len {i : Int} (h : (unsign (numI i)).length ≤ 30) : Sm i := by
  rw [unsign_num] at h
  have := digs_lt _ _ rfl (TL.numL_digits i.natAbs)
  rw [TL.numL_val] at this
  exact Nat.lt_of_lt_of_le this (Nat.pow_le_pow_right (by decide) h)
theorem len_sm {i : Int} (h : Sm i) : (unsign (numI i)).length ≤ 30 := by
  rw [unsign_num]
  exact TL.numL_len (by decide) h
theorem word_digits (l : List Nat) (h : (!l.isEmpty && l.all (fun c => decide (48 ≤ c) && decide (c ≤ 57))) = true) : NumText.AllDigits l ∧ l ≠ [] := by
  rw [Bool.and_eq_true] at h
  refine ⟨fun c m => ?_, fun e => by rw [e] at h; exact Bool.noConfusion h.1⟩
  have := List.all_eq_true.mp h.2 c m
  rw [Bool.and_eq_true] at this
  exact ⟨of_decide_eq_true this.1, of_decide_eq_true this.2⟩
theorem num_word (i : Int) : (!(unsign (numI i)).isEmpty && (unsign (numI i)).all (fun c => decide (48 ≤ c) && decide (c ≤ 57))) = true := by
  rw [unsign_num, digit_all (TL.numL_digits _), Bool.and_true]
  cases e : TL.numL i.natAbs with
  | nil => exact absurd e (TL.numL_ne _)
  | cons c r => rfl
/-- a word of a sign and figures is read as a number -/
theorem word_reads {l : List Nat} (h : (!(unsign l).isEmpty && (unsign l).all (fun c => decide (48 ≤ c) && decide (c ≤ 57))) = true) (hl : (unsign l).length ≤ 30) : ∃ n : Int, intText? (S l) = some n ∧ Sm n := by
  obtain ⟨hd, hn⟩ := word_digits _ h
  have hv := digs_lt _ _ rfl hd
  have hs : NumText.digitsVal (unsign l) < 10 ^ 30 := Nat.lt_of_lt_of_le hv (Nat.pow_le_pow_right (by decide) hl)
  cases l with
  | nil => exact absurd rfl hn
  | cons c r =>
    by_cases hc : c = 45
    · subst hc
      have e : unsign (45 :: r) = r := rfl
      rw [e] at hd hn hl hs
      refine ⟨-((NumText.digitsVal r : Nat) : Int), intText_neg rfl hd hn (by rw [S_len, List.length_cons]; omega), ?_⟩
      show (-((NumText.digitsVal r : Nat) : Int)).natAbs < _
      rw [Int.natAbs_neg, Int.natAbs_natCast]
      exact hs
    · have e : unsign (c :: r) = c :: r := if_neg hc
      rw [e] at hd hn hl hs
      refine ⟨((NumText.digitsVal (c :: r) : Nat) : Int), int_S (digit_all hd) hn (by omega), ?_⟩
      show (((NumText.digitsVal (c :: r) : Nat) : Int)).natAbs < _
      rw [Int.natAbs_natCast]
      exact hs
end El
namespace El
open PySem PySem.Spec PyProof.Rows L2 SX
/-! ### any text, read or refused -/
def Low (l : List Nat) : Prop := ∀ x ∈ l, x < 128
theorem pre_one (c x : Nat) (r : List Nat) : TL.pre [c] (x :: r) = decide (x = c) := by
  unfold TL.pre
  show (([x] : List Nat) == [c]) = _
  by_cases h : x = c
  · subst h
    simp
  · simp [h]
theorem spl_ne (sep : List Nat) : ∀ (l : List Nat) (k : Nat) (acc : List Nat), TL.spl sep k acc l ≠ []
  | [], k, acc => by rw [TL.spl_nil]; simp
  | c :: r, 0, acc => by
    show (if TL.pre sep (c :: r) = true then acc :: TL.spl sep (sep.length - 1) [] r else TL.spl sep 0 (acc ++ [c]) r) ≠ []
    split
    · simp
    · exact spl_ne sep r 0 _
  | _ :: r, k + 1, acc => spl_ne sep r k acc
theorem join_cons {sep p : List Nat} : ∀ {ps : List (List Nat)}, ps ≠ [] → TL.joinL sep (p :: ps) = p ++ (sep ++ TL.joinL sep ps)
  | [], h => absurd rfl h
  | _ :: _, _ => rfl
/-- what a text is cut into gives it back when joined -/
theorem join_spl (c : Nat) : ∀ (l acc : List Nat), TL.joinL [c] (TL.spl [c] 0 acc l) = acc ++ l
  | [], acc => by
    rw [TL.spl_nil, List.append_nil]
    rfl
  | x :: r, acc => by
    by_cases h : x = c
    · subst h
      rw [TL.spl_hit (by rw [pre_one]; simp)]
      show TL.joinL [x] (acc :: TL.spl [x] 0 [] r) = _
      rw [join_cons (spl_ne _ _ _ _), join_spl x r []]
      rfl
    · rw [TL.spl_miss (by rw [pre_one]; simp [h]), join_spl c r]
      simp
theorem spl_small (sep : List Nat) : ∀ (l : List Nat) (k : Nat) (acc : List Nat) (p : List Nat), p ∈ TL.spl sep k acc l → p.length ≤ acc.length + l.length
  | [], k, acc, p, m => by
    rw [TL.spl_nil, List.mem_singleton] at m
    rw [m]
    exact Nat.le_add_right _ _
  | c :: r, 0, acc, p, m => by
    have m' : p ∈ (if TL.pre sep (c :: r) = true then acc :: TL.spl sep (sep.length - 1) [] r else TL.spl sep 0 (acc ++ [c]) r) := m
    split at m'
    · rcases List.mem_cons.mp m' with rfl | m'
      · exact Nat.le_add_right _ _
      · have := spl_small sep r _ [] p m'
        simp only [List.length_nil, List.length_cons] at this ⊢
        omega
    · have := spl_small sep r 0 _ p m'
      simp only [List.length_append, List.length_cons, List.length_nil] at this ⊢
      omega
  | c :: r, k + 1, acc, p, m => by
    have := spl_small sep r k acc p m
    rw [List.length_cons]
    omega
theorem spl_many (sep : List Nat) : ∀ (l : List Nat) (k : Nat) (acc : List Nat), (TL.spl sep k acc l).length ≤ l.length + 1
  | [], k, acc => by
    rw [TL.spl_nil]
    exact Nat.le_refl _
  | c :: r, 0, acc => by
    show (if TL.pre sep (c :: r) = true then acc :: TL.spl sep (sep.length - 1) [] r else TL.spl sep 0 (acc ++ [c]) r).length ≤ _
    split
    · have := spl_many sep r (sep.length - 1) []
      simp only [List.length_cons]
      omega
    · have := spl_many sep r 0 (acc ++ [c])
      simp only [List.length_cons]
      omega
  | c :: r, k + 1, acc => by
    have := spl_many sep r k acc
    rw [List.length_cons]
    exact Nat.le_succ_of_le this
theorem spl_low (sep : List Nat) : ∀ (l : List Nat) (k : Nat) (acc : List Nat), Low acc → Low l → ∀ p ∈ TL.spl sep k acc l, Low p
  | [], k, acc, ha, _, p, m => by
    rw [TL.spl_nil, List.mem_singleton] at m
    rw [m]
    exact ha
  | c :: r, 0, acc, ha, hl, p, m => by
    have hr : Low r := fun x mx => hl x (List.mem_cons_of_mem _ mx)
    have m' : p ∈ (if TL.pre sep (c :: r) = true then acc :: TL.spl sep (sep.length - 1) [] r else TL.spl sep 0 (acc ++ [c]) r) := m
    split at m'
    · rcases List.mem_cons.mp m' with rfl | m'
      · exact ha
      · exact spl_low sep r _ [] (fun x mx => absurd mx List.not_mem_nil) hr p m'
    · refine spl_low sep r 0 _ (fun x mx => ?_) hr p m'
      rcases List.mem_append.mp mx with mx | mx
      · exact ha x mx
      · rw [List.mem_singleton.mp mx]
        exact hl c List.mem_cons_self
  | c :: r, k + 1, acc, ha, hl, p, m => spl_low sep r k acc ha (fun x mx => hl x (List.mem_cons_of_mem _ mx)) p m
/-- a number, written -/
def NumW (l : List Nat) : Prop := ∃ i, Sm i ∧ l = numI i
theorem nums_of : ∀ {ws : List (List Nat)}, (∀ w ∈ ws, NumW w) → ∃ ls : List Int, (∀ i ∈ ls, Sm i) ∧ ws = ls.map numI
  | [], _ => ⟨[], fun i m => absurd m List.not_mem_nil, rfl⟩
  | w :: ws, h => by
    obtain ⟨i, hi, rfl⟩ := h w List.mem_cons_self
    obtain ⟨ls, hs, rfl⟩ := nums_of fun v m => h v (List.mem_cons_of_mem _ m)
    refine ⟨i :: ls, fun j m => ?_, rfl⟩
    rcases List.mem_cons.mp m with rfl | m
    · exact hi
    · exact hs j m
/-- which of the words are numbers -/
noncomputable def numB (ws : List (List Nat)) : List Bool := ws.map fun w => @decide (NumW w) (Classical.propDecidable _)
theorem numB_all {ws : List (List Nat)} (h : (numB ws).all id = true) : ∀ w ∈ ws, NumW w := fun w m => by
  rw [List.all_eq_true] at h
  have := h (@decide (NumW w) (Classical.propDecidable _)) (List.mem_map.mpr ⟨w, m, rfl⟩)
  exact @of_decide_eq_true (NumW w) (Classical.propDecidable _) this
theorem repr_low {l : List Nat} (h : Low l) (hl : l.length ≤ 4000) : (reprText (S l)).length ≤ 100000 := by
  have := PySem.StrLaws.reprText_len (S l) fun c m => Nat.lt_trans (h c m) (by decide)
  have e : (S l).length = l.length := S_len l
  omega
end El
namespace El
open PySem PySem.Spec PyProof.Rows L2
def topS (i : Nat) : Stmt := PySem.Challenge.pw_elderinn_k56_whole_one_writing.main.body.getD i (.Pass ⟨0, 0, 0, 0⟩)
end El
namespace El
open PySem PySem.Spec PyProof.Rows L2
section
variable {P : Program} {w : World} {K : PySem.W.Frag} {mg : Str → Option Value} {base : Heap}
abbrev sI_NoGuest : Stmt := inClass (topS 2) 0
theorem scI_NoGuest : FnScope ["self", "what"] ["self", "what"] (defScope sI_NoGuest) := ⟨rfl, rfl, rfl, by decide +kernel, rfl, by decide +kernel, by decide +kernel⟩
theorem fo_NoGuest {C0 fI : Addr} {fd : FuncData} (F : Fun K "__init__" "NoGuest.__init__" sI_NoGuest fI fd) (T0 : InnC K mg C0) : FnOk P w K mg base CX0 1 fI fd ["self", "what"] (sp_initW K) := by
  refine F.ok scI_NoGuest (fun vs H Q E h => ?_) (fun cdv AA outer s H vs Q E hr h => ?_)
  · obtain ⟨_, _, _, rfl, _⟩ := h
    rfl
  · obtain ⟨a, D, v, rfl, hC, hw, ha, hv, q⟩ := h
    have nd := scI_NoGuest.nd
    refine ⟨_, pss_cons (ps_expr (pe_ownI T0 (pa_cons (pv 0) (pa_cons (pe_joined (.cons pe_str (.cons (pe_fmtW hr (pv 1)) .nil))) pa_nil)))) (pss_one (ps_ost (pv 0) (pv 1))), ?_⟩
    refine ⟨.ref a, rfl, ?_⟩
    have last : tOst K "what" (tVar 0) (tVar 1) { nx := fun _ H' => Q .non H', rt := Q } [some (.ref a), some v] H := ⟨v, rfl, .ref a, rfl, a, D, rfl, hC, hw, .inl ⟨ha, q⟩⟩
    refine ⟨_, rfl, (by show _ ≤ sizeLine; decide +kernel), v, rfl, hv, fun m hm => ⟨_, rfl, ?_, a, D, _, rfl, (by show 1 ≤ 1000; decide), hC, ha, last⟩⟩
    rw [PySem.Str.length_append]
    exact Nat.le_trans (Nat.add_le_add (show _ ≤ 1000 by decide +kernel) hm) (by decide)
theorem own_NoGuest {C0 C fI : Addr} {fd : FuncData} (T : Own K mg "NoGuest" C fI) (F : Fun K "__init__" "NoGuest.__init__" sI_NoGuest fI fd) (T0 : InnC K mg C0) : OwnW P w K mg base "NoGuest" C :=
  ⟨fI, fd, T, fo_NoGuest F T0, F.binds fun _ _ _ _ _ _ us hl => match us, hl with | [_, _], _ => rfl⟩
end
end El
namespace El
open PySem PySem.Spec PyProof.Rows L2
section
variable {P : Program} {w : World} {K : PySem.W.Frag} {mg : Str → Option Value} {base : Heap}
abbrev sI_NoRoom : Stmt := inClass (topS 3) 0
theorem scI_NoRoom : FnScope ["self", "what"] ["self", "what"] (defScope sI_NoRoom) := ⟨rfl, rfl, rfl, by decide +kernel, rfl, by decide +kernel, by decide +kernel⟩
theorem fo_NoRoom {C0 fI : Addr} {fd : FuncData} (F : Fun K "__init__" "NoRoom.__init__" sI_NoRoom fI fd) (T0 : InnC K mg C0) : FnOk P w K mg base CX0 1 fI fd ["self", "what"] (sp_initW K) := by
  refine F.ok scI_NoRoom (fun vs H Q E h => ?_) (fun cdv AA outer s H vs Q E hr h => ?_)
  · obtain ⟨_, _, _, rfl, _⟩ := h
    rfl
  · obtain ⟨a, D, v, rfl, hC, hw, ha, hv, q⟩ := h
    have nd := scI_NoRoom.nd
    refine ⟨_, pss_cons (ps_expr (pe_ownI T0 (pa_cons (pv 0) (pa_cons (pe_joined (.cons pe_str (.cons (pe_fmtW hr (pv 1)) .nil))) pa_nil)))) (pss_one (ps_ost (pv 0) (pv 1))), ?_⟩
    refine ⟨.ref a, rfl, ?_⟩
    have last : tOst K "what" (tVar 0) (tVar 1) { nx := fun _ H' => Q .non H', rt := Q } [some (.ref a), some v] H := ⟨v, rfl, .ref a, rfl, a, D, rfl, hC, hw, .inl ⟨ha, q⟩⟩
    refine ⟨_, rfl, (by show _ ≤ sizeLine; decide +kernel), v, rfl, hv, fun m hm => ⟨_, rfl, ?_, a, D, _, rfl, (by show 1 ≤ 1000; decide), hC, ha, last⟩⟩
    rw [PySem.Str.length_append]
    exact Nat.le_trans (Nat.add_le_add (show _ ≤ 1000 by decide +kernel) hm) (by decide)
theorem own_NoRoom {C0 C fI : Addr} {fd : FuncData} (T : Own K mg "NoRoom" C fI) (F : Fun K "__init__" "NoRoom.__init__" sI_NoRoom fI fd) (T0 : InnC K mg C0) : OwnW P w K mg base "NoRoom" C :=
  ⟨fI, fd, T, fo_NoRoom F T0, F.binds fun _ _ _ _ _ _ us hl => match us, hl with | [_, _], _ => rfl⟩
end
end El
namespace El
open PySem PySem.Spec PyProof.Rows L2
section
variable {P : Program} {w : World} {K : PySem.W.Frag} {mg : Str → Option Value} {base : Heap}
abbrev sI_NoText : Stmt := inClass (topS 4) 0
theorem scI_NoText : FnScope ["self", "what"] ["self", "what"] (defScope sI_NoText) := ⟨rfl, rfl, rfl, by decide +kernel, rfl, by decide +kernel, by decide +kernel⟩
theorem fo_NoText {C0 fI : Addr} {fd : FuncData} (F : Fun K "__init__" "NoText.__init__" sI_NoText fI fd) (T0 : InnC K mg C0) : FnOk P w K mg base CX0 1 fI fd ["self", "what"] (sp_initW K) := by
  refine F.ok scI_NoText (fun vs H Q E h => ?_) (fun cdv AA outer s H vs Q E hr h => ?_)
  · obtain ⟨_, _, _, rfl, _⟩ := h
    rfl
  · obtain ⟨a, D, v, rfl, hC, hw, ha, hv, q⟩ := h
    have nd := scI_NoText.nd
    refine ⟨_, pss_cons (ps_expr (pe_ownI T0 (pa_cons (pv 0) (pa_cons (pe_joined (.cons pe_str (.cons (pe_fmtW hr (pv 1)) .nil))) pa_nil)))) (pss_one (ps_ost (pv 0) (pv 1))), ?_⟩
    refine ⟨.ref a, rfl, ?_⟩
    have last : tOst K "what" (tVar 0) (tVar 1) { nx := fun _ H' => Q .non H', rt := Q } [some (.ref a), some v] H := ⟨v, rfl, .ref a, rfl, a, D, rfl, hC, hw, .inl ⟨ha, q⟩⟩
    refine ⟨_, rfl, (by show _ ≤ sizeLine; decide +kernel), v, rfl, hv, fun m hm => ⟨_, rfl, ?_, a, D, _, rfl, (by show 1 ≤ 1000; decide), hC, ha, last⟩⟩
    rw [PySem.Str.length_append]
    exact Nat.le_trans (Nat.add_le_add (show _ ≤ 1000 by decide +kernel) hm) (by decide)
theorem own_NoText {C0 C fI : Addr} {fd : FuncData} (T : Own K mg "NoText" C fI) (F : Fun K "__init__" "NoText.__init__" sI_NoText fI fd) (T0 : InnC K mg C0) : OwnW P w K mg base "NoText" C :=
  ⟨fI, fd, T, fo_NoText F T0, F.binds fun _ _ _ _ _ _ us hl => match us, hl with | [_, _], _ => rfl⟩
end
end El
namespace El
open PySem PySem.Spec PyProof.Rows L2
/-- two values that say the same, at most n deep -/
def Sca : V → Bool
  | .non => true
  | .bl _ => true
  | .int _ => true
  | .str _ => true
  | _ => false
def Alk (H : Hp) : Nat → V → V → Prop
  | 0, x, y => Sca x = true ∧ x = y
  | n + 1, x, y => (Sca x = true ∧ x = y) ∨ ∃ (a b : Addr) (xs ys : List V), x = .ref a ∧ y = .ref b ∧ ((H a = some (.lst xs) ∧ H b = some (.lst ys)) ∨ (H a = some (.tup xs) ∧ H b = some (.tup ys))) ∧ xs.length = ys.length ∧ ys.length ≤ 100000 ∧
      ∀ (i : Nat) (u v : V), xs[i]? = some u → ys[i]? = some v → Alk H n u v
theorem Alk.keep {H H' : Hp} (k : Same H H') : ∀ {n : Nat} {x y : V}, Alk H n x y → Alk H' n x y
  | 0, _, _, h => h
  | n + 1, _, _, h => by
    rcases h with h | ⟨a, b, xs, ys, rfl, rfl, h1, h2, h3, h4⟩
    · exact .inl h
    · refine .inr ⟨a, b, xs, ys, rfl, rfl, ?_, h2, h3, fun i u v e f => Alk.keep k (h4 i u v e f)⟩
      rcases h1 with ⟨h1, h2⟩ | ⟨h1, h2⟩
      · exact .inl ⟨k _ _ h1, k _ _ h2⟩
      · exact .inr ⟨k _ _ h1, k _ _ h2⟩
theorem Alk.up {H : Hp} : ∀ {n : Nat} {x y : V}, Alk H n x y → Alk H (n + 1) x y
  | 0, _, _, h => .inl h
  | n + 1, _, _, h => by
    rcases h with h | ⟨a, b, xs, ys, rfl, rfl, h1, h2, h3, h4⟩
    · exact .inl h
    · exact .inr ⟨a, b, xs, ys, rfl, rfl, h1, h2, h3, fun i u v e f => Alk.up (h4 i u v e f)⟩
theorem Alk.int {H : Hp} {n : Nat} {i : Int} : Alk H n (.int i) (.int i) := by
  cases n with
  | zero => exact ⟨rfl, rfl⟩
  | succ n => exact .inl ⟨rfl, rfl⟩
theorem Alk.ints {H : Hp} {n : Nat} {a b : Addr} {ns : List Int} (h1 : H a = some (.lst (ns.map V.int))) (h2 : H b = some (.lst (ns.map V.int))) (hl : ns.length ≤ 100000) : Alk H (n + 1) (.ref a) (.ref b) :=
  .inr ⟨a, b, _, _, rfl, rfl, .inl ⟨h1, h2⟩, rfl, by rw [List.length_map]; exact hl, fun i u v e f => by
    obtain rfl : u = v := Option.some.inj (e.symm.trans f)
    obtain ⟨n, _, rfl⟩ := ints_at e
    exact Alk.int⟩
theorem Alk.rows {H : Hp} {n : Nat} {B B' : Addr → Prop} {a b : Addr} {ts us : List Addr} {rs : List (List Int)} (h1 : RmsAt H B a ts rs) (h2 : RmsAt H B' b us rs) (hl : rs.length ≤ 100000) (hr : ∀ r ∈ rs, r.length ≤ 100000) : Alk H (n + 2) (.ref a) (.ref b) :=
  .inr ⟨a, b, _, _, rfl, rfl, .inl ⟨h1.top, h2.top⟩, by rw [List.length_map, List.length_map, h1.len, h2.len], by rw [List.length_map, h2.len]; exact hl, fun i u v e f => by
    obtain ⟨t, r, rfl, _, er, et⟩ := h1.get e
    obtain ⟨t', r', rfl, _, er', et'⟩ := h2.get f
    obtain rfl : r = r' := Option.some.inj (er.symm.trans er')
    exact Alk.ints et et' (hr r (List.mem_of_getElem? er))⟩
theorem Alk.two {H : Hp} {n : Nat} {a b : Addr} {x1 x2 y1 y2 : V} (h1 : H a = some (.lst [x1, x2])) (h2 : H b = some (.lst [y1, y2])) (k1 : Alk H n x1 y1) (k2 : Alk H n x2 y2) : Alk H (n + 1) (.ref a) (.ref b) :=
  .inr ⟨a, b, _, _, rfl, rfl, .inl ⟨h1, h2⟩, rfl, by show 2 ≤ 100000; decide, fun i u v e f => by
    match i, e, f with
    | 0, e, f =>
      obtain rfl := Option.some.inj e
      obtain rfl := Option.some.inj f
      exact k1
    | 1, e, f =>
      obtain rfl := Option.some.inj e
      obtain rfl := Option.some.inj f
      exact k2
    | i + 2, e, f => simp at e⟩
end El
namespace El
open PySem PySem.Spec PyProof.Rows L2 SX
theorem sm_of {i : Int} (h0 : 0 ≤ i) (h1 : i < 10 ^ 30) : Sm i := by
  have e30 : (10 : Int) ^ 30 = 1000000000000000000000000000000 := by decide
  have e31 : (10 : Nat) ^ 30 = 1000000000000000000000000000000 := by decide
  unfold Sm
  rw [e30] at h1
  rw [e31]
  omega
theorem Alk.sca {H : Hp} {n : Nat} {x : V} (h : Sca x = true) : Alk H n x x := by
  cases n with
  | zero => exact ⟨h, rfl⟩
  | succ n => exact .inl ⟨h, rfl⟩
theorem Alk.prs {H : Hp} {n : Nat} {B B' : Addr → Prop} {a b : Addr} {ts us : List Addr} {gs : List (Int × Int)} (h1 : GsAt H B a ts gs) (h2 : GsAt H B' b us gs) (hl : gs.length ≤ 100000) : Alk H (n + 2) (.ref a) (.ref b) :=
  .inr ⟨a, b, _, _, rfl, rfl, .inl ⟨h1.top, h2.top⟩, by rw [List.length_map, List.length_map, h1.len, h2.len], by rw [List.length_map, h2.len]; exact hl, fun i u v e f => by
    obtain ⟨t, r, rfl, er, et⟩ := h1.get e
    obtain ⟨t', r', rfl, er', et'⟩ := h2.get f
    obtain rfl : r = r' := Option.some.inj (er.symm.trans er')
    exact .inr ⟨t, t', _, _, rfl, rfl, .inr ⟨et, et'⟩, rfl, by show 2 ≤ 100000; decide, fun j u v e f => by
      obtain rfl : u = v := Option.some.inj (e.symm.trans f)
      rcases List.mem_cons.mp (List.mem_of_getElem? e) with rfl | m
      · exact Alk.int
      · rw [List.mem_singleton.mp m]
        exact Alk.int⟩⟩
theorem eqv_gs_nil {gs : List (Int × Int)} (h : gs ≠ []) : PyData.eqv (dGs gs) (dGs []) = false := by
  cases gs with
  | nil => exact absurd rfl h
  | cons g gs => rfl
/-- guests sorted: by age, the eldest first -/
theorem GsAt.sorted {H H' : Hp} {B : Addr → Prop} {a p : Addr} {ts : List Addr} {gs : List (Int × Int)} {zs : List V} (h : GsAt H B a ts gs) (k : Same H H') (pm : zs.Perm (ts.map V.ref)) (hz : zs.map (prOf H) = byAge gs) (e : H' p = some (.lst zs)) : ∃ us, GsAt H' (fun _ => True) p us (byAge gs) ∧ zs = us.map V.ref ∧ ∀ u ∈ us, u ∈ ts := by
  have : ∃ us : List Addr, zs = us.map V.ref ∧ ∀ u ∈ us, u ∈ ts := by
    have hm : ∀ z ∈ zs, ∃ t, z = V.ref t ∧ t ∈ ts := fun z m => by
      obtain ⟨t, mt, rfl⟩ := List.mem_map.mp (pm.mem_iff.mp m)
      exact ⟨t, rfl, mt⟩
    clear pm hz e
    induction zs with
    | nil => exact ⟨[], rfl, fun u m => by simp at m⟩
    | cons z zs ih =>
      obtain ⟨t, rfl, mt⟩ := hm z List.mem_cons_self
      obtain ⟨us, rfl, hu⟩ := ih fun y m => hm y (List.mem_cons_of_mem _ m)
      exact ⟨t :: us, rfl, fun u m => by
        rcases List.mem_cons.mp m with rfl | m
        · exact mt
        · exact hu u m⟩
  obtain ⟨us, rfl, hu⟩ := this
  refine ⟨us, ⟨e, trivial, ?_, fun i t g e1 e2 => ?_, fun _ _ => trivial⟩, rfl, hu⟩
  · have := congrArg List.length hz
    rw [List.length_map, List.length_map] at this
    exact this
  · have m := h.mem (.ref t) (pm.mem_iff.mp (List.mem_map.mpr ⟨t, List.mem_of_getElem? e1, rfl⟩))
    obtain ⟨t', et, e3⟩ := m
    injection et with et
    subst et
    have : prOf H (.ref t) = g := by
      have h2 := congrArg (fun l => l[i]?) hz
      rw [List.getElem?_map, List.getElem?_map, e1, e2] at h2
      exact Option.some.inj h2
    rw [this] at e3
    exact k _ _ e3
end El
namespace El
open PySem PySem.Spec PyProof.Rows L2 SX
def dStrs (ws : List Str) : PyData := .list (ws.map .str)
theorem Oks.strs (ws : List Str) (h : ∀ w ∈ ws, PyData.strOk w = true) : Oks 1 (dStrs ws) := .lst fun x m => by
  obtain ⟨n, mn, rfl⟩ := List.mem_map.mp m
  exact ⟨by rw [PyData.canLay0]; exact h n mn, by simp [PyData.depth]⟩
theorem strOk_S {l : List Nat} (h : ∀ x ∈ l, x < 256) : PyData.strOk (S l) = true := by
  show (l.toArray).all _ = true
  rw [← Array.all_toList, List.all_eq_true]
  intro x m
  have := h x m
  exact decide_eq_true (by omega)
theorem numI_low (i : Int) : ∀ x ∈ numI i, x < 256 := by
  intro x m
  unfold numI at m
  split at m
  · have := TL.numL_digits _ x m
    omega
  · rcases List.mem_cons.mp m with rfl | m
    · decide
    · have := TL.numL_digits _ x m
      omega
theorem twoW_low {c : Nat} (hc : c < 256) (g : Int × Int) : ∀ x ∈ twoW c g, x < 256 := by
  intro x m
  rw [twoW_is] at m
  rcases List.mem_append.mp m with m | m
  · exact numI_low _ x m
  · rcases List.mem_append.mp m with m | m
    · rw [List.mem_singleton.mp m]
      exact hc
    · exact numI_low _ x m
theorem Dp.strs {K : PySem.W.Frag} {H : Hp} {a : Addr} {ws : List Str} (h : H a = some (.lst (ws.map V.str))) : Dp K H (.ref a) (dStrs ws) := by
  refine .lst (SqL.of h) (dpAll_of (by rw [List.length_map, List.length_map]) fun i v d e f => ?_)
  rw [List.getElem?_map] at e f
  cases e2 : ws[i]? with
  | none => rw [e2] at e; cases e
  | some x =>
    rw [e2] at e f
    rw [← Option.some.inj e, ← Option.some.inj f]
    exact .str x
theorem eqv_strs_nil (ws : List Str) : PyData.eqv (dStrs ws) (dStrs []) = ws.isEmpty := by
  cases ws with
  | nil => rfl
  | cons x r => rfl
end El
namespace El
open PySem PySem.Spec PyProof.Rows L2 SX
/-! ### rooms as texts -/
def roomW (r : List Int) : List Nat := TL.joinL [44] (r.map numI)
def barL : List Nat := [32, 124, 32]
def roomsT (rs : List (List Int)) : List Nat := if rs = [] then noneL else TL.joinL barL (rs.map roomW)
structure Rml (rs : List (List Int)) : Prop where
  sm : ∀ r ∈ rs, ∀ i ∈ r, Sm i
  ne : ∀ r ∈ rs, r ≠ []
  few : rs.flatten.length ≤ 2001
theorem len_flat : ∀ {rs : List (List Int)}, (∀ r ∈ rs, r ≠ []) → rs.length ≤ rs.flatten.length
  | [], _ => Nat.zero_le _
  | r :: rs, h => by
    have h1 := List.length_pos_iff.mpr (h r List.mem_cons_self)
    have h2 := len_flat fun q m => h q (List.mem_cons_of_mem _ m)
    rw [List.flatten_cons, List.length_append, List.length_cons]
    omega
theorem room_few : ∀ {rs : List (List Int)} {r : List Int}, r ∈ rs → r.length ≤ rs.flatten.length
  | q :: rs, r, m => by
    rw [List.flatten_cons, List.length_append]
    rcases List.mem_cons.mp m with rfl | m
    · omega
    · have := room_few m
      omega
theorem Rml.rooms {rs : List (List Int)} (h : Rml rs) : rs.length ≤ 2001 := Nat.le_trans (len_flat h.ne) h.few
theorem Rml.room {rs : List (List Int)} (h : Rml rs) {r : List Int} (m : r ∈ rs) : r.length ≤ 2001 := Nat.le_trans (room_few m) h.few
theorem joinL_sum (sep : List Nat) : ∀ l : List (List Nat), (TL.joinL sep l).length ≤ (l.map (·.length)).sum + l.length * sep.length
  | [] => Nat.zero_le _
  | [w] => by
    show w.length ≤ (w.length + 0) + 1 * sep.length
    omega
  | w :: v :: r => by
    have h2 := joinL_sum sep (v :: r)
    show (w ++ (sep ++ TL.joinL sep (v :: r))).length ≤ _
    rw [List.length_append, List.length_append, List.map_cons, List.sum_cons, List.length_cons, Nat.add_mul, Nat.one_mul]
    omega
theorem roomW_len {r : List Int} (h : ∀ i ∈ r, Sm i) : (roomW r).length ≤ r.length * 32 := by
  refine Nat.le_trans (joinL_len [44] 31 _ fun w m => ?_) ?_
  · obtain ⟨i, mi, rfl⟩ := List.mem_map.mp m
    exact numI_len (h i mi)
  · rw [List.length_map]
    exact Nat.le_refl _
theorem rooms_sum : ∀ {rs : List (List Int)}, (∀ r ∈ rs, ∀ i ∈ r, Sm i) → ((rs.map roomW).map (·.length)).sum ≤ rs.flatten.length * 32
  | [], _ => Nat.le_refl _
  | r :: rs, h => by
    have h1 := roomW_len (h r List.mem_cons_self)
    have h2 := rooms_sum fun q m => h q (List.mem_cons_of_mem _ m)
    rw [List.map_cons, List.map_cons, List.sum_cons, List.flatten_cons, List.length_append, Nat.add_mul]
    omega
theorem rooms_len {rs : List (List Int)} (h : Rml rs) : (TL.joinL barL (rs.map roomW)).length ≤ 71000 := by
  have h1 := joinL_sum barL (rs.map roomW)
  have h2 := rooms_sum h.sm
  have h3 := h.rooms
  have h4 := h.few
  rw [List.length_map] at h1
  have : barL.length = 3 := rfl
  rw [this] at h1
  omega
theorem roomsT_len {rs : List (List Int)} (h : Rml rs) : (roomsT rs).length ≤ 71000 := by
  unfold roomsT
  split
  · show 4 ≤ _
    omega
  · exact rooms_len h
theorem joinL_low (sep : List Nat) {b : Nat} (hs : ∀ x ∈ sep, x < b) : ∀ l : List (List Nat), (∀ w ∈ l, ∀ x ∈ w, x < b) → ∀ x ∈ TL.joinL sep l, x < b
  | [], _ => fun x m => by simp [TL.joinL] at m
  | [w], h => h w List.mem_cons_self
  | w :: v :: r, h => fun x m => by
    have m' : x ∈ w ++ (sep ++ TL.joinL sep (v :: r)) := m
    rcases List.mem_append.mp m' with m | m
    · exact h w List.mem_cons_self x m
    · rcases List.mem_append.mp m with m | m
      · exact hs x m
      · exact joinL_low sep hs (v :: r) (fun u mu => h u (List.mem_cons_of_mem _ mu)) x m
theorem roomW_low (r : List Int) : ∀ x ∈ roomW r, x < 256 := joinL_low [44] (fun x m => by rw [List.mem_singleton.mp m]; decide) _ fun w m => by
  obtain ⟨i, _, rfl⟩ := List.mem_map.mp m
  exact numI_low i
theorem joinL_free {c : Nat} (sep : List Nat) (hs : c ∉ sep) : ∀ l : List (List Nat), (∀ w ∈ l, c ∉ w) → c ∉ TL.joinL sep l
  | [], _ => fun m => by simp [TL.joinL] at m
  | [w], h => h w List.mem_cons_self
  | w :: v :: r, h => fun m => by
    have m' : c ∈ w ++ (sep ++ TL.joinL sep (v :: r)) := m
    rcases List.mem_append.mp m' with m | m
    · exact h w List.mem_cons_self m
    · rcases List.mem_append.mp m with m | m
      · exact hs m
      · exact joinL_free sep hs (v :: r) (fun u mu => h u (List.mem_cons_of_mem _ mu)) m
theorem roomW_free (r : List Int) : 32 ∉ roomW r := joinL_free [44] (by decide) _ fun w m => by
  obtain ⟨i, _, rfl⟩ := List.mem_map.mp m
  exact numI_free i (by decide) (by decide)
theorem bar_S : (" | " : Str) = S barL := one_S.2.2.2.2.2
theorem split_rooms {rs : List (List Int)} (h : rs ≠ []) : Txt.split (S (roomsT rs)) (S barL) = (rs.map roomW).map S := by
  unfold roomsT
  rw [if_neg h, split_S (by decide) (by decide)]
  rw [show TL.spl barL 0 [] (TL.joinL barL (rs.map roomW)) = rs.map roomW from spl_join (by simpa using h) fun w m => by
    obtain ⟨r, _, rfl⟩ := List.mem_map.mp m
    exact roomW_free r]
theorem roomW_first {r : List Int} (h : r ≠ []) : ∃ d t, roomW r = d :: t ∧ (d = 45 ∨ (48 ≤ d ∧ d ≤ 57)) := by
  cases r with
  | nil => exact absurd rfl h
  | cons i r =>
    have h1 : ∃ d t, numI i = d :: t ∧ (d = 45 ∨ (48 ≤ d ∧ d ≤ 57)) := by
      unfold numI
      split
      · cases e2 : TL.numL i.toNat with
        | nil => exact absurd e2 (TL.numL_ne _)
        | cons d t => exact ⟨d, t, rfl, .inr (TL.numL_digits i.toNat d (by rw [e2]; exact List.mem_cons_self))⟩
      · exact ⟨45, _, rfl, .inl rfl⟩
    obtain ⟨d, t, e2, hd⟩ := h1
    unfold roomW
    rw [List.map_cons, e2]
    cases r with
    | nil => exact ⟨d, t, rfl, hd⟩
    | cons j r => exact ⟨d, _, rfl, hd⟩
theorem rooms_first {rs : List (List Int)} (hn : rs ≠ []) (h : ∀ r ∈ rs, r ≠ []) : ∃ d t, TL.joinL barL (rs.map roomW) = d :: t ∧ (d = 45 ∨ (48 ≤ d ∧ d ≤ 57)) := by
  cases rs with
  | nil => exact absurd rfl hn
  | cons r rs =>
    obtain ⟨d, t, e, hd⟩ := roomW_first (h r List.mem_cons_self)
    rw [List.map_cons, e]
    cases rs with
    | nil => exact ⟨d, t, rfl, hd⟩
    | cons q rs => exact ⟨d, _, rfl, hd⟩
theorem rooms_none {rs : List (List Int)} (hn : rs ≠ []) (h : ∀ r ∈ rs, r ≠ []) : roomsT rs ≠ noneL := by
  unfold roomsT
  rw [if_neg hn]
  obtain ⟨d, t, e, hd⟩ := rooms_first hn h
  rw [e]
  intro z
  have := (List.cons.inj z).1
  omega
/-! ### rules -/
section
variable {X : Cx}
theorem mtJoinK (K : PySem.W.Frag) (e : X.K = K := by rfl) : MtR X "str.join" (fun x xs H Q => ∃ a p, ∃ ys : List Str, x = .str a ∧ xs = [.ref p] ∧ (SqL K H p (ys.map V.str) ∨ SqT K H p (ys.map V.str)) ∧
    (ys.map (·.length)).sum + ys.length * a.length ≤ 16777216 ∧ Q (.str (Txt.join a ys)) H) := by
  subst e
  exact mt_join
end
/-- a list of texts, one for each number -/
theorem lc_sints {K : PySem.W.Frag} {a D : Addr} {L : List Int} {i : Nat} {te : TE} {vs : List Nat} {σ : L2.St} {H1 : Hp} {Qd : Hp → Prop} (hL : SqL K H1 a (L.map V.int)) (hD : H1 D = none) (hl : L.length ≤ 2001)
    (he : ∀ (z : Int) (H' : Hp), z ∈ L → ∀ Q : VK, Q (.str (S (numI z))) H' → te ((wipe σ vs).set i (some (.int z))) H' Q) (hw : ∀ z : Int, wipe ((wipe σ vs).set i (some (.int z))) vs = wipe σ vs)
    (hd : ∀ H2, Same H1 H2 → H2 D = some (.lst ((L.map fun z => S (numI z)).map V.str)) → Qd H2) :
    ∃ W : Nat → Nat → Hp → Prop, (∃ m, W 0 m (upd H1 D (.lst []))) ∧ ∀ k m H, W k m H →
      ((Itl K a).stop k H ∧ Qd H) ∨ ((Itl K a).go k H ∧ ∃ Nx : Hp → Prop, (∀ H', Nx H' → ∃ m', m' < m ∧ W (k + 1) m' H') ∧ ∀ x H', (Itl K a).yld k H x H' → gName i x (wipe σ vs) H' fun σ2 H2 => wipe σ2 vs = wipe σ vs ∧ tYes σ2 H2 fun b H3 =>
        if b = true then te σ2 H3 fun y H4 => ∃ acc, H4 D = some (.lst acc) ∧ acc.length < sizeLine ∧ Nx (upd H4 D (.lst (acc ++ [y]))) else Nx H3) := by
  refine lc_it (walk_list (xs := L.map V.int)) (fun k H2 => Same H1 H2 ∧ H2 D = some (.lst (((L.take k).map fun z => S (numI z)).map V.str))) ⟨same_new hD, upd_same⟩ (fun k H2 _ hW => hW.1.seq hL) (fun k x H2 H3 hk hW hY => ?_) (fun H2 hW => ?_)
  · obtain ⟨sm, e⟩ := hW
    obtain ⟨rfl, hx⟩ := hY
    obtain ⟨z, ez, rfl⟩ := ints_at hx
    refine ⟨hw z, he z H3 (List.mem_of_getElem? ez) _ ⟨_, e, ils (by rw [List.length_map, List.length_map, List.length_take]; omega), Same.mut sm hD, ?_⟩⟩
    rw [upd_same, take_snoc ez, List.map_append, List.map_append]
    rfl
  · obtain ⟨sm, e⟩ := hW
    rw [List.length_map, take_full] at e
    exact hd H2 sm e
theorem join_nums (r : List Int) : Txt.join "," (r.map fun z => S (numI z)) = S (roomW r) := by
  rw [one_S.2.2.2.1]
  unfold roomW
  rw [← join_S, List.map_map]
  rfl
theorem join_rooms (rs : List (List Int)) : Txt.join " | " (rs.map fun r => S (roomW r)) = S (TL.joinL barL (rs.map roomW)) := by
  rw [bar_S, ← join_S, List.map_map]
  rfl
theorem nums_sum {r : List Int} (h : ∀ i ∈ r, Sm i) (hl : r.length ≤ 2001) : ((r.map fun z => S (numI z)).map (·.length)).sum + (r.map fun z => S (numI z)).length * (Str.ofString ",").length ≤ 16777216 := by
  have := sum_lens (l := r.map fun z => S (numI z)) (k := 31) fun w m => by
    obtain ⟨i, mi, rfl⟩ := List.mem_map.mp m
    rw [S_len]
    exact numI_len (h i mi)
  rw [List.length_map] at this ⊢
  have l1 : (Str.ofString ",").length = 1 := rfl
  rw [l1]
  omega
theorem rooms_sum' {rs : List (List Int)} (h : Rml rs) : ((rs.map fun r => S (roomW r)).map (·.length)).sum + (rs.map fun r => S (roomW r)).length * (Str.ofString " | ").length ≤ 16777216 := by
  have h1 := rooms_sum h.sm
  have e : (rs.map fun r => S (roomW r)).map (·.length) = (rs.map roomW).map (·.length) := by
    rw [List.map_map, List.map_map]
    exact List.map_congr_left fun r _ => S_len _
  have l3 : (Str.ofString " | ").length = 3 := rfl
  rw [e, l3, List.length_map]
  have := h.rooms
  have := h.few
  omega
end El
namespace El
open PySem PySem.Spec PyProof.Rows L2
section
variable {P : Program} {w : World} {K : PySem.W.Frag} {mg : Str → Option Value} {base : Heap}
abbrev s_is_crowd : Stmt := topS 8
abbrev N_is_crowd : List Str := ["count", "patience"]
abbrev P_is_crowd : List Str := ["count", "patience"]
theorem sc_is_crowd : FnScope N_is_crowd P_is_crowd (defScope s_is_crowd) := ⟨rfl, rfl, rfl, by decide +kernel, rfl, by decide +kernel, by decide +kernel⟩
def sp_is_crowd : Sp := fun vs H Q _ => ∃ c p : Int, vs = [.int c, .int p] ∧ Q (.bl (decide (1 ≤ c) && decide (0 ≤ p))) H
theorem ok_is_crowd (A : At K mg "is_crowd" P_is_crowd s_is_crowd) : Df P w K mg base 1 "is_crowd" P_is_crowd s_is_crowd sp_is_crowd := by
  refine A.df fun f fd F => F.ok sc_is_crowd (fun vs H Q E h => ?_) (fun cdv AA outer s H vs Q E hr h => ?_)
  · obtain ⟨_, _, rfl, _⟩ := h
    rfl
  · obtain ⟨c, p, rfl, q⟩ := h
    have nd := sc_is_crowd.nd
    refine ⟨_, (pss_one (ps_ret (pe_and (pe_cmpR op_ge (pv 0) pe_int (nomark _)) (pe_one (pe_cmpR op_ge (pv 1) pe_int (nomark _)))))), ?_⟩
    refine ⟨.int c, rfl, _, _, rfl, rfl, _, rfl, ite2 (fun e => ?_) (fun e => ?_)⟩
    · have e := of_decide_eq_true e
      rw [decide_eq_true e, Bool.true_and] at q
      exact ⟨.int p, rfl, _, _, rfl, rfl, q⟩
    · rw [decide_eq_false (fun z => e (decide_eq_true z)), Bool.false_and] at q
      exact q
end
end El
namespace El
open PySem PySem.Spec PyProof.Rows L2 SX
section
variable {P : Program} {w : World} {K : PySem.W.Frag} {mg : Str → Option Value} {base : Heap}
abbrev s_is_number : Stmt := topS 17
abbrev N_is_number : List Str := ["word", "figures"]
abbrev P_is_number : List Str := ["word"]
theorem sc_is_number : FnScope N_is_number P_is_number (defScope s_is_number) := ⟨rfl, rfl, rfl, by decide +kernel, rfl, by decide +kernel, by decide +kernel⟩
def sp_is_number : Sp := fun vs H Q _ => ∃ l : List Nat, vs = [.str (S l)] ∧ l.length ≤ 100000 ∧ (∀ i, Sm i → l = numI i → Q (.bl true) H) ∧ ((∀ i, Sm i → l ≠ numI i) → Q (.bl false) H)
theorem ok_is_number {tMF : Tok} (A : At K mg "is_number" P_is_number s_is_number) (B : Bi mg) (G_MOST_FIGURES : mg "MOST_FIGURES" = some (.int 30 tMF)) : Df P w K mg base 1 "is_number" P_is_number s_is_number sp_is_number := by
  refine A.df fun f fd F => F.ok sc_is_number (fun vs H Q E h => ?_) (fun cdv AA outer s H vs Q E hr h => ?_)
  · obtain ⟨_, rfl, _⟩ := h
    rfl
  · obtain ⟨l, rfl, hl, qt, qf⟩ := h
    have nd := sc_is_number.nd
    refine ⟨_, (pss_cons (ps_set (i := 1) nd rfl (.inl rfl) (pe_bm PySem.F.plainAttrs_str PySem.F.slot_str_removeprefix PySem.F.type_str_removeprefix mt_removeprefix (pv 0) (pa_cons pe_str pa_nil)))
    (pss_cons (ps_if (PW.pt (pw_or (pt_cmpR op_gt (pe_callB call_len_str (by rfl) B.len PySem.boot_len (pa_cons (pv 1) pa_nil)) (pe_glob (v := .int 30) rfl G_MOST_FIGURES ⟨_, rfl⟩) (nomark _)) (pw_or1 (pt_not (PW.pt (pw_and (pt_val (pe_bm0 PySem.F.plainAttrs_str PySem.F.slot_str_isascii PySem.F.type_str_isascii mt_isascii (pv 1))) (pw_and1 (pt_val (pe_bm0 PySem.F.plainAttrs_str PySem.F.slot_str_isdigit PySem.F.type_str_isdigit mt_isdigit (pv 1)))))))))) (pss_one (ps_ret pe_bl)) pss_nil)
    (pss_one (ps_ret (pe_cmpR op_eq (pe_callTy call_str_int (by rfl) B.str_ (by decide +kernel) (pa_cons (pe_callTy call_int_str (by rfl) B.int_ (by decide +kernel) (pa_cons (pv 0) pa_nil)) pa_nil)) (pv 0) (nomark _)))))), ?_⟩
    refine ⟨.str (S l), rfl, rfl, S l, _, rfl, rfl, ile (by rw [S_len]; exact hl), ?_⟩
    rw [one_S.2.2.2.2.1, prefix_off]
    have huns : (unsign l).length ≤ l.length := by
      cases l with
      | nil => exact Nat.le_refl _
      | cons c r =>
        show (if c = 45 then r else c :: r).length ≤ _
        split
        · exact Nat.le_succ _
        · exact Nat.le_refl _
    -- the figures too many
    refine ⟨.str (S (unsign l)), rfl, S (unsign l), rfl, ?_, ?_⟩
    · rw [S_len]
      exact ile (by omega)
    · rw [S_len]
      refine ⟨_, _, rfl, rfl, _, rfl, ?_⟩
      by_cases hb : (30 : Int) < ((unsign l).length : Nat)
      · refine iteTx (by rw [decide_eq_true hb]) ?_
        refine iteTx rfl ?_
        exact qf fun i hi e => by
          have := len_sm hi
          rw [← e] at this
          omega
      · rw [decide_eq_false hb]
        refine iteX rfl ?_
        have hb' : (unsign l).length ≤ 30 := by omega
        have hw := digits_word (l := unsign l)
        have bad : (!(unsign l).isEmpty && (unsign l).all (fun c => decide (48 ≤ c) && decide (c ≤ 57))) = false → Q (.bl false) H := fun z => qf fun i hi e => by
          rw [e, num_word] at z
          exact Bool.noConfusion z
        refine ⟨.str (S (unsign l)), rfl, rfl, S (unsign l), rfl, rfl, trivial, _, rfl, ?_⟩
        cases ha : Txt.isascii (S (unsign l)) with
        | false =>
          refine iteX rfl ?_
          refine iteTx rfl ?_
          rw [ha] at hw
          exact bad hw.symm
        | true =>
          refine iteTx rfl ?_
          refine ⟨.str (S (unsign l)), rfl, rfl, S (unsign l), rfl, rfl, trivial, _, rfl, ?_⟩
          cases hd : Txt.isdigit (S (unsign l)) with
          | false =>
            refine iteTx rfl ?_
            rw [ha, hd] at hw
            exact bad hw.symm
          | true =>
            refine iteX rfl ?_
            rw [ha, hd] at hw
            obtain ⟨n, hr2, hn⟩ := word_reads hw.symm hb'
            have hl31 : l.length ≤ 31 := by
              cases l with
              | nil => exact Nat.zero_le _
              | cons c r =>
                have : unsign (c :: r) = if c = 45 then r else c :: r := rfl
                rw [this] at hb'
                split at hb'
                · rw [List.length_cons]
                  omega
                · omega
            refine ⟨.str (S l), rfl, S l, n, rfl, hr2, by rw [S_len]; omega, n, rfl, hn.log, .str (S l), rfl, rfl, ?_⟩
            by_cases e : numI n = l
            · rw [text_S, e, decide_eq_true rfl]
              exact qt n hn e.symm
            · rw [decide_eq_false (fun z => by
                rw [text_S] at z
                injection z with z
                exact e (S_inj z))]
              refine qf fun i hi e2 => ?_
              rw [e2, numI_reads hi] at hr2
              injection hr2 with hr2
              rw [hr2] at e2
              exact e e2.symm
end
end El
namespace El
open PySem PySem.Spec PyProof.Rows L2 SX
section
variable {P : Program} {w : World} {K : PySem.W.Frag} {mg : Str → Option Value} {base : Heap}
abbrev s_read_numbers : Stmt := topS 16
abbrev N_read_numbers : List Str := ["text", "part", "sign", "words", "word"]
abbrev P_read_numbers : List Str := ["text", "part", "sign"]
theorem sc_read_numbers : FnScope N_read_numbers P_read_numbers (defScope s_read_numbers) := ⟨rfl, rfl, rfl, by decide +kernel, rfl, by decide +kernel, by decide +kernel⟩
def Sign (c : Nat) : Prop := c < 256 ∧ c ≠ 45 ∧ c ≠ 32 ∧ (c < 48 ∨ 57 < c)
def sp_read_numbers : Sp := fun vs H Q _ => ∃ (tx : V) (c : Nat) (ls : List Int), vs = [tx, .str (S (TL.joinL [c] (ls.map numI))), .str (S [c])] ∧ Sign c ∧ (∀ i ∈ ls, Sm i) ∧ ls ≠ [] ∧ ls.length ≤ 3000 ∧ ∀ H' u, Same H H' → H u = none → H' u = some (.lst (ls.map V.int)) → Q (.ref u) H'
theorem ok_read_numbers (A : At K mg "read_numbers" P_read_numbers s_read_numbers) (B : Bi mg) (D_is_number : Df P w K mg base 1 "is_number" P_is_number s_is_number sp_is_number) : Df P w K mg base 2 "read_numbers" P_read_numbers s_read_numbers sp_read_numbers := by
  refine A.df fun f fd F => F.ok sc_read_numbers (fun vs H Q E h => ?_) (fun cdv AA outer s H vs Q E hr h => ?_)
  · obtain ⟨_, _, _, rfl, _⟩ := h
    rfl
  · obtain ⟨tx, c, ls, rfl, hc, hs, hn, hl, q⟩ := h
    have nd := sc_read_numbers.nd
    refine ⟨_, (pss_cons (ps_set (i := 3) nd rfl (.inl rfl) (pe_bm PySem.F.plainAttrs_str PySem.F.slot_str_split PySem.F.type_str_split mt_split (pv 1) (pa_cons (pv 2) pa_nil)))
    (pss_cons (ps_if (pt_not (pt_val (pe_callB (cr_all rfl) (by rfl) B.all (by decide +kernel) (pa_cons (pe_lc (own := [("word", 4)]) (tt := tYes) rfl nd (pi_list (pv 3)) (blkOk_by (N := N_read_numbers) (sc := defScope s_read_numbers) (by decide +kernel)) (fun _ _ _ _ _ => (pg_name (i := 4) nd rfl (.inl rfl))) (fun _ _ _ _ _ => pts_nil) (fun _ _ _ _ _ => (pe_df D_is_number (hr.mono (by decide)) (by rfl) (pa_cons (pv 4) pa_nil)))) pa_nil)))) (pss_one ps_never) pss_nil)
    (pss_one (ps_ret (pe_lc (own := [("word", 4)]) (tt := tYes) rfl nd (pi_list (pv 3)) (blkOk_by (N := N_read_numbers) (sc := defScope s_read_numbers) (by decide +kernel)) (fun _ _ _ _ _ => (pg_name (i := 4) nd rfl (.inl rfl))) (fun _ _ _ _ _ => pts_nil) (fun _ _ _ _ _ => (pe_callTy call_int_str (by rfl) B.int_ (by decide +kernel) (pa_cons (pv 4) pa_nil)))))))), ?_⟩
    have hlen : (TL.joinL [c] (ls.map numI)).length ≤ 96000 := by
      refine Nat.le_trans (joinL_len [c] 31 _ fun w m => ?_) (by rw [List.length_map]; show ls.length * 32 ≤ _; omega)
      obtain ⟨i, mi, rfl⟩ := List.mem_map.mp m
      exact numI_len (hs i mi)
    refine ⟨.str (S (TL.joinL [c] (ls.map numI))), rfl, rfl, .str (S [c]), rfl, S (TL.joinL [c] (ls.map numI)), S [c], rfl, rfl, rfl, by rw [S_len]; exact ils (by omega), ?_⟩
    rw [split_S (by simp) (by simpa using hc.1), spl_join (by simpa using hn) fun w m => by
      obtain ⟨i, mi, rfl⟩ := List.mem_map.mp m
      exact numI_free i hc.2.1 hc.2.2.2]
    intro W nW
    have sW : Same H (upd H W (.lst (((ls.map numI).map S).map V.str))) := same_new nW
    have eW : (upd H W (.lst (((ls.map numI).map S).map V.str))) W = some (.lst (((ls.map numI).map S).map V.str)) := upd_same
    generalize upd H W (.lst (((ls.map numI).map S).map V.str)) = H1 at sW eW ⊢
    refine ⟨_, rfl, ?_⟩
    have hlenW : (((ls.map numI).map S).map V.str).length = ls.length := by rw [List.length_map, List.length_map, List.length_map]
    have gW : ∀ k x, (((ls.map numI).map S).map V.str)[k]? = some x → ∃ i, ls[k]? = some i ∧ x = V.str (S (numI i)) := fun k x h => by
      rw [List.getElem?_map, List.getElem?_map, List.getElem?_map] at h
      cases e : ls[k]? with
      | none => rw [e] at h; cases h
      | some i => rw [e] at h; exact ⟨i, e, (Option.some.inj h).symm⟩
    refine ⟨W, rfl, ⟨_, SqL.of eW⟩, fun D nD => ?_⟩
    refine lc_it (walk_list (xs := ((ls.map numI).map S).map V.str)) (fun k H2 => Same H1 H2 ∧ H2 D = some (.lst ((List.replicate k true).map V.bl))) ⟨same_new nD, upd_same⟩ (fun k H2 _ hW => SqL.of (hW.1 _ _ eW)) (fun k x H2 H3 hk hW hY => ?_) (fun H2 hW => ?_)
    · obtain ⟨sm, e⟩ := hW
      obtain ⟨rfl, hx⟩ := hY
      obtain ⟨i, ei, rfl⟩ := gW k x hx
      have hi := hs i (List.mem_of_getElem? ei)
      refine ⟨rfl, .str (S (numI i)), rfl, numI i, rfl, Nat.le_trans (numI_len hi) (by decide), fun j _ ej => ?_, fun z => absurd rfl (z i hi)⟩
      refine ⟨_, e, ils (by rw [List.length_map, List.length_replicate]; omega), Same.mut sm nD, ?_⟩
      rw [upd_same, List.replicate_succ', List.map_append]
      rfl
    · obtain ⟨sm, e⟩ := hW
      refine ⟨_, _, rfl, SqL.of e, _, rfl, ?_⟩
      have ha : ((List.replicate (((ls.map numI).map S).map V.str).length true).all id) = true := by
        rw [List.all_eq_true]
        intro b m
        exact (List.mem_replicate.mp m).2
      rw [ha]
      refine iteX rfl ?_
      refine ⟨.ref W, rfl, W, rfl, ⟨_, SqL.of (sm _ _ eW)⟩, fun D2 nD2 => ?_⟩
      have sW2 := sm _ _ eW
      refine lc_it (walk_list (xs := ((ls.map numI).map S).map V.str)) (fun k H3 => Same H2 H3 ∧ H3 D2 = some (.lst ((ls.take k).map V.int))) ⟨same_new nD2, upd_same⟩ (fun k H3 _ hW => SqL.of (hW.1 _ _ sW2)) (fun k x H3 H4 hk hW hY => ?_) (fun H3 hW => ?_)
      · obtain ⟨sm3, e3⟩ := hW
        obtain ⟨rfl, hx⟩ := hY
        obtain ⟨i, ei, rfl⟩ := gW k x hx
        have hi := hs i (List.mem_of_getElem? ei)
        have hl1 := numI_len hi
        refine ⟨rfl, .str (S (numI i)), rfl, S (numI i), i, rfl, numI_reads hi, by rw [S_len]; omega, ?_⟩
        refine ⟨_, e3, ils (by rw [List.length_map, List.length_take]; omega), Same.mut sm3 nD2, ?_⟩
        rw [upd_same, take_snoc ei, List.map_append]
        rfl
      · obtain ⟨sm3, e3⟩ := hW
        rw [hlenW, List.take_length] at e3
        refine q H3 D2 ((sW.trans sm).trans sm3) ?_ e3
        cases e2 : H D2 with
        | none => rfl
        | some o => exact absurd ((sW.trans sm) _ _ e2) (by rw [nD2]; simp)
end
end El
namespace El
open PySem PySem.Spec PyProof.Rows L2 SX
section
variable {P : Program} {w : World} {K : PySem.W.Frag} {mg : Str → Option Value} {base : Heap}
abbrev s_parts_of : Stmt := topS 15
abbrev N_parts_of : List Str := ["text", "between"]
abbrev P_parts_of : List Str := ["text", "between"]
theorem sc_parts_of : FnScope N_parts_of P_parts_of (defScope s_parts_of) := ⟨rfl, rfl, rfl, by decide +kernel, rfl, by decide +kernel, by decide +kernel⟩
def sp_parts_of : Sp := fun vs H Q _ => ∃ (l sep : List Nat) (ps : List (List Nat)), vs = [.str (S l), .str (S sep)] ∧ sep ≠ [] ∧ l.length ≤ 90000 ∧ ((l = noneL ∧ ps = []) ∨ (l ≠ noneL ∧ Txt.split (S l) (S sep) = ps.map S)) ∧ ∀ D, H D = none → Q (.ref D) (upd H D (.lst ((ps.map S).map V.str)))
theorem ok_parts_of (A : At K mg "parts_of" P_parts_of s_parts_of) (B : Bi mg) : Df P w K mg base 1 "parts_of" P_parts_of s_parts_of sp_parts_of := by
  refine A.df fun f fd F => F.ok sc_parts_of (fun vs H Q E h => ?_) (fun cdv AA outer s H vs Q E hr h => ?_)
  · obtain ⟨_, _, _, rfl, _⟩ := h
    rfl
  · obtain ⟨l, sep, ps, rfl, hsep, hl, hc, q⟩ := h
    have nd := sc_parts_of.nd
    refine ⟨_, (pss_cons (ps_if (pt_cmpR op_eq (pv 0) pe_str (nomark _)) (pss_one (ps_ret (pe_lst pa_nil))) pss_nil)
    (pss_one (ps_ret (pe_bm PySem.F.plainAttrs_str PySem.F.slot_str_split PySem.F.type_str_split mt_split (pv 0) (pa_cons (pv 1) pa_nil))))), ?_⟩
    refine ⟨.str (S l), rfl, rfl, ?_⟩
    rcases hc with ⟨rfl, rfl⟩ | ⟨hn, hs⟩
    · rw [none_S.symm, decide_eq_true rfl]
      refine ⟨_, rfl, iteTx rfl ?_⟩
      exact ⟨by decide, fun D nD => q D nD⟩
    · rw [decide_eq_false (fun z => by
        injection z with z
        exact hn (S_inj (z.trans none_S)))]
      refine ⟨_, rfl, iteX rfl ?_⟩
      refine ⟨.str (S l), rfl, rfl, .str (S sep), rfl, S l, S sep, rfl, rfl, ?_, by rw [S_len]; exact ils (by omega), ?_⟩
      · rw [S_len]
        cases sep with
        | nil => exact absurd rfl hsep
        | cons c r => rfl
      · rw [hs]
        exact q
end
end El
namespace El
open PySem PySem.Spec PyProof.Rows L2 SX
section
variable {P : Program} {w : World} {K : PySem.W.Frag} {mg : Str → Option Value} {base : Heap}
abbrev s_falls : Stmt := topS 18
abbrev N_falls : List Str := ["ages", "elder", "younger"]
abbrev P_falls : List Str := ["ages"]
theorem sc_falls : FnScope N_falls P_falls (defScope s_falls) := ⟨rfl, rfl, rfl, by decide +kernel, rfl, by decide +kernel, by decide +kernel⟩
def fallL (ns : List Int) : List Bool := (ns.zip (ns.drop 1)).map fun p => decide (p.2 < p.1)
theorem fallL_yes {ns : List Int} (h : ns.Pairwise (· > ·)) : (fallL ns).all id = true := by
  rw [List.all_eq_true]
  intro b m
  obtain ⟨⟨x, y⟩, mp, rfl⟩ := List.mem_map.mp m
  obtain ⟨i, e⟩ := List.mem_iff_getElem?.mp mp
  rw [List.getElem?_zip_eq_some] at e
  obtain ⟨e1, e2⟩ := e
  rw [List.getElem?_drop] at e2
  have l2 := at_lt e2
  have l1 := at_lt e1
  rw [List.getElem?_eq_getElem l1] at e1
  rw [List.getElem?_eq_getElem l2] at e2
  have := List.pairwise_iff_getElem.mp h i (1 + i) l1 l2 (by omega)
  rw [Option.some.inj e1, Option.some.inj e2] at this
  exact decide_eq_true this
def sp_falls (K : PySem.W.Frag) : Sp := fun vs H Q _ => ∃ (a : Addr) (ns : List Int), vs = [.ref a] ∧ SqL K H a (ns.map V.int) ∧ ns.length ≤ 4000 ∧ ∀ H', Same H H' → Q (.bl ((fallL ns).all id)) H'
theorem ok_falls (A : At K mg "falls" P_falls s_falls) (B : Bi mg) : Df P w K mg base 1 "falls" P_falls s_falls (sp_falls K) := by
  refine A.df fun f fd F => F.ok sc_falls (fun vs H Q E h => ?_) (fun cdv AA outer s H vs Q E hr h => ?_)
  · obtain ⟨_, _, rfl, _⟩ := h
    rfl
  · obtain ⟨a, ns, rfl, hS, hl, q⟩ := h
    have nd := sc_falls.nd
    refine ⟨_, (pss_one (ps_ret (pe_callB (cr_all rfl) (by rfl) B.all (by decide +kernel) (pa_cons (pe_lc (own := [("elder", 1), ("younger", 2)]) (tt := tYes) rfl nd (pi_zip (by rfl) B.zip (pa_cons (pv 0) (pa_cons (pe_slice sl_list (pv 0) (po_some pe_int) po_none) pa_nil))) (blkOk_by (N := N_falls) (sc := defScope s_falls) (by decide +kernel)) (fun _ _ _ _ _ => (pgTupK K 2 (by rfl) (pgs_cons (pg_name (i := 1) nd rfl (.inl rfl)) (pgs_cons (pg_name (i := 2) nd rfl (.inl rfl)) pgs_nil)))) (fun _ _ _ _ _ => pts_nil) (fun _ _ _ _ _ => (pe_cmpR op_lt (pv 2) (pv 1) (nomark _)))) pa_nil)))), ?_⟩
    refine ⟨.ref a, rfl, .ref a, rfl, 1, rfl, a, _, rfl, hS, fun c nc => ?_⟩
    rw [cut_1, ← List.map_drop]
    have s1 : Same H (upd H c (.lst ((ns.drop 1).map V.int))) := same_new nc
    have ec : upd H c (.lst ((ns.drop 1).map V.int)) c = some (.lst ((ns.drop 1).map V.int)) := upd_same
    generalize upd H c (.lst ((ns.drop 1).map V.int)) = H1 at s1 ec ⊢
    refine ⟨a, c, _, _, rfl, s1.seq hS, SqL.of ec, fun D nD => ?_⟩
    refine lc_it (walk_zip (xs := ns.map V.int) (ys := (ns.drop 1).map V.int) rfl) (fun i H2 => Same H1 H2 ∧ H2 D = some (.lst (((fallL ns).take i).map V.bl))) ⟨same_new nD, upd_same⟩ (fun i H2 _ hW => ?_) (fun i x H2 H3 hi hW hY => ?_) (fun H2 hW => ?_)
    · exact ⟨(s1.trans hW.1).seq hS, SqL.of (hW.1 _ _ ec)⟩
    · obtain ⟨sm, e⟩ := hW
      obtain ⟨T, x, y, rfl, nT, rfl, hx, hy⟩ := hY
      obtain ⟨m, em, rfl⟩ := ints_at hx
      obtain ⟨n, en, rfl⟩ := ints_at hy
      have ef : (fallL ns)[i]? = some (decide (n < m)) := by
        unfold fallL
        rw [List.getElem?_map]
        have : (ns.zip (ns.drop 1))[i]? = some (m, n) := List.getElem?_zip_eq_some.mpr ⟨em, en⟩
        rw [this]
        rfl
      refine ⟨T, _, rfl, SqT.of upd_same, rfl, .int m, _, rfl, .int n, _, rfl, rfl, rfl, .int n, rfl, .int m, rfl, _, _, rfl, rfl, ?_⟩
      have hlt := at_lt ef
      refine ⟨((fallL ns).take i).map V.bl, ?_, ils (by rw [List.length_map, List.length_take]; have := at_lt em; omega), ?_, ?_⟩
      · rw [upd_ne (ne_of_none e nT)]
        exact e
      · exact Same.mut (sm.trans (same_new nT)) nD
      · rw [upd_same, take_snoc ef, List.map_append]
        rfl
    · obtain ⟨sm, e⟩ := hW
      have hlen : min (ns.map V.int).length ((ns.drop 1).map V.int).length = (fallL ns).length := by
        unfold fallL
        rw [List.length_map, List.length_map, List.length_map, List.length_zip]
      rw [hlen, List.take_length] at e
      exact ⟨_, _, rfl, SqL.of e, q H2 (s1.trans sm)⟩
end
end El
namespace El
open PySem PySem.Spec PyProof.Rows L2 SX
section
variable {P : Program} {w : World} {K : PySem.W.Frag} {mg : Str → Option Value} {base : Heap}
abbrev s_read_twos : Stmt := topS 14
abbrev N_read_twos : List Str := ["text", "sign", "told", "part", "numbers"]
abbrev P_read_twos : List Str := ["text", "sign"]
theorem sc_read_twos : FnScope N_read_twos P_read_twos (defScope s_read_twos) := ⟨rfl, rfl, rfl, by decide +kernel, rfl, by decide +kernel, by decide +kernel⟩
def sp_read_twos : Sp := fun vs H Q _ => ∃ (c : Nat) (gs : List (Int × Int)), vs = [.str (S (textOf c gs)), .str (S [c])] ∧ Sign c ∧ Sms gs ∧ gs.length ≤ 1000 ∧ ∀ H' u ts, Same H H' → GsAt H' (fun a => H a = none) u ts gs → u ∉ ts → Q (.ref u) H'
theorem ok_read_twos (A : At K mg "read_twos" P_read_twos s_read_twos) (B : Bi mg) (D_parts_of : Df P w K mg base 1 "parts_of" P_parts_of s_parts_of sp_parts_of) (D_read_numbers : Df P w K mg base 2 "read_numbers" P_read_numbers s_read_numbers sp_read_numbers) : Df P w K mg base 3 "read_twos" P_read_twos s_read_twos sp_read_twos := by
  refine A.df fun f fd F => F.ok sc_read_twos (fun vs H Q E h => ?_) (fun cdv AA outer s H vs Q E hr h => ?_)
  · obtain ⟨_, _, rfl, _⟩ := h
    rfl
  · obtain ⟨c, gs, rfl, hc, hs, hl, q⟩ := h
    have nd := sc_read_twos.nd
    refine ⟨_, (pss_cons (ps_set (i := 2) nd rfl (.inl rfl) (pe_lst pa_nil))
    (pss_cons (ps_for PassesOwn.never rfl (pi_list (pe_df D_parts_of (hr.mono (by decide)) (by rfl) (pa_cons (pv 0) (pa_cons pe_str pa_nil)))) (pg_name (i := 3) nd rfl (.inl rfl)) (pss_cons (ps_set (i := 4) nd rfl (.inl rfl) (pe_df D_read_numbers (hr.mono (by decide)) (by rfl) (pa_cons (pv 0) (pa_cons (pv 3) (pa_cons (pv 1) pa_nil))))) (pss_cons (ps_if (pt_cmpR op_ne (pe_callB call_len_seq (by rfl) B.len PySem.boot_len (pa_cons (pv 4) pa_nil)) pe_int (nomark _)) (pss_one ps_never) pss_nil) (pss_one (ps_expr (pe_bm PySem.F.plainAttrs_list PySem.F.slot_list_append PySem.F.type_list_append mt_append (pv 2) (pa_cons (pe_tup (pa_cons (pe_ix ix_list (pv 4) pe_int (fun _ _ => rfl)) (pa_cons (pe_ix ix_list (pv 4) pe_int (fun _ _ => rfl)) pa_nil))) pa_nil)))))))
    (pss_one (ps_ret (pv 2))))), ?_⟩
    have hlen := textOf_len (c := c) hs
    refine ⟨by decide, fun T nT => ?_⟩
    have sT : Same H (upd H T (.lst [])) := same_new nT
    have eT : (upd H T (.lst [])) T = some (.lst []) := upd_same
    generalize upd H T (.lst []) = H1 at sT eT ⊢
    refine ⟨.str (S (textOf c gs)), rfl, textOf c gs, [32], gs.map (twoW c), by rw [← one_S.2.2.1]; rfl, by decide, by omega, ?_, fun W nW => ?_⟩
    · by_cases hn : gs = []
      · subst hn
        exact .inl ⟨rfl, rfl⟩
      · exact .inr ⟨text_none hn, split_text hc.2.2.1 hn⟩
    have nT1 : H1 T ≠ none := by rw [eT]; simp
    have TW : T ≠ W := fun z => nT1 (by rw [z]; exact nW)
    have nW0 : H W = none := by
      cases e2 : H W with
      | none => rfl
      | some o => exact absurd (sT _ _ e2) (by rw [nW]; simp)
    have sW : Same H (upd H1 W (.lst (((gs.map (twoW c)).map S).map V.str))) := sT.trans (same_new nW)
    have eW : (upd H1 W (.lst (((gs.map (twoW c)).map S).map V.str))) W = some (.lst (((gs.map (twoW c)).map S).map V.str)) := upd_same
    have eT2 : (upd H1 W (.lst (((gs.map (twoW c)).map S).map V.str))) T = some (.lst []) := by rw [upd_ne TW]; exact eT
    generalize upd H1 W (.lst (((gs.map (twoW c)).map S).map V.str)) = H2 at sW eW eT2 ⊢
    have hlenW : (((gs.map (twoW c)).map S).map V.str).length = gs.length := by rw [List.length_map, List.length_map, List.length_map]
    have gW : ∀ k x, (((gs.map (twoW c)).map S).map V.str)[k]? = some x → ∃ g, gs[k]? = some g ∧ x = V.str (S (twoW c g)) := fun k x h => by
      rw [List.getElem?_map, List.getElem?_map, List.getElem?_map] at h
      cases e : gs[k]? with
      | none => rw [e] at h; cases h
      | some g => rw [e] at h; exact ⟨g, e, (Option.some.inj h).symm⟩
    refine ⟨W, rfl, ⟨_, SqL.of eW⟩, ?_⟩
    refine for_it (walk_list (xs := ((gs.map (twoW c)).map S).map V.str)) (fun k σ H3 => ∃ y3 y4 ts, σ = [some (.str (S (textOf c gs))), some (.str (S [c])), some (.ref T), y3, y4] ∧ Same H H3 ∧ H3 W = some (.lst (((gs.map (twoW c)).map S).map V.str)) ∧ GsAt H3 (fun a => H a = none) T ts (gs.take k) ∧ T ∉ ts) ⟨none, none, [], rfl, sW, eW, ⟨eT2, nT, rfl, fun i t g e _ => by simp at e, fun t m => by simp at m⟩, by simp⟩ (fun k σ H3 _ hW => ?_) (fun k x σ H3 H4 hk hW hY => ?_) (fun σ H3 hW => ?_)
    · obtain ⟨_, _, _, _, _, e, _⟩ := hW
      exact SqL.of e
    · obtain ⟨y3, y4, ts, rfl, sm, e, hG, hni⟩ := hW
      obtain ⟨rfl, hx⟩ := hY
      obtain ⟨g, eg, rfl⟩ := gW k x hx
      have hg := hs g (List.mem_of_getElem? eg)
      refine ⟨_, rfl, _, rfl, _, rfl, _, c, [g.1, g.2], rfl, hc, ?_, by simp, by show 2 ≤ 3000; omega, fun H5 u s5 nu eu => ?_⟩
      · intro i mi
        rcases List.mem_cons.mp mi with rfl | mi
        · exact hg.1
        · rw [List.mem_singleton.mp mi]
          exact hg.2
      · have sm5 := sm.trans s5
        have hG5 := hG.same s5
        refine ⟨.ref u, rfl, u, [.int g.1, .int g.2], rfl, .inl (SqL.of eu), rfl, _, rfl, iteX rfl ?_⟩
        refine ⟨.ref T, rfl, .inl ⟨rfl, _, hG5.seq⟩, .ref u, rfl, u, [.int g.1, .int g.2], 0, .int g.1, rfl, rfl, SqL.of eu, rfl, .ref u, rfl, u, [.int g.1, .int g.2], 1, .int g.2, rfl, rfl, SqL.of eu, rfl, (by show 2 ≤ sizeLine; decide), fun v nv => ?_⟩
        have nv0 : H v = none := by
          cases e2 : H v with
          | none => rfl
          | some o => exact absurd (sm5 _ _ e2) (by rw [nv]; simp)
        have hG6 := hG5.same (same_new (o := .tup [.int g.1, .int g.2]) nv)
        refine ⟨T, _, _, rfl, rfl, hG6.top, ils (by rw [List.length_map, hG.len, List.length_take]; omega), ?_⟩
        have hP := hG6.push hni (q := v) (g := g) upd_same nv0
        refine ⟨_, _, ts ++ [v], rfl, Same.mut (Same.mut sm5 nv0) nT, ?_, by rw [take_snoc eg]; exact hP, ?_⟩
        · rw [upd_ne (Ne.symm TW), upd_ne (fun z => by
            have := s5 _ _ e
            rw [z, nv] at this
            cases this)]
          exact s5 _ _ e
        · intro m
          rcases List.mem_append.mp m with m | m
          · exact hni m
          · rw [List.mem_singleton.mp m] at hG5
            have z := hG5.top
            rw [nv] at z
            cases z
    · obtain ⟨y3, y4, ts, rfl, sm, e, hG, hni⟩ := hW
      rw [hlenW, List.take_length] at hG
      exact ⟨_, rfl, q H3 T ts sm hG hni⟩
end
end El
namespace El
open PySem PySem.Spec PyProof.Rows L2 SX
section
variable {P : Program} {w : World} {K : PySem.W.Frag} {mg : Str → Option Value} {base : Heap}
abbrev s_read_guests : Stmt := topS 11
abbrev N_read_guests : List Str := ["text", "guests", "age", "_", "patience"]
abbrev P_read_guests : List Str := ["text"]
theorem sc_read_guests : FnScope N_read_guests P_read_guests (defScope s_read_guests) := ⟨rfl, rfl, rfl, by decide +kernel, rfl, by decide +kernel, by decide +kernel⟩
def sp_read_guests : Sp := fun vs H Q _ => ∃ (gs : List (Int × Int)), vs = [.str (S (textOf 58 gs))] ∧ (gs.map (·.1)).Pairwise (· > ·) ∧ (∀ g ∈ gs, 0 ≤ g.2) ∧ Sms gs ∧ gs.length ≤ 1000 ∧ ∀ H' u ts, Same H H' → GsAt H' (fun a => H a = none) u ts gs → u ∉ ts → Q (.ref u) H'
theorem ok_read_guests (A : At K mg "read_guests" P_read_guests s_read_guests) (B : Bi mg) (D_read_twos : Df P w K mg base 3 "read_twos" P_read_twos s_read_twos sp_read_twos) (D_falls : Df P w K mg base 1 "falls" P_falls s_falls (sp_falls K)) : Df P w K mg base 4 "read_guests" P_read_guests s_read_guests sp_read_guests := by
  refine A.df fun f fd F => F.ok sc_read_guests (fun vs H Q E h => ?_) (fun cdv AA outer s H vs Q E hr h => ?_)
  · obtain ⟨_, rfl, _⟩ := h
    rfl
  · obtain ⟨gs, rfl, hf, hp, hs, hl, q⟩ := h
    have nd := sc_read_guests.nd
    refine ⟨_, (pss_cons (ps_set (i := 1) nd rfl (.inl rfl) (pe_df D_read_twos (hr.mono (by decide)) (by rfl) (pa_cons (pv 0) (pa_cons pe_str pa_nil))))
    (pss_cons (ps_if (PW.pt (pw_or (pt_not (pt_val (pe_df D_falls (hr.mono (by decide)) (by rfl) (pa_cons (pe_lc (own := [("age", 2), ("_", 3)]) (tt := tYes) rfl nd (pi_list (pv 1)) (blkOk_by (N := N_read_guests) (sc := defScope s_read_guests) (by decide +kernel)) (fun _ _ _ _ _ => (pgTupK K 2 (by rfl) (pgs_cons (pg_name (i := 2) nd rfl (.inl rfl)) (pgs_cons (pg_name (i := 3) nd rfl (.inl rfl)) pgs_nil)))) (fun _ _ _ _ _ => pts_nil) (fun _ _ _ _ _ => (pv 2))) pa_nil)))) (pw_or1 (pt_val (pe_callB (cr_any rfl) (by rfl) B.any (by decide +kernel) (pa_cons (pe_lc (own := [("_", 3), ("patience", 4)]) (tt := tYes) rfl nd (pi_list (pv 1)) (blkOk_by (N := N_read_guests) (sc := defScope s_read_guests) (by decide +kernel)) (fun _ _ _ _ _ => (pgTupK K 2 (by rfl) (pgs_cons (pg_name (i := 3) nd rfl (.inl rfl)) (pgs_cons (pg_name (i := 4) nd rfl (.inl rfl)) pgs_nil)))) (fun _ _ _ _ _ => pts_nil) (fun _ _ _ _ _ => (pe_cmpR op_lt (pv 4) pe_int (nomark _)))) pa_nil)))))) (pss_one ps_never) pss_nil)
    (pss_one (ps_ret (pv 1))))), ?_⟩
    refine ⟨.str (S (textOf 58 gs)), rfl, 58, gs, by rw [← one_S.2.1]; rfl, ⟨by decide, by decide, by decide, .inr (by decide)⟩, hs, hl, fun H1 u ts sm hG hni => ?_⟩
    refine ⟨.ref u, rfl, u, rfl, ⟨_, hG.seq⟩, fun D nD => ?_⟩
    refine lc_prs (fun c => c.1) hG nD hl (fun c H' _ _ Q h => ⟨_, rfl, h⟩) (fun _ => rfl) (fun H2 s2 e2 => ?_)
    refine ⟨D, gs.map (·.1), rfl, SqL.of e2, by rw [List.length_map]; omega, fun H3 s3 => ⟨_, rfl, ?_⟩⟩
    rw [fallL_yes hf]
    refine iteX rfl ?_
    have s13 := s2.trans s3
    have hG3 := hG.same s13
    refine ⟨.ref u, rfl, u, rfl, ⟨_, hG3.seq⟩, fun D2 nD2 => ?_⟩
    refine lc_it (walk_list (xs := ts.map V.ref)) (fun k H2 => Same H3 H2 ∧ H2 D2 = some (.lst ((List.replicate k false).map V.bl))) ⟨same_new nD2, upd_same⟩ (fun k H2 _ hW => (hG3.same hW.1).seq) (fun k x H2 H4 hk hW hY => ?_) (fun H2 hW => ?_)
    · obtain ⟨sm2, e⟩ := hW
      obtain ⟨rfl, hx⟩ := hY
      obtain ⟨t, g, rfl, eg, et⟩ := (hG3.same sm2).get hx
      have hg := hp g (List.mem_of_getElem? eg)
      refine ⟨t, _, rfl, SqT.of et, rfl, .int g.1, _, rfl, .int g.2, _, rfl, rfl, rfl, .int g.2, rfl, _, _, rfl, rfl, ?_⟩
      dsimp only
      rw [decide_eq_false (show ¬ g.2 < 0 by omega)]
      refine ⟨_, e, ils (by rw [List.length_map, List.length_replicate]; rw [List.length_map, hG.len] at hk; omega), Same.mut sm2 nD2, ?_⟩
      rw [upd_same, List.replicate_succ', List.map_append]
      rfl
    · obtain ⟨sm2, e⟩ := hW
      refine ⟨_, _, rfl, SqL.of e, _, rfl, ?_⟩
      have ha : ((List.replicate (ts.map V.ref).length false).any id) = false := by
        rw [List.any_eq_false]
        intro b m
        rw [(List.mem_replicate.mp m).2]
        exact Bool.false_ne_true
      rw [ha]
      refine iteX rfl ?_
      exact ⟨_, rfl, q _ u ts (sm.trans (s13.trans sm2)) (hG3.same sm2) hni⟩
end
end El
namespace El
open PySem PySem.Spec PyProof.Rows L2 SX
section
variable {P : Program} {w : World} {K : PySem.W.Frag} {mg : Str → Option Value} {base : Heap}
abbrev s_read_crowds : Stmt := topS 12
abbrev N_read_crowds : List Str := ["text", "crowds", "count", "patience"]
abbrev P_read_crowds : List Str := ["text"]
theorem sc_read_crowds : FnScope N_read_crowds P_read_crowds (defScope s_read_crowds) := ⟨rfl, rfl, rfl, by decide +kernel, rfl, by decide +kernel, by decide +kernel⟩
def sp_read_crowds : Sp := fun vs H Q _ => ∃ (gs : List (Int × Int)), vs = [.str (S (textOf 120 gs))] ∧ Crw gs ∧ Sms gs ∧ gs.length ≤ 1000 ∧ ∀ H' u ts, Same H H' → GsAt H' (fun a => H a = none) u ts gs → u ∉ ts → Q (.ref u) H'
theorem ok_read_crowds (A : At K mg "read_crowds" P_read_crowds s_read_crowds) (B : Bi mg) (D_read_twos : Df P w K mg base 3 "read_twos" P_read_twos s_read_twos sp_read_twos) (D_is_crowd : Df P w K mg base 1 "is_crowd" P_is_crowd s_is_crowd sp_is_crowd) : Df P w K mg base 4 "read_crowds" P_read_crowds s_read_crowds sp_read_crowds := by
  refine A.df fun f fd F => F.ok sc_read_crowds (fun vs H Q E h => ?_) (fun cdv AA outer s H vs Q E hr h => ?_)
  · obtain ⟨_, rfl, _⟩ := h
    rfl
  · obtain ⟨gs, rfl, hC, hs, hl, q⟩ := h
    have nd := sc_read_crowds.nd
    refine ⟨_, (pss_cons (ps_set (i := 1) nd rfl (.inl rfl) (pe_df D_read_twos (hr.mono (by decide)) (by rfl) (pa_cons (pv 0) (pa_cons pe_str pa_nil))))
    (pss_cons (ps_if (pt_not (pt_val (pe_callB (cr_all rfl) (by rfl) B.all (by decide +kernel) (pa_cons (pe_lc (own := [("count", 2), ("patience", 3)]) (tt := tYes) rfl nd (pi_list (pv 1)) (blkOk_by (N := N_read_crowds) (sc := defScope s_read_crowds) (by decide +kernel)) (fun _ _ _ _ _ => (pgTupK K 2 (by rfl) (pgs_cons (pg_name (i := 2) nd rfl (.inl rfl)) (pgs_cons (pg_name (i := 3) nd rfl (.inl rfl)) pgs_nil)))) (fun _ _ _ _ _ => pts_nil) (fun _ _ _ _ _ => (pe_df D_is_crowd (hr.mono (by decide)) (by rfl) (pa_cons (pv 2) (pa_cons (pv 3) pa_nil))))) pa_nil)))) (pss_one ps_never) pss_nil)
    (pss_one (ps_ret (pv 1))))), ?_⟩
    refine ⟨.str (S (textOf 120 gs)), rfl, 120, gs, by rw [← one_S.1]; rfl, ⟨by decide, by decide, by decide, .inr (by decide)⟩, hs, hl, fun H1 u ts sm hG hni => ?_⟩
    refine ⟨.ref u, rfl, u, rfl, ⟨_, hG.seq⟩, fun D nD => ?_⟩
    refine lc_it (walk_list (xs := ts.map V.ref)) (fun k H2 => Same H1 H2 ∧ H2 D = some (.lst ((List.replicate k true).map V.bl))) ⟨same_new nD, upd_same⟩ (fun k H2 _ hW => (hG.same hW.1).seq) (fun k x H2 H3 hk hW hY => ?_) (fun H2 hW => ?_)
    · obtain ⟨sm2, e⟩ := hW
      obtain ⟨rfl, hx⟩ := hY
      obtain ⟨t, g, rfl, eg, et⟩ := (hG.same sm2).get hx
      have hg := hC g (List.mem_of_getElem? eg)
      refine ⟨t, _, rfl, SqT.of et, rfl, .int g.1, _, rfl, .int g.2, _, rfl, rfl, rfl, .int g.1, rfl, .int g.2, rfl, g.1, g.2, rfl, ?_⟩
      rw [decide_eq_true hg.1, decide_eq_true hg.2]
      refine ⟨_, e, ils (by rw [List.length_map, List.length_replicate]; rw [List.length_map, hG.len] at hk; omega), Same.mut sm2 nD, ?_⟩
      rw [upd_same, List.replicate_succ', List.map_append]
      rfl
    · obtain ⟨sm2, e⟩ := hW
      refine ⟨_, _, rfl, SqL.of e, _, rfl, ?_⟩
      have ha : ((List.replicate (ts.map V.ref).length true).all id) = true := by
        rw [List.all_eq_true]
        intro b m
        exact (List.mem_replicate.mp m).2
      rw [ha]
      refine iteX rfl ?_
      exact ⟨_, rfl, q H2 u ts (sm.trans sm2) (hG.same sm2) hni⟩
end
end El
namespace El
open PySem PySem.Spec PyProof.Rows L2 SX
section
variable {P : Program} {w : World} {K : PySem.W.Frag} {mg : Str → Option Value} {base : Heap}
abbrev s_show_guests : Stmt := topS 25
abbrev N_show_guests : List Str := ["guests", "age", "patience"]
abbrev P_show_guests : List Str := ["guests"]
theorem sc_show_guests : FnScope N_show_guests P_show_guests (defScope s_show_guests) := ⟨rfl, rfl, rfl, by decide +kernel, rfl, by decide +kernel, by decide +kernel⟩
def sp_show_guests : Sp := fun vs H Q _ => ∃ (BB : Addr → Prop) (a : Addr) (ts : List Addr) (gs : List (Int × Int)), vs = [.ref a] ∧ GsAt H BB a ts gs ∧ Fit gs ∧ Sms gs ∧ gs.length ≤ 1000 ∧ ∀ H', Same H H' → Q (.str (S (textOf 58 (byAge gs)))) H'
theorem ok_show_guests (A : At K mg "show_guests" P_show_guests s_show_guests) (B : Bi mg) : Df P w K mg base 1 "show_guests" P_show_guests s_show_guests sp_show_guests := by
  refine A.df fun f fd F => F.ok sc_show_guests (fun vs H Q E h => ?_) (fun cdv AA outer s H vs Q E hr h => ?_)
  · obtain ⟨_, _, _, _, rfl, _⟩ := h
    rfl
  · obtain ⟨BB, a, ts, gs, rfl, hG0, hF, hs0, hl0, q⟩ := h
    have nd := sc_show_guests.nd
    refine ⟨_, (pss_one (ps_ret (pe_orT (pe_bm PySem.F.plainAttrs_str PySem.F.slot_str_join PySem.F.type_str_join mt_join pe_str (pa_cons (pe_lc (own := [("age", 1), ("patience", 2)]) (tt := tYes) rfl nd (pi_list (pe_callBK (cr_sortedPK (b := true) rfl) (by rfl) B.sorted (by decide +kernel) (pa_cons (pv 0) pa_nil) (pk_cons pe_bl pk_nil))) (blkOk_by (N := N_show_guests) (sc := defScope s_show_guests) (by decide +kernel)) (fun _ _ _ _ _ => (pgTupK K 2 (by rfl) (pgs_cons (pg_name (i := 1) nd rfl (.inl rfl)) (pgs_cons (pg_name (i := 2) nd rfl (.inl rfl)) pgs_nil)))) (fun _ _ _ _ _ => pts_nil) (fun _ _ _ _ _ => (pe_joined (.cons (pe_fmt (pv 1)) (.cons pe_str (.cons (pe_fmt (pv 2)) .nil)))))) pa_nil)) (pe_one pe_str)))), ?_⟩
    refine ⟨rfl, .ref a, rfl, a, _, prOf H, rfl, rfl, hG0.seq, hG0.mem, fun ys p2 hsd hpm np2 => ?_⟩
    have hys := sorted_down hF hG0.prs hsd hpm
    rw [if_pos rfl]
    have s2 : Same H (upd H p2 (.lst ys.reverse)) := same_new np2
    obtain ⟨us, hG, huy, _⟩ := hG0.sorted s2 ((List.reverse_perm ys).trans hpm) hys (upd_same (o := .lst ys.reverse))
    generalize upd H p2 (.lst ys.reverse) = H1 at s2 hG ⊢
    have hs : Sms (byAge gs) := fun g m => hs0 g ((byAge_perm gs).mem_iff.mp m)
    have hl : (byAge gs).length ≤ 1000 := by rw [byAge_length]; exact hl0
    generalize byAge gs = cs at hG hs hl q
    refine ⟨p2, rfl, ⟨_, hG.seq⟩, fun D nD => ?_⟩
    refine lc_it (te := fun σ H Q => tJs [tFmt (tVar 1), tC (V.str (Str.ofString ":")), tFmt (tVar 2)] Str.empty σ H fun out H1 => Q (V.str out) H1) (walk_list (xs := us.map V.ref)) (fun k H2 => Same H1 H2 ∧ H2 D = some (.lst (((cs.take k).map fun g => S (twoW 58 g)).map V.str))) ⟨same_new nD, upd_same⟩ (fun k H2 _ hW => ?_) (fun k x H2 H3 hk hW hY => ?_) (fun H2 hW => ?_)
    · exact (hG.same hW.1).seq
    · obtain ⟨sm, e⟩ := hW
      obtain ⟨rfl, hx⟩ := hY
      obtain ⟨t, g, rfl, eg, et⟩ := (hG.same sm).get hx
      obtain ⟨h1, h2⟩ := hs g (List.mem_of_getElem? eg)
      have l1 := text_small h1
      have l2 := text_small h2
      have lx : (Str.ofString ":").length = 1 := rfl
      refine ⟨t, _, rfl, SqT.of et, rfl, .int g.1, _, rfl, .int g.2, _, rfl, rfl, rfl, ?_⟩
      refine ⟨.int g.1, rfl, .inr ⟨g.1, rfl, h1.log, _, rfl, ile (by rw [PySem.Str.empty_append]; omega), _, rfl, ile (by rw [PySem.Str.empty_append, PySem.Str.length_append, lx]; omega), .int g.2, rfl, .inr ⟨g.2, rfl, h2.log, _, rfl, ile (by rw [PySem.Str.empty_append, PySem.Str.length_append, PySem.Str.length_append, lx]; omega), ?_⟩⟩⟩
      refine ⟨_, e, ils (by rw [List.length_map, List.length_map, List.length_take]; omega), Same.mut sm nD, ?_⟩
      rw [upd_same, take_snoc eg, List.map_append, List.map_append]
      show some (HO.lst (_ ++ [V.str (Str.empty ++ Str.ofString (toString g.1) ++ (":" : Str) ++ Str.ofString (toString g.2))])) = _
      rw [fs_two _ _ 58 _ one_S.2.1]
      rfl
    · obtain ⟨sm, e⟩ := hW
      rw [List.length_map, hG.len, take_full] at e
      have hsz : ∀ w ∈ cs.map (fun g => S (twoW 58 g)), w.length ≤ 63 := fun w m => by
        obtain ⟨g, mg', rfl⟩ := List.mem_map.mp m
        rw [S_len]
        exact twoW_len (hs g mg')
      refine ⟨_, D, cs.map (fun g => S (twoW 58 g)), rfl, rfl, .inl (SqL.of e), ?_, ?_⟩
      · have := sum_lens hsz
        rw [List.length_map] at this ⊢
        rw [one_S.2.2.1, S_len]
        show _ + cs.length * 1 ≤ _
        omega
      · have hj : Txt.join " " (cs.map fun g => S (twoW 58 g)) = S (TL.joinL [32] (cs.map (twoW 58))) := by
          rw [one_S.2.2.1, ← join_S, List.map_map]
          rfl
        rw [hj]
        have hlen : (TL.joinL [32] (cs.map (twoW 58))).length ≤ 64000 := by
          refine Nat.le_trans (joinL_len [32] 63 _ fun w m => ?_) (by rw [List.length_map]; show cs.length * 64 ≤ _; omega)
          obtain ⟨g, mg', rfl⟩ := List.mem_map.mp m
          exact twoW_len (hs g mg')
        refine ⟨_, ⟨by rw [S_len]; exact ile (by omega), rfl⟩, ?_⟩
        rw [S_len]
        by_cases hn : cs = []
        · subst hn
          refine iteX (by rfl) ?_
          have q' := q H2 (s2.trans sm)
          unfold textOf at q'
          rw [if_pos rfl, ← none_S] at q'
          exact q'
        · have hpos : 0 < (TL.joinL [32] (cs.map (twoW 58))).length := by
            have := text_pos (c := 58) hn
            unfold textOf at this
            rw [if_neg hn] at this
            exact this
          refine iteTx (by generalize (TL.joinL [32] (cs.map (twoW 58))).length = n at hpos ⊢; cases n with | zero => omega | succ n => rfl) ?_
          have q' := q H2 (s2.trans sm)
          unfold textOf at q'
          rw [if_neg hn] at q'
          exact q'
end
end El
namespace El
open PySem PySem.Spec PyProof.Rows L2 SX
section
variable {P : Program} {w : World} {K : PySem.W.Frag} {mg : Str → Option Value} {base : Heap}
abbrev s_show_crowds : Stmt := topS 26
abbrev N_show_crowds : List Str := ["crowds", "count", "patience"]
abbrev P_show_crowds : List Str := ["crowds"]
theorem sc_show_crowds : FnScope N_show_crowds P_show_crowds (defScope s_show_crowds) := ⟨rfl, rfl, rfl, by decide +kernel, rfl, by decide +kernel, by decide +kernel⟩
def sp_show_crowds : Sp := fun vs H Q _ => ∃ (BB : Addr → Prop) (a : Addr) (ts : List Addr) (gs : List (Int × Int)), vs = [.ref a] ∧ GsAt H BB a ts gs ∧ Sms gs ∧ gs.length ≤ 1000 ∧ ∀ H', Same H H' → Q (.str (S (textOf 120 gs))) H'
theorem ok_show_crowds (A : At K mg "show_crowds" P_show_crowds s_show_crowds) (B : Bi mg) : Df P w K mg base 1 "show_crowds" P_show_crowds s_show_crowds sp_show_crowds := by
  refine A.df fun f fd F => F.ok sc_show_crowds (fun vs H Q E h => ?_) (fun cdv AA outer s H vs Q E hr h => ?_)
  · obtain ⟨_, _, _, _, rfl, _⟩ := h
    rfl
  · obtain ⟨BB, a, ts, gs, rfl, hG, hs, hl, q⟩ := h
    have nd := sc_show_crowds.nd
    refine ⟨_, (pss_one (ps_ret (pe_orT (pe_bm PySem.F.plainAttrs_str PySem.F.slot_str_join PySem.F.type_str_join mt_join pe_str (pa_cons (pe_lc (own := [("count", 1), ("patience", 2)]) (tt := tYes) rfl nd (pi_list (pv 0)) (blkOk_by (N := N_show_crowds) (sc := defScope s_show_crowds) (by decide +kernel)) (fun _ _ _ _ _ => (pgTupK K 2 (by rfl) (pgs_cons (pg_name (i := 1) nd rfl (.inl rfl)) (pgs_cons (pg_name (i := 2) nd rfl (.inl rfl)) pgs_nil)))) (fun _ _ _ _ _ => pts_nil) (fun _ _ _ _ _ => (pe_joined (.cons (pe_fmt (pv 1)) (.cons pe_str (.cons (pe_fmt (pv 2)) .nil)))))) pa_nil)) (pe_one pe_str)))), ?_⟩
    refine ⟨rfl, .ref a, rfl, a, rfl, ⟨_, hG.seq⟩, fun D nD => ?_⟩
    refine lc_it (te := fun σ H Q => tJs [tFmt (tVar 1), tC (V.str (Str.ofString "x")), tFmt (tVar 2)] Str.empty σ H fun out H1 => Q (V.str out) H1) (walk_list (xs := ts.map V.ref)) (fun k H2 => Same H H2 ∧ H2 D = some (.lst (((gs.take k).map fun g => S (twoW 120 g)).map V.str))) ⟨same_new nD, upd_same⟩ (fun k H2 _ hW => ?_) (fun k x H2 H3 hk hW hY => ?_) (fun H2 hW => ?_)
    · exact (hG.same hW.1).seq
    · obtain ⟨sm, e⟩ := hW
      obtain ⟨rfl, hx⟩ := hY
      obtain ⟨t, g, rfl, eg, et⟩ := (hG.same sm).get hx
      obtain ⟨h1, h2⟩ := hs g (List.mem_of_getElem? eg)
      have l1 := text_small h1
      have l2 := text_small h2
      have lx : (Str.ofString "x").length = 1 := rfl
      refine ⟨t, _, rfl, SqT.of et, rfl, .int g.1, _, rfl, .int g.2, _, rfl, rfl, rfl, ?_⟩
      refine ⟨.int g.1, rfl, .inr ⟨g.1, rfl, h1.log, _, rfl, ile (by rw [PySem.Str.empty_append]; omega), _, rfl, ile (by rw [PySem.Str.empty_append, PySem.Str.length_append, lx]; omega), .int g.2, rfl, .inr ⟨g.2, rfl, h2.log, _, rfl, ile (by rw [PySem.Str.empty_append, PySem.Str.length_append, PySem.Str.length_append, lx]; omega), ?_⟩⟩⟩
      refine ⟨_, e, ils (by rw [List.length_map, List.length_map, List.length_take]; omega), Same.mut sm nD, ?_⟩
      rw [upd_same, take_snoc eg, List.map_append, List.map_append]
      show some (HO.lst (_ ++ [V.str (Str.empty ++ Str.ofString (toString g.1) ++ ("x" : Str) ++ Str.ofString (toString g.2))])) = _
      rw [fs_two _ _ 120 _ one_S.1]
      rfl
    · obtain ⟨sm, e⟩ := hW
      rw [List.length_map, hG.len, take_full] at e
      have hsz : ∀ w ∈ gs.map (fun g => S (twoW 120 g)), w.length ≤ 63 := fun w m => by
        obtain ⟨g, mg', rfl⟩ := List.mem_map.mp m
        rw [S_len]
        exact twoW_len (hs g mg')
      refine ⟨_, D, gs.map (fun g => S (twoW 120 g)), rfl, rfl, .inl (SqL.of e), ?_, ?_⟩
      · have := sum_lens hsz
        rw [List.length_map] at this ⊢
        rw [one_S.2.2.1, S_len]
        show _ + gs.length * 1 ≤ _
        omega
      · have hj : Txt.join " " (gs.map fun g => S (twoW 120 g)) = S (TL.joinL [32] (gs.map (twoW 120))) := by
          rw [one_S.2.2.1, ← join_S, List.map_map]
          rfl
        rw [hj]
        have hlen : (TL.joinL [32] (gs.map (twoW 120))).length ≤ 64000 := by
          refine Nat.le_trans (joinL_len [32] 63 _ fun w m => ?_) (by rw [List.length_map]; show gs.length * 64 ≤ _; omega)
          obtain ⟨g, mg', rfl⟩ := List.mem_map.mp m
          exact twoW_len (hs g mg')
        refine ⟨_, ⟨by rw [S_len]; exact ile (by omega), rfl⟩, ?_⟩
        rw [S_len]
        by_cases hn : gs = []
        · subst hn
          refine iteX (by rfl) ?_
          have q' := q H2 sm
          unfold textOf at q'
          rw [if_pos rfl, ← none_S] at q'
          exact q'
        · have hpos : 0 < (TL.joinL [32] (gs.map (twoW 120))).length := by
            have := text_pos (c := 120) hn
            unfold textOf at this
            rw [if_neg hn] at this
            exact this
          refine iteTx (by generalize (TL.joinL [32] (gs.map (twoW 120))).length = n at hpos ⊢; cases n with | zero => omega | succ n => rfl) ?_
          have q' := q H2 sm
          unfold textOf at q'
          rw [if_neg hn] at q'
          exact q'
end
end El
namespace El
open PySem PySem.Spec PyProof.Rows L2 SX
section
variable {P : Program} {w : World} {K : PySem.W.Frag} {mg : Str → Option Value} {base : Heap}
abbrev s_show_rooms : Stmt := topS 27
abbrev N_show_rooms : List Str := ["rooms", "room", "age"]
abbrev P_show_rooms : List Str := ["rooms"]
theorem sc_show_rooms : FnScope N_show_rooms P_show_rooms (defScope s_show_rooms) := ⟨rfl, rfl, rfl, by decide +kernel, rfl, by decide +kernel, by decide +kernel⟩
abbrev scI_show_rooms : Scope := match defBody s_show_rooms with
  | [.Return (some (.BoolOp _ (.Call _ (.ListComp _ _ sc _ :: _) _ _ :: _) _)) _] => sc
  | _ => defScope s_show_rooms
def sp_show_rooms : Sp := fun vs H Q _ => ∃ (BB : Addr → Prop) (a : Addr) (ts : List Addr) (rs : List (List Int)), vs = [.ref a] ∧ RmsAt H BB a ts rs ∧ Rml rs ∧ ∀ H', Same H H' → Q (.str (S (roomsT rs))) H'
theorem ok_show_rooms (A : At K mg "show_rooms" P_show_rooms s_show_rooms) (B : Bi mg) : Df P w K mg base 1 "show_rooms" P_show_rooms s_show_rooms sp_show_rooms := by
  refine A.df fun f fd F => F.ok sc_show_rooms (fun vs H Q E h => ?_) (fun cdv AA outer s H vs Q E hr h => ?_)
  · obtain ⟨_, _, _, _, rfl, _⟩ := h
    rfl
  · obtain ⟨BB, a, ts, rs, rfl, hR, hm, q⟩ := h
    have nd := sc_show_rooms.nd
    refine ⟨_, (pss_one (ps_ret (pe_orT (pe_bm PySem.F.plainAttrs_str PySem.F.slot_str_join PySem.F.type_str_join mt_join pe_str (pa_cons (pe_lc (own := [("room", 1)]) (tt := tYes) rfl nd (pi_list (pv 0)) (blkOk_by (N := N_show_rooms) (sc := defScope s_show_rooms) (by decide +kernel)) (fun _ _ _ _ _ => (pg_name (i := 1) nd rfl (.inl rfl))) (fun _ _ _ _ _ => pts_nil) (fun _ _ _ _ _ => (bmK K PySem.F.plainAttrs_str PySem.F.slot_str_join PySem.F.type_str_join (mtJoinK K) pe_str (pa_cons (pe_lc (own := [("age", 2)]) (tt := tYes) rfl nd (piListK K (pv 1)) (blkOk_by (N := N_show_rooms) (sc := scI_show_rooms) (by decide +kernel)) (fun _ _ _ _ _ => (pg_name (i := 2) nd rfl (.inl rfl))) (fun _ _ _ _ _ => pts_nil) (fun _ _ _ _ _ => (pe_callTy call_str_int (by rfl) B.str_ (by decide +kernel) (pa_cons (pv 2) pa_nil)))) pa_nil)))) pa_nil)) (pe_one pe_str)))), ?_⟩
    have hl := hm.rooms
    refine ⟨rfl, .ref a, rfl, a, rfl, ⟨_, hR.seq⟩, fun D nD => ?_⟩
    refine lc_it (walk_list (xs := ts.map V.ref)) (fun k H2 => Same H H2 ∧ H2 D = some (.lst (((rs.take k).map fun r => S (roomW r)).map V.str))) ⟨same_new nD, upd_same⟩ (fun k H2 _ hW => ?_) (fun k x H2 H3 hk hW hY => ?_) (fun H2 hW => ?_)
    · exact (hR.same hW.1).seq
    · obtain ⟨sm, e⟩ := hW
      obtain ⟨rfl, hx⟩ := hY
      obtain ⟨t, r, rfl, _, er, et⟩ := (hR.same sm).get hx
      have mr := List.mem_of_getElem? er
      refine ⟨rfl, rfl, .ref t, rfl, t, rfl, ⟨_, SqL.of et⟩, fun D2 nD2 => ?_⟩
      refine lc_sints (SqL.of et) nD2 (hm.room mr) (fun z H' mz Q h => ⟨.int z, rfl, z, rfl, (hm.sm r mr z mz).log, by rw [← text_S] at h; exact h⟩) (fun _ => rfl) (fun H4 s4 e4 => ?_)
      refine ⟨",", D2, r.map (fun z => S (numI z)), rfl, rfl, .inl (SqL.of e4), nums_sum (hm.sm r mr) (hm.room mr), ?_⟩
      rw [join_nums]
      have e' := s4 _ _ e
      refine ⟨_, e', ils (by rw [List.length_map, List.length_map, List.length_take]; omega), Same.mut (sm.trans s4) nD, ?_⟩
      rw [upd_same, take_snoc er, List.map_append, List.map_append]
      rfl
    · obtain ⟨sm, e⟩ := hW
      rw [List.length_map, hR.len, take_full] at e
      refine ⟨" | ", D, rs.map (fun r => S (roomW r)), rfl, rfl, .inl (SqL.of e), rooms_sum' hm, ?_⟩
      rw [join_rooms]
      have hlen := rooms_len hm
      refine ⟨_, ⟨by rw [S_len]; exact ile (by omega), rfl⟩, ?_⟩
      rw [S_len]
      have q' := q H2 sm
      unfold roomsT at q'
      by_cases hn : rs = []
      · subst hn
        refine iteX (by rfl) ?_
        rw [if_pos rfl, ← none_S] at q'
        exact q'
      · obtain ⟨d, t, e2, _⟩ := rooms_first hn hm.ne
        rw [if_neg hn] at q'
        refine iteTx (by rw [e2]; rfl) ?_
        exact q'
end
end El
namespace El
open PySem PySem.Spec PyProof.Rows L2
/-! ### the tray of draws -/
structure Tray (H : Hp) (t g : Addr) (n : Nat) : Prop where
  ne : t ≠ g
  ex : ∃ (gs : List Int) (a c d : Int), H t = some (.lst [.ref g, .int a, .int c, .int d]) ∧ H g = some (.lst (gs.map V.int)) ∧ (∀ x ∈ gs, 0 ≤ x) ∧ gs.length ≤ 63 ∧ 0 ≤ a ∧ 0 ≤ c ∧ c < 2305843009213693951 ∧ 0 ≤ d ∧ d ≤ n
/-- what is no part of the tray -/
def Off (t g : Addr) (b : Addr) : Prop := b ≠ t ∧ b ≠ g
theorem Tray.keep {H H' : Hp} {t g : Addr} {n : Nat} (h : Tray H t g n) (k : Same H H') : Tray H' t g n := by
  obtain ⟨gs, a, c, d, h1, h2, h3⟩ := h.ex
  exact ⟨h.ne, gs, a, c, d, k _ _ h1, k _ _ h2, h3⟩
theorem Tray.more {H : Hp} {t g : Addr} {n m : Nat} (h : Tray H t g n) (k : n ≤ m) : Tray H t g m := by
  obtain ⟨gs, a, c, d, h1, h2, h3, h4, h5, h6, h7, h8, h9⟩ := h.ex
  exact ⟨h.ne, gs, a, c, d, h1, h2, h3, h4, h5, h6, h7, h8, by omega⟩
theorem Tray.off {H : Hp} {t g : Addr} {n : Nat} (h : Tray H t g n) {p : Addr} (e : H p = none) : Off t g p := by
  obtain ⟨gs, a, c, d, h1, h2, _⟩ := h.ex
  exact ⟨no_of h1 e, no_of h2 e⟩
theorem Tray.mut {H : Hp} {t g : Addr} {n : Nat} (h : Tray H t g n) {p : Addr} {o : HO} (k : Off t g p) : Tray (upd H p o) t g n := by
  obtain ⟨gs, a, c, d, h1, h2, h3⟩ := h.ex
  exact ⟨h.ne, gs, a, c, d, by rw [upd_ne k.1.symm]; exact h1, by rw [upd_ne k.2.symm]; exact h2, h3⟩
theorem Kp.off {H H' : Hp} {t g p : Addr} {o : HO} (e : Kp (Off t g) H H') (h : p = t ∨ p = g) : Kp (Off t g) H (upd H' p o) := e.mut fun z => by
  rcases h with rfl | rfl
  · exact z.1 rfl
  · exact z.2 rfl
end El
namespace El
open PySem PySem.Spec PyProof.Rows L2
section
variable {P : Program} {w : World} {K : PySem.W.Frag} {mg : Str → Option Value} {base : Heap}
abbrev s__law_tray : Stmt := topS 29
abbrev N__law_tray : List Str := ["script", "fold", "great", "cell", "much"]
abbrev P__law_tray : List Str := ["script"]
theorem sc__law_tray : FnScope N__law_tray P__law_tray (defScope s__law_tray) := ⟨rfl, rfl, rfl, by decide +kernel, rfl, by decide +kernel, by decide +kernel⟩
def sp__law_tray (K : PySem.W.Frag) : Sp := fun vs H Q _ => ∃ (a : Addr) (ns : List Int), vs = [.ref a] ∧ SqL K H a (ns.map V.int) ∧ ns.length ≤ 63 ∧
  ∀ H' t g, Same H H' → H t = none → H g = none → Tray H' t g 0 → Q (.ref t) H'
theorem ok__law_tray (A : At K mg "_law_tray" P__law_tray s__law_tray) (B : Bi mg) : Df P w K mg base 1 "_law_tray" P__law_tray s__law_tray (sp__law_tray K) := by
  refine A.df fun f fd F => F.ok sc__law_tray (fun vs H Q E h => ?_) (fun cdv AA outer s H vs Q E hr h => ?_)
  · obtain ⟨a, _, rfl, _⟩ := h
    rfl
  · obtain ⟨a, ns, rfl, hS, hl, q⟩ := h
    have nd := sc__law_tray.nd
    refine ⟨_, (pss_cons (ps_set (i := 1) nd rfl (.inl rfl) pe_int)
    (pss_cons (ps_set (i := 2) nd rfl (.inl rfl) (pe_lst pa_nil))
    (pss_cons (ps_for PassesOwn.never rfl (pi_list (pv 0)) (pg_name (i := 3) nd rfl (.inl rfl)) (pss_cons (ps_set (i := 1) nd rfl (.inl rfl) (pe_op op_mod (pe_op op_add (pe_op op_mul (pv 1) pe_int) (pv 3)) (pe_op op_sub (pe_op op_pow pe_int pe_int) pe_int))) (pss_cons (ps_set (i := 4) nd rfl (.inl rfl) (pe_callB (call_max2 rfl) (by rfl) B.max (by decide +kernel) (pa_cons (pv 3) (pa_cons (pe_op op_sub pe_int (pv 3)) pa_nil)))) (pss_one (ps_if (pt_cmpR op_ge (pv 4) (pe_op op_pow pe_int pe_int) (nomark _)) (pss_one (ps_expr (pe_bm PySem.F.plainAttrs_list PySem.F.slot_list_append PySem.F.type_list_append mt_append (pv 2) (pa_cons (pe_op op_sub (pv 4) (pe_op op_pow pe_int pe_int)) pa_nil)))) pss_nil)))))
    (pss_one (ps_ret (pe_lst (pa_cons (pv 2) (pa_cons pe_int (pa_cons (pv 1) (pa_cons pe_int pa_nil)))))))))), ?_⟩
    refine ⟨Nat.zero_le _, fun g ng => ?_⟩
    refine ⟨.ref a, rfl, a, rfl, ⟨_, (same_new ng).seq hS⟩, ?_⟩
    refine for_it (walk_list (xs := ns.map V.int)) (fun i σ H2 => ∃ (c : Int) (gs : List Int) (y3 y4 : Option V), σ = [some (.ref a), some (.int c), some (.ref g), y3, y4] ∧ Same H H2 ∧ H2 g = some (.lst (gs.map V.int)) ∧ (∀ x ∈ gs, 0 ≤ x) ∧ gs.length ≤ i ∧ 0 ≤ c ∧ c < 2305843009213693951)
      ⟨314159265358979, [], none, none, rfl, same_new ng, upd_same, fun x h => absurd h (by simp), Nat.le_refl _, by decide, by decide⟩ (fun i σ H2 _ hW => ?_) (fun i x σ H2 H3 hi hW hY => ?_) (fun σ H2 hW => ?_)
    · obtain ⟨_, _, _, _, _, sm, _⟩ := hW
      exact sm.seq hS
    · obtain ⟨c, gs, y3, y4, rfl, sm, eg, hp, hgl, c0, c1⟩ := hW
      obtain ⟨rfl, hx⟩ := hY
      obtain ⟨n, hx', rfl⟩ := ints_at hx
      have hil : i < 63 := by
        rw [List.length_map] at hi
        omega
      -- fold = (fold * 1000003 + cell) % (2 ** 61 - 1)
      refine ⟨.int c, rfl, _, _, rfl, rfl, .inl ⟨by omega, by omega⟩, .int n, rfl, _, _, rfl, rfl, _, _, rfl, rfl, ⟨by decide, by decide, by decide⟩, _, _, rfl, rfl, _, _, rfl, rfl, (by show (0 : Int) < 2 ^ 61 - 1; decide), ?_⟩
      -- much = max(cell, 0 - cell)
      refine ⟨.int n, rfl, .int n, rfl, _, _, rfl, rfl, _, _, rfl, ?_⟩
      have m0 : 0 ≤ (if 0 - n > n then 0 - n else n) := by split <;> omega
      revert m0
      generalize (if 0 - n > n then 0 - n else n) = m
      intro m0
      have em : (2 : Int) ^ 61 - 1 = 2305843009213693951 := by decide
      have f0 : 0 ≤ (c * 1000003 + n) % (2 ^ 61 - 1) := Int.emod_nonneg _ (by decide)
      have f1 : (c * 1000003 + n) % (2 ^ 61 - 1) < 2305843009213693951 := by
        have := Int.emod_lt_of_pos (c * 1000003 + n) (show (0 : Int) < 2 ^ 61 - 1 by decide)
        omega
      -- if much >= 10 ** 18
      refine ⟨.int m, rfl, _, _, rfl, rfl, ⟨by decide, by decide, by decide⟩, _, _, rfl, rfl, _, rfl, ite2 (fun e => ?_) (fun e => ?_)⟩
      · have e : (10 : Int) ^ (18 : Int).toNat ≤ m := of_decide_eq_true e
        refine ⟨.ref g, rfl, .inl ⟨rfl, _, SqL.of eg⟩, .int m, rfl, _, _, rfl, rfl, ⟨by decide, by decide, by decide⟩, _, _, rfl, rfl, g, _, _, rfl, rfl, eg, ils (by rw [List.length_map]; omega), ?_⟩
        refine ⟨_, gs ++ [m - 10 ^ (18 : Int).toNat], _, _, rfl, Same.mut sm ng, by rw [upd_same, List.map_append]; rfl, fun x hx => ?_, by rw [List.length_append, List.length_singleton]; omega, f0, f1⟩
        rcases List.mem_append.mp hx with hx | hx
        · exact hp x hx
        · rw [List.mem_singleton.mp hx]
          omega
      · exact ⟨_, gs, _, _, rfl, sm, eg, hp, Nat.le_succ_of_le hgl, f0, f1⟩
    · obtain ⟨c, gs, y3, y4, rfl, sm, eg, hp, hgl, c0, c1⟩ := hW
      rw [List.length_map] at hgl
      refine ⟨.ref g, rfl, .int c, rfl, (by show 4 ≤ sizeLine; decide), fun t nt => ?_⟩
      have ntg : g ≠ t := ne_of_none eg nt
      exact q _ t g (sm.trans (same_new nt)) (sm.free nt) ng ⟨ntg.symm, gs, 0, c, 0, upd_same, by rw [upd_ne ntg]; exact eg, hp, by omega, by decide, c0, c1, by decide, by decide⟩
end
end El
namespace El
open PySem PySem.Spec PyProof.Rows L2
section
variable {P : Program} {w : World} {K : PySem.W.Frag} {mg : Str → Option Value} {base : Heap}
abbrev s__law_draw : Stmt := topS 30
abbrev N__law_draw : List Str := ["tray", "many", "found", "mixed"]
abbrev P__law_draw : List Str := ["tray", "many"]
theorem sc__law_draw : FnScope N__law_draw P__law_draw (defScope s__law_draw) := ⟨rfl, rfl, rfl, by decide +kernel, rfl, by decide +kernel, by decide +kernel⟩
def sp__law_draw : Sp := fun vs H Q _ => ∃ (t g : Addr) (n : Nat) (m : Int), vs = [.ref t, .int m] ∧ Tray H t g n ∧ n ≤ 1000000000 ∧ 0 < m ∧ m < 2 ^ 200 ∧
  ∀ H' r, Kp (Off t g) H H' → Tray H' t g (n + 1) → 0 ≤ r → r < m → Q (.int r) H'
theorem ok__law_draw (A : At K mg "_law_draw" P__law_draw s__law_draw) (B : Bi mg) : Df P w K mg base 1 "_law_draw" P__law_draw s__law_draw sp__law_draw := by
  refine A.df fun f fd F => F.ok sc__law_draw (fun vs H Q E h => ?_) (fun cdv AA outer s H vs Q E hr h => ?_)
  · obtain ⟨_, _, _, _, rfl, _⟩ := h
    rfl
  · obtain ⟨t, g, n, m, rfl, hT, hn, m0, m1, q⟩ := h
    have nd := sc__law_draw.nd
    refine ⟨_, (pss_cons (ps_while PassesOwn.never (PW.pt (pw_and (pt_cmpR op_lt (pe_ix ix_list (pv 0) pe_int (fun _ _ => rfl)) pe_int (nomark _)) (pw_and1 (pt_cmpR (op_neD hr.units) (pe_ix ix_list (pv 0) pe_int (fun _ _ => rfl)) (pe_lst pa_nil) (nomark _))))) (pss_one (ps_asg (pe_bm PySem.F.plainAttrs_list PySem.F.slot_list_pop PySem.F.type_list_pop mt_popAt (pe_ix ix_list (pv 0) pe_int (fun _ _ => rfl)) (pa_cons pe_int pa_nil)) (pg_sub (pv 0) pe_int set_list))))
    (pss_cons (ps_if (pt_cmpR op_ge (pe_ix ix_list (pv 0) pe_int (fun _ _ => rfl)) pe_int (nomark _)) (pss_cons (ps_set (i := 2) nd rfl (.inl rfl) (pe_op op_mod (pe_ix ix_list (pv 0) pe_int (fun _ _ => rfl)) (pv 1))) (pss_cons (ps_asg (pe_op op_fdivW (pe_ix ix_list (pv 0) pe_int (fun _ _ => rfl)) (pv 1)) (pg_sub (pv 0) pe_int set_list)) (pss_one (ps_ret (pv 2))))) pss_nil)
    (pss_cons (ps_asg (pe_op op_add (pe_ix ix_list (pv 0) pe_int (fun _ _ => rfl)) pe_int) (pg_sub (pv 0) pe_int set_list))
    (pss_cons (ps_set (i := 3) nd rfl (.inl rfl) (pe_op op_mod (pe_op op_add (pe_op op_mul (pe_op op_add (pe_ix ix_list (pv 0) pe_int (fun _ _ => rfl)) pe_int) (pe_op op_pow (pe_op op_add (pe_ix ix_list (pv 0) pe_int (fun _ _ => rfl)) pe_int) pe_int)) (pe_op op_mul pe_int (pe_ix ix_list (pv 0) pe_int (fun _ _ => rfl)))) (pe_op op_sub (pe_op op_pow pe_int pe_int) pe_int)))
    (pss_one (ps_ret (pe_op op_mod (pe_op op_fdivW (pe_op op_mod (pe_op op_pow (pv 3) pe_int) (pe_op op_add (pe_op op_pow pe_int pe_int) pe_int)) pe_int) (pv 1)))))))), ?_⟩
    have ne := hT.ne
    obtain ⟨gs0, a0, c0, d0, i1, i2, i3, i4, i5, i6, i7, i8, i9⟩ := hT.ex
    refine seq_to (fun σ H2 => σ = [some (.ref t), some (.int m), none, none] ∧ Kp (Off t g) H H2 ∧ Tray H2 t g n) (fun X hX => ?_) (fun σ H2 hE => ?_)
    · -- the while
      refine while_to (fun k σ H2 => σ = [some (.ref t), some (.int m), none, none] ∧ Kp (Off t g) H H2 ∧ ∃ (gs : List Int) (a c d : Int), H2 t = some (.lst [.ref g, .int a, .int c, .int d]) ∧ H2 g = some (.lst (gs.map V.int)) ∧ (∀ x ∈ gs, 0 ≤ x) ∧ gs.length ≤ 63 ∧ 0 ≤ a ∧ 0 ≤ c ∧ c < 2305843009213693951 ∧ 0 ≤ d ∧ d ≤ n ∧ k = gs.length)
        (fun σ H2 => σ = [some (.ref t), some (.int m), none, none] ∧ Kp (Off t g) H H2 ∧ Tray H2 t g n) ⟨gs0.length, rfl, Kp.refl, gs0, a0, c0, d0, i1, i2, i3, i4, i5, i6, i7, i8, i9, rfl⟩ hX (fun X hX k σ H2 hW => ?_)
      obtain ⟨rfl, kp, gs, a, c, d, j1, j2, j3, j4, j5, j6, j7, j8, j9, rfl⟩ := hW
      refine ⟨.ref t, rfl, t, _, 1, .int a, rfl, rfl, SqL.of j1, atI_nat (j := 1) rfl, _, _, rfl, rfl, _, rfl, ite2 (fun ea => ?_) (fun ea => ?_)⟩
      · refine ⟨.ref t, rfl, t, _, 0, .ref g, rfl, rfl, SqL.of j1, atI_nat (j := 0) rfl, Nat.zero_le _, fun u nu => ?_⟩
        have s1 : Same H2 (upd H2 u (.lst [])) := same_new nu
        refine ⟨dInts gs, dInts [], Dp.ints (s1 _ _ j2), Dp.ints upd_same, (Oks.ints _).shaped, (Oks.ints _).shaped, _, rfl, ?_⟩
        rw [eqv_nil]
        cases gs with
        | nil => exact iteF (hX _ _ ⟨rfl, kp.trans (.of s1), ne, [], a, c, d, s1 _ _ j1, s1 _ _ j2, j3, j4, j5, j6, j7, j8, j9⟩)
        | cons x r =>
          refine iteT ⟨fun σ' H' => σ' = [some (.ref t), some (.int m), none, none] ∧ Kp (Off t g) H H' ∧ ∃ (gs : List Int) (a c d : Int), H' t = some (.lst [.ref g, .int a, .int c, .int d]) ∧ H' g = some (.lst (gs.map V.int)) ∧ (∀ x ∈ gs, 0 ≤ x) ∧ gs.length ≤ 63 ∧ 0 ≤ a ∧ 0 ≤ c ∧ c < 2305843009213693951 ∧ 0 ≤ d ∧ d ≤ n ∧ r.length = gs.length, fun σ' H' h => ⟨r.length, Nat.lt_succ_self _, h⟩, ?_⟩
          refine ⟨.ref t, rfl, t, _, 0, .ref g, rfl, rfl, SqL.of (s1 _ _ j1), atI_nat (j := 0) rfl, .inl ⟨rfl, _, SqL.of (s1 _ _ j2)⟩, g, _, 0, 0, .int x, rfl, rfl, s1 _ _ j2, by decide, by decide, seq_ix (j := 0) (by simp), rfl, ?_⟩
          refine ⟨.ref t, rfl, t, _, 1, 1, rfl, rfl, (by rw [upd_ne ne]; exact s1 _ _ j1), rfl, ?_⟩
          refine ⟨rfl, (Kp.off (Kp.off (kp.trans (.of s1)) (.inr rfl)) (.inl rfl)), r, x, c, d, by rw [upd_same]; rfl, by rw [upd_ne ne.symm, upd_same]; rfl, fun y hy => j3 y (List.mem_cons_of_mem _ hy), Nat.le_of_succ_le j4, j3 x List.mem_cons_self, j6, j7, j8, j9, rfl⟩
      · exact iteF (hX _ _ ⟨rfl, kp, ne, gs, a, c, d, j1, j2, j3, j4, j5, j6, j7, j8, j9⟩)
    · obtain ⟨rfl, kp, hT2⟩ := hE
      obtain ⟨gs, a, c, d, j1, j2, j3, j4, j5, j6, j7, j8, j9⟩ := hT2.ex
      have g1 : CDivW a m := ⟨m0, Nat.lt_trans (log_lt m0 m1) (by decide)⟩
      -- if tray[1] >= 2
      refine ⟨.ref t, rfl, t, _, 1, .int a, rfl, rfl, SqL.of j1, atI_nat (j := 1) rfl, _, _, rfl, rfl, _, rfl, ite2 (fun ea => ?_) (fun ea => ?_)⟩
      · refine ⟨.ref t, rfl, t, _, 1, .int a, rfl, rfl, SqL.of j1, atI_nat (j := 1) rfl, .int m, rfl, _, _, rfl, rfl, m0, ?_⟩
        refine ⟨.ref t, rfl, t, _, 1, .int a, rfl, rfl, SqL.of j1, atI_nat (j := 1) rfl, .int m, rfl, _, _, rfl, rfl, g1, ?_⟩
        refine ⟨.ref t, rfl, t, _, 1, 1, rfl, rfl, j1, rfl, _, rfl, ?_⟩
        exact q _ _ (Kp.off kp (.inl rfl)) ⟨ne, gs, a / m, c, d, by rw [upd_same]; rfl, by rw [upd_ne ne.symm]; exact j2, j3, j4, Int.ediv_nonneg j5 (by omega), j6, j7, j8, by omega⟩ (Int.emod_nonneg _ (by omega)) (Int.emod_lt_of_pos _ m0)
      · -- tray[3] = tray[3] + 1
        refine ⟨.ref t, rfl, t, _, 3, .int d, rfl, rfl, SqL.of j1, atI_nat (j := 3) rfl, _, _, rfl, rfl, ?_⟩
        refine ⟨.ref t, rfl, t, _, 3, 3, rfl, rfl, j1, rfl, ?_⟩
        have e1 : upd H2 t (.lst ([V.ref g, .int a, .int c, .int d].set 3 (.int (d + 1)))) t = some (.lst [.ref g, .int a, .int c, .int (d + 1)]) := by rw [upd_same]; rfl
        have hT3 : Tray (upd H2 t (.lst ([V.ref g, .int a, .int c, .int d].set 3 (.int (d + 1))))) t g (n + 1) := ⟨ne, gs, a, c, d + 1, e1, by rw [upd_ne ne.symm]; exact j2, j3, j4, j5, j6, j7, by omega, by omega⟩
        have k3 : Kp (Off t g) H (upd H2 t (.lst ([V.ref g, .int a, .int c, .int d].set 3 (.int (d + 1))))) := Kp.off kp (.inl rfl)
        revert e1 hT3 k3
        generalize upd H2 t (.lst ([V.ref g, .int a, .int c, .int d].set 3 (.int (d + 1)))) = H3
        intro e1 hT3 k3
        -- mixed
        refine ⟨.ref t, rfl, t, _, 2, .int c, rfl, rfl, SqL.of e1, atI_nat (j := 2) rfl, _, _, rfl, rfl, .ref t, rfl, t, _, 3, .int (d + 1), rfl, rfl, SqL.of e1, atI_nat (j := 3) rfl, _, _, rfl, rfl, _, _, rfl, rfl, ⟨by decide, by decide, ?_⟩, _, _, rfl, rfl, .inl ⟨by omega, by omega⟩,
          .ref t, rfl, t, _, 3, .int (d + 1), rfl, rfl, SqL.of e1, atI_nat (j := 3) rfl, _, _, rfl, rfl, .inl ⟨by decide, by decide⟩, _, _, rfl, rfl, _, _, rfl, rfl, ⟨by decide, by decide, by decide⟩, _, _, rfl, rfl, _, _, rfl, rfl, (by show (0 : Int) < 2 ^ 61 - 1; decide), ?_⟩
        · show (d + 1 + 2).natAbs < 2 ^ 64
          omega
        · have f0 : 0 ≤ ((c + 5) * (d + 1 + 2) ^ (3 : Int).toNat + 1000003 * (d + 1)) % (2 ^ (61 : Int).toNat - 1) := Int.emod_nonneg _ (by decide)
          have f1 : ((c + 5) * (d + 1 + 2) ^ (3 : Int).toNat + 1000003 * (d + 1)) % (2 ^ (61 : Int).toNat - 1) < 2 ^ 61 - 1 := Int.emod_lt_of_pos _ (show (0 : Int) < 2 ^ 61 - 1 by decide)
          refine ⟨_, rfl, _, _, rfl, rfl, ⟨by decide, by decide, ?_⟩, _, _, rfl, rfl, ⟨by decide, by decide, by decide⟩, _, _, rfl, rfl, _, _, rfl, rfl, (by show (0 : Int) < 10 ^ 18 + 9; decide), _, _, rfl, rfl, ⟨by decide, by decide⟩, .int m, rfl, _, _, rfl, rfl, m0, ?_⟩
          · show (((c + 5) * (d + 1 + 2) ^ (3 : Int).toNat + 1000003 * (d + 1)) % (2 ^ (61 : Int).toNat - 1)).natAbs < 2 ^ 64
            omega
          · exact q _ _ k3 hT3 (Int.emod_nonneg _ (by omega)) (Int.emod_lt_of_pos _ m0)
end
end El
namespace El
open PySem PySem.Spec PyProof.Rows L2
section
variable {P : Program} {w : World} {K : PySem.W.Frag} {mg : Str → Option Value} {base : Heap}
abbrev s__law_shuffled : Stmt := topS 31
abbrev N__law_shuffled : List Str := ["tray", "things", "left", "k"]
abbrev P__law_shuffled : List Str := ["tray", "things"]
theorem sc__law_shuffled : FnScope N__law_shuffled P__law_shuffled (defScope s__law_shuffled) := ⟨rfl, rfl, rfl, by decide +kernel, rfl, by decide +kernel, by decide +kernel⟩
def sp__law_shuffled (K : PySem.W.Frag) : Sp := fun vs H Q _ => ∃ (t g : Addr) (n : Nat) (a : Addr) (xs : List V), vs = [.ref t, .ref a] ∧ Tray H t g n ∧ SqL K H a xs ∧ xs.length ≤ 1000 ∧ n + xs.length ≤ 1000000000 ∧
  ∀ H' o ys, Kp (Off t g) H H' → Tray H' t g (n + xs.length) → H o = none → H' o = some (.lst ys) → ys.Perm xs → Q (.ref o) H'
theorem ok__law_shuffled (A : At K mg "_law_shuffled" P__law_shuffled s__law_shuffled) (B : Bi mg) (D__law_draw : Df P w K mg base 1 "_law_draw" P__law_draw s__law_draw sp__law_draw) :
    Df P w K mg base 2 "_law_shuffled" P__law_shuffled s__law_shuffled (sp__law_shuffled K) := by
  refine A.df fun f fd F => F.ok sc__law_shuffled (fun vs H Q E h => ?_) (fun cdv AA outer s H vs Q E hr h => ?_)
  · obtain ⟨_, _, _, _, _, rfl, _⟩ := h
    rfl
  · obtain ⟨t, g, n, a, xs, rfl, hT, hS, hl, hn, q⟩ := h
    have nd := sc__law_shuffled.nd
    refine ⟨_, (pss_cons (ps_set (i := 2) nd rfl (.inr rfl) (pe_callTy call_list_of (by rfl) B.list_ (by decide +kernel) (pa_cons (pv 1) pa_nil)))
    (pss_one (ps_ret (pe_lc (own := [("k", 3)]) (tt := tYes) rfl nd (pi_range1 (by rfl) B.range (pa_cons (pe_callB call_len_seq (by rfl) B.len PySem.boot_len (pa_cons (pv 2) pa_nil)) pa_nil)) (blkOk_by (N := N__law_shuffled) (sc := defScope s__law_shuffled) (by decide +kernel)) (fun _ _ _ _ _ => (pg_name (i := 3) nd rfl (.inl rfl))) (fun _ _ _ _ _ => pts_nil) (fun _ _ _ _ _ => (bmK K PySem.F.plainAttrs_list PySem.F.slot_list_pop PySem.F.type_list_pop mt_popAt (pv 2) (pa_cons (pe_df D__law_draw (hr.mono (by decide)) (by rfl) (pa_cons (pv 0) (pa_cons (pe_callB (lenK K) (by rfl) B.len PySem.boot_len (pa_cons (pv 2) pa_nil)) pa_nil))) pa_nil))))))), ?_⟩
    refine ⟨.ref a, rfl, a, xs, rfl, .inl hS, fun l nl => ?_⟩
    have el : upd H l (.lst xs) l = some (.lst xs) := upd_same
    have sl : Same H (upd H l (.lst xs)) := same_new nl
    refine ⟨.ref l, rfl, l, xs, rfl, .inl (SqL.of el), _, rfl, by omega, by omega, fun D nD => ?_⟩
    have nDl : l ≠ D := ne_of_none el nD
    have nD0 : H D = none := sl.free nD
    have ol : Off t g l := hT.off nl
    have oD : Off t g D := hT.off nD0
    refine lc_it (walk_range (n := xs.length)) (fun i H2 => ∃ ls acc, Kp (Off t g) H H2 ∧ H2 l = some (.lst ls) ∧ H2 D = some (.lst acc) ∧ (acc ++ ls).Perm xs ∧ ls.length + i = xs.length ∧ acc.length = i ∧ Tray H2 t g (n + i))
      ⟨xs, [], (Kp.of sl).trans (Kp.of (same_new nD)), by rw [upd_ne nDl]; exact el, upd_same, by simp, rfl, rfl, (hT.keep sl).keep (same_new nD)⟩ (fun _ _ _ _ => trivial) (fun i x H2 H3 hi hW hY => ?_) (fun H2 hW => ?_)
    · obtain ⟨ls, acc, kp, e1, e2, pm, hlen, ha, hT2⟩ := hW
      obtain ⟨rfl, rfl⟩ := hY
      have hm : (1 : Nat) ≤ ls.length := by omega
      refine ⟨rfl, .ref l, rfl, .inl ⟨rfl, _, SqL.of e1⟩, .ref t, rfl, .ref l, rfl, l, ls, rfl, .inl (SqL.of e1), t, g, n + i, _, rfl, hT2, by omega, by omega, ?_, fun H4 r k4 T4 r0 r1 => ?_⟩
      · exact Int.lt_of_lt_of_le (show (ls.length : Int) < 1001 by omega) (by decide)
      · obtain ⟨k, rfl⟩ : ∃ k : Nat, r = k := ⟨r.toNat, by omega⟩
        have hk : k < ls.length := by omega
        obtain ⟨y, ey⟩ := at_some hk
        have e1' := k4 _ _ ol e1
        have e2' := k4 _ _ oD e2
        refine ⟨l, ls, _, k, y, rfl, rfl, e1', by omega, by omega, seq_ix hk, ey, acc, by rw [upd_ne nDl.symm]; exact e2', ils (by omega), ls.eraseIdx k, acc ++ [y], ?_, ?_, upd_same, ?_, ?_, ?_, ?_⟩
        · exact (Kp.mutF (Kp.mutF (kp.trans k4) nl) nD0)
        · rw [upd_ne nDl, upd_same]
        · refine List.Perm.trans ?_ pm
          rw [List.append_assoc]
          exact List.Perm.append_left _ (erase_perm ey)
        · rw [List.length_eraseIdx_of_lt hk]
          omega
        · rw [List.length_append, ha]
          rfl
        · exact (T4.mut ol).mut oD
    · obtain ⟨ls, acc, kp, e1, e2, pm, hlen, ha, hT2⟩ := hW
      have : ls = [] := List.eq_nil_of_length_eq_zero (by omega)
      subst this
      rw [List.append_nil] at pm
      exact q H2 D acc kp hT2 nD0 e2 pm
end
end El
namespace El
open PySem PySem.Spec PyProof.Rows L2
section
variable {P : Program} {w : World} {K : PySem.W.Frag} {mg : Str → Option Value} {base : Heap}
abbrev s__law_ages : Stmt := topS 32
abbrev N__law_ages : List Str := ["tray", "many", "here", "far", "found", "k"]
abbrev P__law_ages : List Str := ["tray", "many"]
theorem sc__law_ages : FnScope N__law_ages P__law_ages (defScope s__law_ages) := ⟨rfl, rfl, rfl, by decide +kernel, rfl, by decide +kernel, by decide +kernel⟩
def sp__law_ages : Sp := fun vs H Q _ => ∃ (t g : Addr) (n many : Nat), vs = [.ref t, .int (many : Int)] ∧ Tray H t g n ∧ many ≤ 60 ∧ n ≤ 900000000 ∧
  ∀ H' o (ns : List Int), Kp (Off t g) H H' → Tray H' t g (n + 200) → H o = none → H' o = some (.lst (ns.map V.int)) → ns.length = many → ns.Nodup → (∀ x ∈ ns, Sm x) → Q (.ref o) H'
theorem ok__law_ages (A : At K mg "_law_ages" P__law_ages s__law_ages) (B : Bi mg) (D__law_draw : Df P w K mg base 1 "_law_draw" P__law_draw s__law_draw sp__law_draw)
    (D__law_shuffled : Df P w K mg base 2 "_law_shuffled" P__law_shuffled s__law_shuffled (sp__law_shuffled K)) : Df P w K mg base 3 "_law_ages" P__law_ages s__law_ages sp__law_ages := by
  refine A.df fun f fd F => F.ok sc__law_ages (fun vs H Q E h => ?_) (fun cdv AA outer s H vs Q E hr h => ?_)
  · obtain ⟨_, _, _, _, rfl, _⟩ := h
    rfl
  · obtain ⟨t, g, n, many, rfl, hT, hm, hn, q⟩ := h
    have nd := sc__law_ages.nd
    refine ⟨_, (pss_cons (ps_set (i := 2) nd rfl (.inl rfl) (pe_ix ix_list (pe_lst (pa_cons (pe_op op_sub (pe_df D__law_draw (hr.mono (by decide)) (by rfl) (pa_cons (pv 0) (pa_cons pe_int pa_nil))) pe_int) (pa_cons (pe_op op_sub (pe_df D__law_draw (hr.mono (by decide)) (by rfl) (pa_cons (pv 0) (pa_cons (pe_op op_pow pe_int pe_int) pa_nil))) (pe_op op_mul pe_int (pe_op op_pow pe_int pe_int))) pa_nil))) (pe_df D__law_draw (hr.mono (by decide)) (by rfl) (pa_cons (pv 0) (pa_cons pe_int pa_nil))) (fun _ _ => rfl)))
    (pss_cons (ps_set (i := 3) nd rfl (.inl rfl) (pe_ix ix_list (pe_lst (pa_cons pe_int (pa_cons pe_int (pa_cons (pe_op op_pow pe_int pe_int) pa_nil)))) (pe_df D__law_draw (hr.mono (by decide)) (by rfl) (pa_cons (pv 0) (pa_cons pe_int pa_nil))) (fun _ _ => rfl)))
    (pss_cons (ps_set (i := 4) nd rfl (.inl rfl) (pe_lst pa_nil))
    (pss_cons (ps_for PassesOwn.never rfl (pi_range1 (by rfl) B.range (pa_cons (pv 1) pa_nil)) (pg_name (i := 5) nd rfl (.inl rfl)) (pss_cons (ps_set (i := 2) nd rfl (.inl rfl) (pe_op op_add (pe_op op_add (pv 2) pe_int) (pe_df D__law_draw (hr.mono (by decide)) (by rfl) (pa_cons (pv 0) (pa_cons (pv 3) pa_nil))))) (pss_one (ps_expr (pe_bm PySem.F.plainAttrs_list PySem.F.slot_list_append PySem.F.type_list_append mt_append (pv 4) (pa_cons (pv 2) pa_nil))))))
    (pss_one (ps_ret (pe_df D__law_shuffled (hr.mono (by decide)) (by rfl) (pa_cons (pv 0) (pa_cons (pv 4) pa_nil))))))))), ?_⟩
    -- here
    refine ⟨.ref t, rfl, t, g, n, 30, rfl, hT, by omega, by decide, by decide, fun H1 r1 k1 T1 a1 b1 => ?_⟩
    refine ⟨_, _, rfl, rfl, .ref t, rfl, _, _, rfl, rfl, ⟨by decide, by decide, by decide⟩, t, g, n + 1, _, rfl, T1, by omega, by decide, by decide, fun H2 r2 k2 T2 a2 b2 => ?_⟩
    refine ⟨_, _, rfl, rfl, ⟨by decide, by decide, by decide⟩, _, _, rfl, rfl, .inl ⟨by decide, by decide⟩, _, _, rfl, rfl, (by show 2 ≤ sizeLine; decide), fun p np => ?_⟩
    have op : Off t g p := T2.off np
    refine ⟨.ref t, rfl, t, g, n + 2, 2, rfl, T2.mut op, by omega, by decide, by decide, fun H3 r3 k3 T3 a3 b3 => ?_⟩
    obtain ⟨v, hv, mv⟩ := at_pick (xs := [V.int (r1 - 15), .int (r2 - 5 * 10 ^ Int.toNat 28)]) a3 b3
    refine ⟨p, _, _, v, rfl, rfl, SqL.of (k3 _ _ op upd_same), hv, ?_⟩
    have kA : Kp (Off t g) H H3 := (k1.trans k2).trans ((Kp.of (same_new np)).trans k3)
    have e28 : (10 : Int) ^ Int.toNat 28 = 10000000000000000000000000000 := by decide
    have e29 : (10 : Int) ^ Int.toNat 29 = 100000000000000000000000000000 := by decide
    have e27 : (10 : Int) ^ Int.toNat 27 = 1000000000000000000000000000 := by decide
    rw [e29] at b2
    obtain ⟨here, rfl, hh0, hh1⟩ : ∃ i : Int, v = .int i ∧ -50000000000000000000000000000 ≤ i ∧ i ≤ 50000000000000000000000000000 := by
      rcases List.mem_cons.mp mv with e | mv
      · exact ⟨_, e, by omega, by omega⟩
      · exact ⟨_, List.mem_singleton.mp mv, by rw [e28]; omega, by rw [e28]; omega⟩
    -- far
    refine ⟨_, _, rfl, rfl, ⟨by decide, by decide, by decide⟩, (by show 3 ≤ sizeLine; decide), fun p' np' => ?_⟩
    have op' : Off t g p' := T3.off np'
    refine ⟨.ref t, rfl, t, g, n + 3, 3, rfl, T3.mut op', by omega, by decide, by decide, fun H4 r4 k4 T4 a4 b4 => ?_⟩
    obtain ⟨v, hv', mv'⟩ := at_pick (xs := [V.int 1, .int 9, .int (10 ^ Int.toNat 27)]) a4 b4
    refine ⟨p', _, _, v, rfl, rfl, SqL.of (k4 _ _ op' upd_same), hv', ?_⟩
    have kB : Kp (Off t g) H H4 := kA.trans ((Kp.of (same_new np')).trans k4)
    obtain ⟨far, rfl, f0, f1, f2⟩ : ∃ i : Int, v = .int i ∧ 0 < i ∧ i < 2 ^ 200 ∧ i ≤ 1000000000000000000000000000 := by
      rcases List.mem_cons.mp mv' with e | mv'
      · exact ⟨_, e, by decide, by decide, by decide⟩
      · rcases List.mem_cons.mp mv' with e | mv'
        · exact ⟨_, e, by decide, by decide, by decide⟩
        · exact ⟨_, List.mem_singleton.mp mv', by decide, by decide, by decide⟩
    -- found = []
    refine ⟨Nat.zero_le _, fun o no => ?_⟩
    have oo : Off t g o := T4.off no
    have no0 : H o = none := kB.none oo no
    -- the loop
    refine ⟨_, rfl, _, rfl, by omega, by omega, ?_⟩
    refine for_it (walk_range (n := ((many : Int)).toNat)) (fun i σ H5 => ∃ (h : Int) (ns : List Int) (y5 : Option V), σ = [some (.ref t), some (.int (many : Int)), some (.int h), some (.int far), some (.ref o), y5] ∧ Kp (Off t g) H H5 ∧ Tray H5 t g (n + 4 + i) ∧ H5 o = some (.lst (ns.map V.int)) ∧ ns.length = i ∧ ns.Pairwise (· < ·) ∧ (∀ x ∈ ns, x ≤ h) ∧ (∀ x ∈ ns, -50000000000000000000000000000 ≤ x) ∧ -50000000000000000000000000000 ≤ h ∧ h ≤ 50000000000000000000000000000 + (i : Int) * 1000000000000000000000000000)
      ⟨here, [], none, rfl, kB.new no, T4.mut oo, upd_same, rfl, List.Pairwise.nil, fun x h => absurd h (by simp), fun x h => absurd h (by simp), hh0, by omega⟩ (fun _ _ _ _ _ => trivial) (fun i x σ H5 H6 hi hW hY => ?_) (fun σ H5 hW => ?_)
    · obtain ⟨h, ns, y5, rfl, kp, T5, e5, hl, pw, hx, hlo, h0, h1⟩ := hW
      obtain ⟨rfl, rfl⟩ := hY
      have hi' : i < many := by omega
      refine ⟨.int h, rfl, _, _, rfl, rfl, .ref t, rfl, .int far, rfl, t, g, n + 4 + i, far, rfl, T5, by omega, f0, f1, fun H7 r7 k7 T7 a7 b7 => ?_⟩
      refine ⟨_, _, rfl, rfl, .ref o, rfl, .inl ⟨rfl, _, SqL.of (k7 _ _ oo e5)⟩, _, rfl, o, _, _, rfl, rfl, k7 _ _ oo e5, ils (by rw [List.length_map]; omega), ?_⟩
      refine ⟨h + 1 + r7, ns ++ [h + 1 + r7], _, rfl, Kp.mutF (kp.trans k7) no0, T7.mut oo, by rw [upd_same, List.map_append]; rfl, by rw [List.length_append, hl]; rfl, ?_, fun x m => ?_, fun x m => ?_, by omega, by omega⟩
      · rw [List.pairwise_append]
        refine ⟨pw, List.pairwise_singleton _ _, fun x m y my => ?_⟩
        rw [List.mem_singleton.mp my]
        have := hx x m
        omega
      · rcases List.mem_append.mp m with m | m
        · have := hx x m
          omega
        · rw [List.mem_singleton.mp m]
          exact Int.le_refl _
      · rcases List.mem_append.mp m with m | m
        · exact hlo x m
        · rw [List.mem_singleton.mp m]
          omega
    · obtain ⟨h, ns, y5, rfl, kp, T5, e5, hl, pw, hx, hlo, h0, h1⟩ := hW
      have hl' : ns.length = many := by omega
      refine ⟨.ref t, rfl, .ref o, rfl, t, g, _, o, _, rfl, T5, SqL.of e5, by rw [List.length_map]; omega, by rw [List.length_map]; omega, fun H8 o' ys k8 T8 no' e8 pm => ?_⟩
      obtain ⟨ms, rfl⟩ : ∃ ms : List Int, ys = ms.map V.int := by
        have : ∀ y ∈ ys, ∃ i, y = V.int i := fun y m => by
          obtain ⟨i, _, rfl⟩ := List.mem_map.mp (pm.mem_iff.mp m)
          exact ⟨i, rfl⟩
        clear pm e8
        induction ys with
        | nil => exact ⟨[], rfl⟩
        | cons y ys ih =>
          obtain ⟨i, rfl⟩ := this y List.mem_cons_self
          obtain ⟨ms, rfl⟩ := ih fun z m => this z (List.mem_cons_of_mem _ m)
          exact ⟨i :: ms, rfl⟩
      have pm' : ms.Perm ns := by
        have := pm.map (fun v : V => match v with | .int i => i | _ => 0)
        rw [List.map_map, List.map_map] at this
        simpa [Function.comp_def] using this
      have oo' : Off t g o' := T5.off no'
      refine q H8 o' ms (kp.trans k8) (T8.more (by rw [List.length_map]; omega)) (kp.none oo' no') e8 (by rw [pm'.length_eq, hl']) (pm'.nodup_iff.mpr (pw.imp fun h => Int.ne_of_lt h)) fun x m => ?_
      have m := pm'.mem_iff.mp m
      have x0 := hlo x m
      have x1 := hx x m
      have e30 : (10 : Nat) ^ 30 = 1000000000000000000000000000000 := by decide
      unfold Sm
      rw [e30]
      omega
end
end El
namespace El
open PySem PySem.Spec PyProof.Rows L2
section
variable {P : Program} {w : World} {K : PySem.W.Frag} {mg : Str → Option Value} {base : Heap}
abbrev s__law_patience : Stmt := topS 33
abbrev N__law_patience : List Str := ["tray", "lot", "many", "some"]
abbrev P__law_patience : List Str := ["tray", "lot", "many"]
theorem sc__law_patience : FnScope N__law_patience P__law_patience (defScope s__law_patience) := ⟨rfl, rfl, rfl, by decide +kernel, rfl, by decide +kernel, by decide +kernel⟩
def sp__law_patience : Sp := fun vs H Q _ => ∃ (t g : Addr) (n many : Nat) (lot : Int), vs = [.ref t, .int lot, .int (many : Int)] ∧ Tray H t g n ∧ many ≤ 60 ∧ n ≤ 900000000 ∧ 0 ≤ lot ∧ lot ≤ 5 ∧
  ∀ H' (p : Int), Kp (Off t g) H H' → Tray H' t g (n + 5) → 0 ≤ p → p < 10 ^ 30 → Q (.int p) H'
theorem ok__law_patience (A : At K mg "_law_patience" P__law_patience s__law_patience) (B : Bi mg) (D__law_draw : Df P w K mg base 1 "_law_draw" P__law_draw s__law_draw sp__law_draw) : Df P w K mg base 2 "_law_patience" P__law_patience s__law_patience sp__law_patience := by
  refine A.df fun f fd F => F.ok sc__law_patience (fun vs H Q E h => ?_) (fun cdv AA outer s H vs Q E hr h => ?_)
  · obtain ⟨_, _, _, _, _, rfl, _⟩ := h
    rfl
  · obtain ⟨t, g, n, many, lot, rfl, hT, hm, hn, l0, l5, q⟩ := h
    have nd := sc__law_patience.nd
    refine ⟨_, (pss_cons (ps_set (i := 3) nd rfl (.inl rfl) (pe_lst (pa_cons pe_int (pa_cons (pe_df D__law_draw (hr.mono (by decide)) (by rfl) (pa_cons (pv 0) (pa_cons pe_int pa_nil))) (pa_cons (pe_df D__law_draw (hr.mono (by decide)) (by rfl) (pa_cons (pv 0) (pa_cons pe_int pa_nil))) (pa_cons (pe_df D__law_draw (hr.mono (by decide)) (by rfl) (pa_cons (pv 0) (pa_cons (pe_op op_add (pv 2) pe_int) pa_nil))) (pa_cons (pe_op op_sub (pe_op op_sub (pe_op op_pow pe_int pe_int) pe_int) (pe_df D__law_draw (hr.mono (by decide)) (by rfl) (pa_cons (pv 0) (pa_cons pe_int pa_nil)))) pa_nil)))))))
    (pss_one (ps_ret (pe_ix ix_list (pv 3) (pe_ifExp (pt_cmpR op_lt (pv 1) pe_int (nomark _)) (pv 1) (pe_ix ix_list (pe_lst (pa_cons pe_int (pa_cons pe_int (pa_cons pe_int (pa_cons pe_int (pa_cons pe_int (pa_cons pe_int pa_nil))))))) (pe_df D__law_draw (hr.mono (by decide)) (by rfl) (pa_cons (pv 0) (pa_cons pe_int pa_nil))) (fun _ _ => rfl))) (fun _ _ => rfl))))), ?_⟩
    refine ⟨.ref t, rfl, t, g, n, 3, rfl, hT, by omega, by decide, by decide, fun H1 r1 k1 T1 a1 b1 => ?_⟩
    refine ⟨.ref t, rfl, t, g, n + 1, 8, rfl, T1, by omega, by decide, by decide, fun H2 r2 k2 T2 a2 b2 => ?_⟩
    refine ⟨.ref t, rfl, _, rfl, _, _, rfl, rfl, t, g, n + 2, _, rfl, T2, by omega, by omega, ?_, fun H3 r3 k3 T3 a3 b3 => ?_⟩
    · exact Int.lt_of_le_of_lt (show (many : Int) + 2 ≤ 62 by omega) (by decide)
    · refine ⟨_, _, rfl, rfl, ⟨by decide, by decide, by decide⟩, _, _, rfl, rfl, .ref t, rfl, t, g, n + 3, 9, rfl, T3, by omega, by decide, by decide, fun H4 r4 k4 T4 a4 b4 => ?_⟩
      refine ⟨_, _, rfl, rfl, (by show 5 ≤ sizeLine; decide), fun p np => ?_⟩
      have op : Off t g p := T4.off np
      have kA : Kp (Off t g) H (upd H4 p (.lst [.int 0, .int r1, .int r2, .int r3, .int (10 ^ Int.toNat 30 - 1 - r4)])) := (((k1.trans k2).trans k3).trans k4).new np
      have TA := T4.mut (o := .lst [.int 0, .int r1, .int r2, .int r3, .int (10 ^ Int.toNat 30 - 1 - r4)]) op
      have eA : upd H4 p (.lst [.int 0, .int r1, .int r2, .int r3, .int (10 ^ Int.toNat 30 - 1 - r4)]) p = some (.lst [.int 0, .int r1, .int r2, .int r3, .int (10 ^ Int.toNat 30 - 1 - r4)]) := upd_same
      have fin : ∀ {H5 : Hp} {i : Int}, 0 ≤ i → i < 5 → Kp (Off t g) H H5 → Tray H5 t g (n + 5) → H5 p = some (.lst [.int 0, .int r1, .int r2, .int r3, .int (10 ^ Int.toNat 30 - 1 - r4)]) → rIxL K (.ref p) (.int i) H5 Q := by
        intro H5 i i0 i5 k5 T5 e5
        obtain ⟨v, hv, mv⟩ := at_pick (xs := [V.int 0, .int r1, .int r2, .int r3, .int (10 ^ Int.toNat 30 - 1 - r4)]) i0 i5
        refine ⟨p, _, _, v, rfl, rfl, SqL.of e5, hv, ?_⟩
        have e30' : (10 : Int) ^ 30 = 1000000000000000000000000000000 := by decide
        have e30 : (10 : Int) ^ Int.toNat 30 = 1000000000000000000000000000000 := by decide
        rcases List.mem_cons.mp mv with rfl | mv
        · exact q _ _ k5 T5 (by decide) (by decide)
        rcases List.mem_cons.mp mv with rfl | mv
        · exact q _ _ k5 T5 a1 (by rw [e30']; omega)
        rcases List.mem_cons.mp mv with rfl | mv
        · exact q _ _ k5 T5 a2 (by rw [e30']; omega)
        rcases List.mem_cons.mp mv with rfl | mv
        · exact q _ _ k5 T5 a3 (by rw [e30']; omega)
        rw [List.mem_singleton.mp mv]
        exact q _ _ k5 T5 (by omega) (by rw [e30']; omega)
      refine ⟨.ref p, rfl, .int lot, rfl, _, _, rfl, rfl, _, rfl, ite2 (fun e => ?_) (fun e => ?_)⟩
      · have e : lot < 5 := of_decide_eq_true e
        exact ⟨.int lot, rfl, fin l0 e kA (TA.more (Nat.le_succ _)) eA⟩
      · refine ⟨(by show 6 ≤ sizeLine; decide), fun p' np' => ?_⟩
        have op' : Off t g p' := TA.off np'
        refine ⟨.ref t, rfl, t, g, n + 4, 6, rfl, TA.mut op', by omega, by decide, by decide, fun H6 r6 k6 T6 a6 b6 => ?_⟩
        obtain ⟨v, hv, mv⟩ := at_pick (xs := [V.int 1, .int 1, .int 2, .int 3, .int 4, .int 0]) a6 b6
        refine ⟨p', _, _, v, rfl, rfl, SqL.of (k6 _ _ op' upd_same), hv, ?_⟩
        have k7 : Kp (Off t g) H H6 := kA.trans ((Kp.of (same_new np')).trans k6)
        have e7 := k6 _ _ op (by rw [upd_ne (no_of eA np').symm]; exact eA)
        have mv' : ∃ i : Int, v = .int i ∧ 0 ≤ i ∧ i < 5 := by
          rcases List.mem_cons.mp mv with rfl | mv
          · exact ⟨_, rfl, by decide, by decide⟩
          rcases List.mem_cons.mp mv with rfl | mv
          · exact ⟨_, rfl, by decide, by decide⟩
          rcases List.mem_cons.mp mv with rfl | mv
          · exact ⟨_, rfl, by decide, by decide⟩
          rcases List.mem_cons.mp mv with rfl | mv
          · exact ⟨_, rfl, by decide, by decide⟩
          rcases List.mem_cons.mp mv with rfl | mv
          · exact ⟨_, rfl, by decide, by decide⟩
          rw [List.mem_singleton.mp mv]
          exact ⟨_, rfl, by decide, by decide⟩
        obtain ⟨i, rfl, i0, i5⟩ := mv'
        exact fin i0 i5 k7 T6 e7
end
end El
namespace El
open PySem PySem.Spec PyProof.Rows L2
section
variable {P : Program} {w : World} {K : PySem.W.Frag} {mg : Str → Option Value} {base : Heap}
abbrev s__law_guests : Stmt := topS 34
abbrev N__law_guests : List Str := ["tray", "most", "many", "lot", "age"]
abbrev P__law_guests : List Str := ["tray", "most"]
theorem sc__law_guests : FnScope N__law_guests P__law_guests (defScope s__law_guests) := ⟨rfl, rfl, rfl, by decide +kernel, rfl, by decide +kernel, by decide +kernel⟩
def sp__law_guests : Sp := fun vs H Q _ => ∃ (t g : Addr) (n most : Nat), vs = [.ref t, .int (most : Int)] ∧ Tray H t g n ∧ most ≤ 60 ∧ n ≤ 800000000 ∧
  ∀ H' o ts gs, Kp (Off t g) H H' → Tray H' t g (n + 600) → GsAt H' (fun b => H b = none) o ts gs → o ∉ ts → Fit gs → gs.length ≤ most → Sms gs → Q (.ref o) H'
theorem ok__law_guests (A : At K mg "_law_guests" P__law_guests s__law_guests) (B : Bi mg) (D__law_draw : Df P w K mg base 1 "_law_draw" P__law_draw s__law_draw sp__law_draw)
    (D__law_ages : Df P w K mg base 3 "_law_ages" P__law_ages s__law_ages sp__law_ages) (D__law_patience : Df P w K mg base 2 "_law_patience" P__law_patience s__law_patience sp__law_patience) : Df P w K mg base 4 "_law_guests" P__law_guests s__law_guests sp__law_guests := by
  refine A.df fun f fd F => F.ok sc__law_guests (fun vs H Q E h => ?_) (fun cdv AA outer s H vs Q E hr h => ?_)
  · obtain ⟨_, _, _, _, rfl, _⟩ := h
    rfl
  · obtain ⟨t, g, n, most, rfl, hT, hm, hn, q⟩ := h
    have nd := sc__law_guests.nd
    refine ⟨_, (pss_cons (ps_set (i := 2) nd rfl (.inr rfl) (pe_df D__law_draw (hr.mono (by decide)) (by rfl) (pa_cons (pv 0) (pa_cons (pe_op op_add (pv 1) pe_int) pa_nil))))
    (pss_cons (ps_set (i := 3) nd rfl (.inr rfl) (pe_ix ix_list (pe_lst (pa_cons pe_int (pa_cons pe_int (pa_cons pe_int (pa_cons pe_int (pa_cons pe_int (pa_cons pe_int (pa_cons pe_int (pa_cons pe_int pa_nil))))))))) (pe_df D__law_draw (hr.mono (by decide)) (by rfl) (pa_cons (pv 0) (pa_cons pe_int pa_nil))) (fun _ _ => rfl)))
    (pss_one (ps_ret (pe_lc (own := [("age", 4)]) (tt := tYes) rfl nd (pi_list (pe_df D__law_ages (hr.mono (by decide)) (by rfl) (pa_cons (pv 0) (pa_cons (pv 2) pa_nil)))) (blkOk_by (N := N__law_guests) (sc := defScope s__law_guests) (by decide +kernel)) (fun _ _ _ _ _ => (pg_name (i := 4) nd rfl (.inl rfl))) (fun _ _ _ _ _ => pts_nil) (fun _ _ _ _ _ => (pe_tup (pa_cons (pv 4) (pa_cons (pe_df D__law_patience (hr.mono (by decide)) (by rfl) (pa_cons (pv 0) (pa_cons (pv 3) (pa_cons (pv 2) pa_nil)))) pa_nil))))))))), ?_⟩
    refine ⟨.ref t, rfl, _, rfl, _, _, rfl, rfl, t, g, n, _, rfl, hT, by omega, by omega, ?_, fun H1 r1 k1 T1 a1 b1 => ?_⟩
    · exact Int.lt_of_le_of_lt (show (most : Int) + 1 ≤ 61 by omega) (by decide)
    obtain ⟨many, rfl⟩ : ∃ k : Nat, r1 = k := ⟨r1.toNat, by omega⟩
    have hmany : many ≤ most := by omega
    -- lot
    refine ⟨(by show 8 ≤ sizeLine; decide), fun p np => ?_⟩
    have op : Off t g p := T1.off np
    refine ⟨.ref t, rfl, t, g, n + 1, 8, rfl, T1.mut op, by omega, by decide, by decide, fun H2 r2 k2 T2 a2 b2 => ?_⟩
    obtain ⟨v, hv, mv⟩ := at_pick (xs := [V.int 0, .int 1, .int 2, .int 3, .int 4, .int 5, .int 5, .int 5]) a2 b2
    refine ⟨p, _, _, v, rfl, rfl, SqL.of (k2 _ _ op upd_same), hv, ?_⟩
    have mv' : ∃ i : Int, v = .int i ∧ 0 ≤ i ∧ i ≤ 5 := by
      rcases List.mem_cons.mp mv with rfl | mv
      · exact ⟨_, rfl, by decide, by decide⟩
      rcases List.mem_cons.mp mv with rfl | mv
      · exact ⟨_, rfl, by decide, by decide⟩
      rcases List.mem_cons.mp mv with rfl | mv
      · exact ⟨_, rfl, by decide, by decide⟩
      rcases List.mem_cons.mp mv with rfl | mv
      · exact ⟨_, rfl, by decide, by decide⟩
      rcases List.mem_cons.mp mv with rfl | mv
      · exact ⟨_, rfl, by decide, by decide⟩
      rcases List.mem_cons.mp mv with rfl | mv
      · exact ⟨_, rfl, by decide, by decide⟩
      rcases List.mem_cons.mp mv with rfl | mv
      · exact ⟨_, rfl, by decide, by decide⟩
      rw [List.mem_singleton.mp mv]
      exact ⟨_, rfl, by decide, by decide⟩
    obtain ⟨lot, rfl, l0, l5⟩ := mv'
    have kA : Kp (Off t g) H H2 := k1.trans ((Kp.of (same_new np)).trans k2)
    -- the ages
    refine ⟨.ref t, rfl, _, rfl, t, g, n + 2, many, rfl, T2, by omega, by omega, fun H3 o ns k3 T3 no e3 hl hnd hsm => ?_⟩
    refine ⟨o, rfl, ⟨_, SqL.of e3⟩, fun D nD => ?_⟩
    have oD : Off t g D := T3.off nD
    have oo : Off t g o := T2.off no
    have kB : Kp (Off t g) H H3 := kA.trans k3
    have hDo : o ≠ D := ne_of_none e3 nD
    have nD0 : H D = none := kB.none oD nD
    refine lc_it (walk_list (xs := ns.map V.int)) (fun i H4 => ∃ ts gs, Kp (Off t g) H H4 ∧ H4 o = some (.lst (ns.map V.int)) ∧ GsAt H4 (fun b => H b = none) D ts gs ∧ D ∉ ts ∧ gs.map (·.1) = ns.take i ∧ (∀ g ∈ gs, 0 ≤ g.2) ∧ (∀ g ∈ gs, g.2 < 10 ^ 30) ∧ Tray H4 t g (n + 202 + 5 * i))
      ⟨[], [], kB.new nD, by rw [upd_ne hDo]; exact e3, ⟨upd_same, nD0, rfl, fun i t g e _ => by simp at e, fun t m => by simp at m⟩, by simp, rfl, fun g m => by simp at m, fun g m => by simp at m, T3.mut oD⟩ (fun i H4 _ hW => ?_) (fun i x H4 H5 hi hW hY => ?_) (fun H4 hW => ?_)
    · obtain ⟨_, _, _, e4, _⟩ := hW
      exact SqL.of e4
    · obtain ⟨ts, gs, kp, e4, hG, hD, hgs, hpos, hpt, T4⟩ := hW
      obtain ⟨rfl, hx⟩ := hY
      obtain ⟨a, ea, rfl⟩ := ints_at hx
      have hi' : i < ns.length := at_lt ea
      have hgl : gs.length = i := by
        have := congrArg List.length hgs
        rw [List.length_map, List.length_take] at this
        omega
      refine ⟨rfl, .int a, rfl, .ref t, rfl, .int lot, rfl, _, rfl, t, g, n + 202 + 5 * i, many, lot, rfl, T4, by omega, by omega, l0, l5, fun H6 b k6 T6 b0 b30 => ?_⟩
      refine ⟨(by show 2 ≤ sizeLine; decide), fun u nu => ?_⟩
      have ou : Off t g u := T6.off nu
      have k7 : Kp (Off t g) H (upd H6 u (.tup [.int a, .int b])) := (kp.trans k6).new nu
      have nu0 : H u = none := (kp.trans k6).none ou nu
      have offD : ∀ z, H z = none → Off t g z := fun z hz => hT.off hz
      have hG6 : GsAt H6 (fun b => H b = none) D ts gs := hG.keep (fun z x hz e => k6 z x (offD z hz) e)
      have hG7 : GsAt (upd H6 u (.tup [.int a, .int b])) (fun b => H b = none) D ts gs := hG6.same (same_new nu)
      refine ⟨ts.map V.ref, hG7.top, ils (by rw [List.length_map, hG.len]; omega), ts ++ [u], gs ++ [(a, b)], ?_, ?_, hG7.push hD (g := (a, b)) upd_same nu0, ?_, ?_, ?_, ?_, ?_⟩
      · exact k7.mutF nD0
      · rw [upd_ne hDo, upd_ne (ne_of_none (k6 _ _ oo e4) nu)]
        exact k6 _ _ oo e4
      · intro m
        rcases List.mem_append.mp m with m | m
        · exact hD m
        · exact (ne_of_none hG6.top nu) (List.mem_singleton.mp m)
      · rw [List.map_append, hgs, take_snoc ea]
        rfl
      · intro g m
        rcases List.mem_append.mp m with m | m
        · exact hpos g m
        · rw [List.mem_singleton.mp m]
          exact b0
      · intro g m
        rcases List.mem_append.mp m with m | m
        · exact hpt g m
        · rw [List.mem_singleton.mp m]
          exact b30
      · exact (T6.mut ou).mut oD
    · obtain ⟨ts, gs, kp, e4, hG, hD, hgs, hpos, hpt, T4⟩ := hW
      rw [List.length_map, take_full] at hgs
      have hgl : gs.length = many := by
        have := congrArg List.length hgs
        rw [List.length_map] at this
        omega
      exact q H4 D ts gs kp (T4.more (by rw [List.length_map]; omega)) hG hD ⟨by rw [hgs]; exact hnd, hpos⟩ (by omega) fun g m => ⟨hsm _ (by rw [← hgs]; exact List.mem_map.mpr ⟨g, m, rfl⟩), sm_of (hpos g m) (hpt g m)⟩
end
end El
namespace El
open PySem PySem.Spec PyProof.Rows L2 SX
section
variable {P : Program} {w : World} {K : PySem.W.Frag} {mg : Str → Option Value} {base : Heap}
abbrev s__law_guests_written : Stmt := topS 35
abbrev N__law_guests_written : List Str := ["some", "words", "age", "bears"]
abbrev P__law_guests_written : List Str := ["some"]
theorem sc__law_guests_written : FnScope N__law_guests_written P__law_guests_written (defScope s__law_guests_written) := ⟨rfl, rfl, rfl, by decide +kernel, rfl, by decide +kernel, by decide +kernel⟩
def sp__law_guests_written : Sp := fun vs H Q _ => ∃ (BB : Addr → Prop) (a : Addr) (ts : List Addr) (gs : List (Int × Int)), vs = [.ref a] ∧ GsAt H BB a ts gs ∧ Fit gs ∧ Sms gs ∧ gs.length ≤ 1000 ∧ ∀ H', Same H H' → Q (.str (S (textOf 58 (byAge gs)))) H'
theorem ok__law_guests_written (A : At K mg "_law_guests_written" P__law_guests_written s__law_guests_written) (B : Bi mg) : Df P w K mg base 1 "_law_guests_written" P__law_guests_written s__law_guests_written sp__law_guests_written := by
  refine A.df fun f fd F => F.ok sc__law_guests_written (fun vs H Q E h => ?_) (fun cdv AA outer s H vs Q E hr h => ?_)
  · obtain ⟨_, _, _, _, rfl, _⟩ := h
    rfl
  · obtain ⟨BB, a, ts, gs, rfl, hG0, hF, hs0, hl0, q⟩ := h
    have nd := sc__law_guests_written.nd
    refine ⟨_, (pss_cons (ps_setLc (i := 1) (own := [("age", 2), ("bears", 3)]) (tt := tYes) rfl nd rfl rfl (sw_true rfl rfl rfl (by decide +kernel)) (pi_list (pe_revL (pe_callB cr_sortedPO (by rfl) B.sorted (by decide +kernel) (pa_cons (pv 0) pa_nil)))) (blkOk_by (N := N__law_guests_written) (sc := defScope s__law_guests_written) (by decide +kernel)) (fun _ _ _ _ _ => (pgTupK K 2 (by rfl) (pgs_cons (pg_name (i := 2) nd rfl (.inl rfl)) (pgs_cons (pg_name (i := 3) nd rfl (.inl rfl)) pgs_nil)))) (fun _ _ _ _ _ => pts_nil) (fun _ _ _ _ _ => (pe_op op_add_str (pe_op op_add_str (pe_callTy call_str_int (by rfl) B.str_ (by decide +kernel) (pa_cons (pv 2) pa_nil)) pe_str) (pe_callTy call_str_int (by rfl) B.str_ (by decide +kernel) (pa_cons (pv 3) pa_nil)))))
    (pss_one (ps_ret (pe_ifExp (pt_cmpR (op_neD hr.units) (pv 1) (pe_lst pa_nil) (nomark _)) (pe_bm PySem.F.plainAttrs_str PySem.F.slot_str_join PySem.F.type_str_join mt_join pe_str (pa_cons (pv 1) pa_nil)) pe_str)))), ?_⟩
    refine ⟨.ref a, rfl, a, _, prOf H, rfl, hG0.seq, hG0.mem, fun ys p hsd hb np => ?_⟩
    have hys := sorted_prs hF hG0.prs hsd hb
    refine ⟨p, ys, rfl, SqL.of upd_same, fun p2 np2 => ?_⟩
    have s2 : Same H (upd (upd H p (.lst ys)) p2 (.lst ys.reverse)) := (same_new np).trans (same_new np2)
    obtain ⟨us, hG, huy, _⟩ := hG0.sorted s2 ((List.reverse_perm ys).trans hb.perm) hys (upd_same (o := .lst ys.reverse))
    generalize upd (upd H p (.lst ys)) p2 (.lst ys.reverse) = H1 at s2 hG ⊢
    have hs : Sms (byAge gs) := fun g m => hs0 g ((byAge_perm gs).mem_iff.mp m)
    have hl : (byAge gs).length ≤ 1000 := by rw [byAge_length]; exact hl0
    generalize byAge gs = cs at hG hs hl q
    refine ⟨p2, rfl, ⟨_, hG.seq⟩, fun D nD => ?_⟩
    refine lc_it (walk_list (xs := us.map V.ref)) (fun k H2 => Same H1 H2 ∧ H2 D = some (.lst (((cs.take k).map fun g => S (twoW 58 g)).map V.str))) ⟨same_new nD, upd_same⟩ (fun k H2 _ hW => ?_) (fun k x H2 H3 hk hW hY => ?_) (fun H2 hW => ?_)
    · exact (hG.same hW.1).seq
    · obtain ⟨sm, e⟩ := hW
      obtain ⟨rfl, hx⟩ := hY
      obtain ⟨t, g, rfl, eg, et⟩ := (hG.same sm).get hx
      obtain ⟨h1, h2⟩ := hs g (List.mem_of_getElem? eg)
      have l1 := text_small h1
      have l2 := text_small h2
      have lx : (Str.ofString ":").length = 1 := rfl
      refine ⟨t, _, rfl, SqT.of et, rfl, .int g.1, _, rfl, .int g.2, _, rfl, rfl, rfl, ?_⟩
      refine ⟨.int g.1, rfl, g.1, rfl, h1.log, _, _, rfl, rfl, ile (by rw [lx]; omega), .int g.2, rfl, g.2, rfl, h2.log, _, _, rfl, rfl, ile (by rw [PySem.Str.length_append, lx]; omega), ?_⟩
      refine ⟨_, e, ils (by rw [List.length_map, List.length_map, List.length_take]; omega), Same.mut sm nD, ?_⟩
      rw [upd_same, take_snoc eg, List.map_append, List.map_append]
      show some (HO.lst (_ ++ [V.str (Str.ofString (toString g.1) ++ (":" : Str) ++ Str.ofString (toString g.2))])) = _
      rw [fs_two' _ _ 58 _ one_S.2.1]
      rfl
    · obtain ⟨sm, e⟩ := hW
      rw [List.length_map, hG.len, take_full] at e
      have hsz : ∀ w ∈ cs.map (fun g => S (twoW 58 g)), w.length ≤ 63 := fun w m => by
        obtain ⟨g, mg', rfl⟩ := List.mem_map.mp m
        rw [S_len]
        exact twoW_len (hs g mg')
      refine ⟨.ref D, rfl, Nat.zero_le _, fun z nz => ?_⟩
      have s3 : Same H2 (upd H2 z (.lst [])) := same_new nz
      refine ⟨dStrs (cs.map fun g => S (twoW 58 g)), dStrs [], Dp.strs (s3 _ _ e), Dp.strs (ws := []) upd_same, (Oks.strs _ fun w m => by
        obtain ⟨g, mg', rfl⟩ := List.mem_map.mp m
        exact strOk_S (twoW_low (by decide) g)).shaped, (Oks.strs _ fun w m => by simp at m).shaped, _, rfl, ?_⟩
      rw [eqv_strs_nil]
      by_cases hn : cs = []
      · subst hn
        refine iteX rfl ?_
        have q' := q _ (s2.trans (sm.trans s3))
        unfold textOf at q'
        rw [if_pos rfl, ← none_S] at q'
        exact q'
      · have he : (cs.map fun g => S (twoW 58 g)).isEmpty = false := by
          cases cs with
          | nil => exact absurd rfl hn
          | cons c r => rfl
        rw [he]
        refine iteTx rfl ?_
        refine ⟨rfl, .ref D, rfl, " ", D, cs.map (fun g => S (twoW 58 g)), rfl, rfl, .inl (SqL.of (s3 _ _ e)), ?_, ?_⟩
        · have := sum_lens hsz
          rw [List.length_map] at this ⊢
          rw [one_S.2.2.1, S_len]
          show _ + cs.length * 1 ≤ _
          omega
        · have hj : Txt.join " " (cs.map fun g => S (twoW 58 g)) = S (TL.joinL [32] (cs.map (twoW 58))) := by
            rw [one_S.2.2.1, ← join_S, List.map_map]
            rfl
          rw [hj]
          have q' := q _ (s2.trans (sm.trans s3))
          unfold textOf at q'
          rw [if_neg hn] at q'
          exact q'
end
end El
namespace El
open PySem PySem.Spec PyProof.Rows L2
section
variable {P : Program} {w : World} {K : PySem.W.Frag} {mg : Str → Option Value} {base : Heap}
abbrev s__law_crowds : Stmt := topS 36
abbrev N__law_crowds : List Str := ["tray", "most", "found", "k", "far"]
abbrev P__law_crowds : List Str := ["tray", "most"]
theorem sc__law_crowds : FnScope N__law_crowds P__law_crowds (defScope s__law_crowds) := ⟨rfl, rfl, rfl, by decide +kernel, rfl, by decide +kernel, by decide +kernel⟩
def sp__law_crowds : Sp := fun vs H Q _ => ∃ (b g : Addr) (n most : Nat), vs = [.ref b, .int (most : Int)] ∧ Tray H b g n ∧ most ≤ 60 ∧ n ≤ 800000000 ∧
  ∀ H' o ts cs, Kp (Off b g) H H' → Tray H' b g (n + 500) → GsAt H' (fun b => H b = none) o ts cs → o ∉ ts → Crw cs → cs.length ≤ most → Sms cs → Q (.ref o) H'
theorem ok__law_crowds (A : At K mg "_law_crowds" P__law_crowds s__law_crowds) (B : Bi mg) (D__law_draw : Df P w K mg base 1 "_law_draw" P__law_draw s__law_draw sp__law_draw) : Df P w K mg base 2 "_law_crowds" P__law_crowds s__law_crowds sp__law_crowds := by
  refine A.df fun f fd F => F.ok sc__law_crowds (fun vs H Q E h => ?_) (fun cdv AA outer s H vs Q E hr h => ?_)
  · obtain ⟨_, _, _, _, rfl, _⟩ := h
    rfl
  · obtain ⟨b, g, n, most, rfl, hT, hm, hn, q⟩ := h
    have nd := sc__law_crowds.nd
    refine ⟨_, (pss_cons (ps_set (i := 2) nd rfl (.inl rfl) (pe_lst pa_nil))
    (pss_cons (ps_for PassesOwn.never rfl (pi_range1 (by rfl) B.range (pa_cons (pe_df D__law_draw (hr.mono (by decide)) (by rfl) (pa_cons (pv 0) (pa_cons (pe_op op_add (pv 1) pe_int) pa_nil))) pa_nil)) (pg_name (i := 3) nd rfl (.inl rfl)) (pss_cons (ps_set (i := 4) nd rfl (.inl rfl) (pe_ix ix_list (pe_lst (pa_cons pe_int (pa_cons pe_int (pa_cons (pe_op op_sub (pe_op op_pow pe_int pe_int) pe_int) pa_nil)))) (pe_df D__law_draw (hr.mono (by decide)) (by rfl) (pa_cons (pv 0) (pa_cons pe_int pa_nil))) (fun _ _ => rfl))) (pss_one (ps_expr (pe_bm PySem.F.plainAttrs_list PySem.F.slot_list_append PySem.F.type_list_append mt_append (pv 2) (pa_cons (pe_tup (pa_cons (pe_op op_add pe_int (pe_df D__law_draw (hr.mono (by decide)) (by rfl) (pa_cons (pv 0) (pa_cons (pv 4) pa_nil)))) (pa_cons (pe_df D__law_draw (hr.mono (by decide)) (by rfl) (pa_cons (pv 0) (pa_cons (pe_ix ix_list (pe_lst (pa_cons pe_int (pa_cons pe_int (pa_cons (pe_op op_pow pe_int pe_int) pa_nil)))) (pe_df D__law_draw (hr.mono (by decide)) (by rfl) (pa_cons (pv 0) (pa_cons pe_int pa_nil))) (fun _ _ => rfl)) pa_nil))) pa_nil))) pa_nil))))))
    (pss_one (ps_ret (pv 2))))), ?_⟩
    refine ⟨Nat.zero_le _, fun o no => ?_⟩
    have oo : Off b g o := hT.off no
    have e30 : (10 : Int) ^ Int.toNat 30 = 1000000000000000000000000000000 := by decide
    have e30' : (10 : Int) ^ 30 = 1000000000000000000000000000000 := by decide
    refine ⟨.ref b, rfl, .int (most : Int), rfl, _, _, rfl, rfl, b, g, n, _, rfl, hT.mut oo, by omega, by omega, ?_, fun H2 r2 k2 T2 a2 b2 => ?_⟩
    · exact Int.lt_of_le_of_lt (show (most : Int) + 1 ≤ 61 by omega) (by decide)
    refine ⟨_, rfl, by omega, by omega, ?_⟩
    have offD : ∀ z, H z = none → Off b g z := fun z hz => hT.off hz
    have kA : Kp (Off b g) H H2 := (Kp.of (same_new no)).trans k2
    refine for_it walk_range (fun i σ H5 => ∃ ts cs y3 y4, σ = [some (.ref b), some (.int (most : Int)), some (.ref o), y3, y4] ∧ Kp (Off b g) H H5 ∧ Tray H5 b g (n + 1 + 4 * i) ∧ GsAt H5 (fun b => H b = none) o ts cs ∧ o ∉ ts ∧ cs.length = i ∧ Crw cs ∧ Sms cs)
      ⟨[], [], none, none, rfl, kA, T2, ⟨k2 _ _ oo upd_same, no, rfl, fun i t g e _ => by simp at e, fun t m => by simp at m⟩, by simp, rfl, fun c m => by simp at m, fun c m => by simp at m⟩ (fun _ _ _ _ _ => trivial) (fun i x σ H5 H6 hi hW hY => ?_) (fun σ H5 hW => ?_)
    · obtain ⟨ts, cs, y3, y4, rfl, kp, T5, hG, hno, hcl, hC, hb⟩ := hW
      obtain ⟨rfl, rfl⟩ := hY
      have hi60 : i < 61 := by omega
      refine ⟨_, _, rfl, rfl, ⟨by decide, by decide, by decide⟩, _, _, rfl, rfl, (by show 3 ≤ sizeLine; decide), fun p np => ?_⟩
      have op : Off b g p := T5.off np
      refine ⟨.ref b, rfl, b, g, _, 3, rfl, T5.mut op, by omega, by decide, by decide, fun H7 s1 k7 T7 a7 b7 => ?_⟩
      obtain ⟨far, hv, t0, t1⟩ := pick3 (P := fun x => 0 < x ∧ x < 10 ^ 30) (a := 3) (b := 40) (c := 10 ^ Int.toNat 30 - 1) a7 b7 ⟨by decide, by decide⟩ ⟨by decide, by decide⟩ ⟨by decide, by decide⟩
      rw [e30'] at t1
      refine ⟨p, _, _, _, rfl, rfl, SqL.of (k7 _ _ op upd_same), hv, ?_⟩
      have kp7 : Kp (Off b g) H H7 := (kp.new np).trans k7
      have hG7 : GsAt H7 (fun b => H b = none) o ts cs := (hG.same (same_new np)).keep (fun z x hz e => k7 z x (offD z hz) e)
      refine ⟨.ref o, rfl, .inl ⟨rfl, _, hG7.seq⟩, ?_⟩
      refine ⟨.ref b, rfl, .int far, rfl, b, g, _, far, rfl, T7, by omega, t0, ?_, fun H8 s2 k8 T8 a8 b8 => ⟨_, _, rfl, rfl, ?_⟩⟩
      · exact Int.lt_trans t1 (by decide)
      refine ⟨.ref b, rfl, _, _, rfl, rfl, ⟨by decide, by decide, by decide⟩, (by show 3 ≤ sizeLine; decide), fun u nu => ?_⟩
      have ou : Off b g u := T8.off nu
      refine ⟨.ref b, rfl, b, g, _, 3, rfl, T8.mut ou, by omega, by decide, by decide, fun H9 s3 k9 T9 a9 b9 => ?_⟩
      obtain ⟨top, hv2, p0, p1⟩ := pick3 (P := fun x => 0 < x ∧ x ≤ 10 ^ 30) (a := 4) (b := 60) (c := 10 ^ Int.toNat 30) a9 b9 ⟨by decide, by decide⟩ ⟨by decide, by decide⟩ ⟨by decide, by decide⟩
      rw [e30'] at p1
      refine ⟨u, _, _, _, rfl, rfl, SqL.of (k9 _ _ ou upd_same), hv2, b, g, _, top, rfl, T9, by omega, p0, ?_, fun H10 s4 k10 T10 a10 b10 => ?_⟩
      · exact Int.lt_of_le_of_lt p1 (by decide)
      refine ⟨(by show 2 ≤ sizeLine; decide), fun v nv => ?_⟩
      have ov : Off b g v := T10.off nv
      have k6 : Kp (Off b g) H7 H10 := ((k8.trans (Kp.of (same_new nu))).trans k9).trans k10
      have kp10 : Kp (Off b g) H H10 := kp7.trans k6
      have nv0 : H v = none := kp10.none ov nv
      have hG10 : GsAt H10 (fun b => H b = none) o ts cs := hG7.keep (fun z x hz e => k6 z x (offD z hz) e)
      have hG11 := hG10.same (same_new (o := .tup [.int (1 + s2), .int s4]) nv)
      refine ⟨o, _, _, rfl, rfl, hG11.top, ils (by rw [List.length_map, hG.len]; omega), ?_⟩
      have hP := hG11.push hno (q := v) (g := (1 + s2, s4)) upd_same nv0
      refine ⟨ts ++ [v], cs ++ [(1 + s2, s4)], _, _, rfl, (kp10.new nv).mutF no, ((T10.mut ov).mut oo).more (by omega), hP, ?_, ?_, ?_, ?_⟩
      · intro m
        rcases List.mem_append.mp m with m | m
        · exact hno m
        · rw [List.mem_singleton.mp m] at hG10
          have z := hG10.top
          rw [nv] at z
          cases z
      · rw [List.length_append, hcl]
        rfl
      · intro c m
        rcases List.mem_append.mp m with m | m
        · exact hC c m
        · rw [List.mem_singleton.mp m]
          exact ⟨by show 1 ≤ 1 + s2; omega, a10⟩
      · intro c m
        rcases List.mem_append.mp m with m | m
        · exact hb c m
        · rw [List.mem_singleton.mp m]
          exact ⟨sm_of (by show 0 ≤ 1 + s2; omega) (by rw [e30']; show 1 + s2 < _; omega), sm_of a10 (by rw [e30']; show s4 < _; omega)⟩
    · obtain ⟨ts, cs, y3, y4, rfl, kp, T5, hG, hno, hcl, hC, hb⟩ := hW
      exact ⟨_, rfl, q H5 o ts cs kp (T5.more (by omega)) hG hno hC (by omega) hb⟩
end
end El
namespace El
open PySem PySem.Spec PyProof.Rows L2 SX
section
variable {P : Program} {w : World} {K : PySem.W.Frag} {mg : Str → Option Value} {base : Heap}
abbrev s__law_crowds_written : Stmt := topS 37
abbrev N__law_crowds_written : List Str := ["folk", "many", "bears"]
abbrev P__law_crowds_written : List Str := ["folk"]
theorem sc__law_crowds_written : FnScope N__law_crowds_written P__law_crowds_written (defScope s__law_crowds_written) := ⟨rfl, rfl, rfl, by decide +kernel, rfl, by decide +kernel, by decide +kernel⟩
def sp__law_crowds_written : Sp := fun vs H Q _ => ∃ (BB : Addr → Prop) (a : Addr) (ts : List Addr) (gs : List (Int × Int)), vs = [.ref a] ∧ GsAt H BB a ts gs ∧ Sms gs ∧ gs.length ≤ 1000 ∧ ∀ H', Same H H' → Q (.str (S (textOf 120 gs))) H'
theorem ok__law_crowds_written (A : At K mg "_law_crowds_written" P__law_crowds_written s__law_crowds_written) (B : Bi mg) : Df P w K mg base 1 "_law_crowds_written" P__law_crowds_written s__law_crowds_written sp__law_crowds_written := by
  refine A.df fun f fd F => F.ok sc__law_crowds_written (fun vs H Q E h => ?_) (fun cdv AA outer s H vs Q E hr h => ?_)
  · obtain ⟨_, _, _, _, rfl, _⟩ := h
    rfl
  · obtain ⟨BB, a, ts, gs, rfl, hG, hs, hl, q⟩ := h
    have nd := sc__law_crowds_written.nd
    refine ⟨_, (pss_one (ps_ret (pe_ifExp (pt_cmpR (op_neD hr.units) (pv 0) (pe_lst pa_nil) (nomark _)) (pe_bm PySem.F.plainAttrs_str PySem.F.slot_str_join PySem.F.type_str_join mt_join pe_str (pa_cons (pe_lc (own := [("many", 1), ("bears", 2)]) (tt := tYes) rfl nd (pi_list (pv 0)) (blkOk_by (N := N__law_crowds_written) (sc := defScope s__law_crowds_written) (by decide +kernel)) (fun _ _ _ _ _ => (pgTupK K 2 (by rfl) (pgs_cons (pg_name (i := 1) nd rfl (.inl rfl)) (pgs_cons (pg_name (i := 2) nd rfl (.inl rfl)) pgs_nil)))) (fun _ _ _ _ _ => pts_nil) (fun _ _ _ _ _ => (pe_op op_add_str (pe_op op_add_str (pe_callTy call_str_int (by rfl) B.str_ (by decide +kernel) (pa_cons (pv 1) pa_nil)) pe_str) (pe_callTy call_str_int (by rfl) B.str_ (by decide +kernel) (pa_cons (pv 2) pa_nil))))) pa_nil)) pe_str))), ?_⟩
    refine ⟨.ref a, rfl, Nat.zero_le _, fun e ne => ?_⟩
    have s1 : Same H (upd H e (.lst [])) := same_new ne
    have ee : (upd H e (.lst [])) e = some (.lst []) := upd_same
    generalize upd H e (.lst []) = H1 at s1 ee ⊢
    have hG1 := hG.same s1
    refine ⟨dGs gs, dGs [], hG1.dp, ?_, (Oks.gs _).shaped, (Oks.gs _).shaped, _, rfl, ?_⟩
    · exact GsAt.dp (B := fun _ => True) (ts := []) ⟨ee, trivial, rfl, fun i t g e _ => by simp at e, fun t m => by simp at m⟩
    by_cases hn : gs = []
    · subst hn
      rw [(Oks.gs []).eqv]
      refine iteX rfl ?_
      have q' := q _ s1
      unfold textOf at q'
      rw [if_pos rfl, ← none_S] at q'
      exact q'
    · rw [eqv_gs_nil hn]
      refine iteTx rfl ?_
      refine ⟨rfl, .ref a, rfl, a, rfl, ⟨_, hG1.seq⟩, fun D nD => ?_⟩
      refine lc_it (walk_list (xs := ts.map V.ref)) (fun k H2 => Same H1 H2 ∧ H2 D = some (.lst (((gs.take k).map fun g => S (twoW 120 g)).map V.str))) ⟨same_new nD, upd_same⟩ (fun k H2 _ hW => ?_) (fun k x H2 H3 hk hW hY => ?_) (fun H2 hW => ?_)
      · exact (hG1.same hW.1).seq
      · obtain ⟨sm, e⟩ := hW
        obtain ⟨rfl, hx⟩ := hY
        obtain ⟨t, g, rfl, eg, et⟩ := (hG1.same sm).get hx
        obtain ⟨h1, h2⟩ := hs g (List.mem_of_getElem? eg)
        have l1 := text_small h1
        have l2 := text_small h2
        have lx : (Str.ofString "x").length = 1 := rfl
        refine ⟨t, _, rfl, SqT.of et, rfl, .int g.1, _, rfl, .int g.2, _, rfl, rfl, rfl, ?_⟩
        refine ⟨.int g.1, rfl, g.1, rfl, h1.log, _, _, rfl, rfl, ile (by rw [lx]; omega), .int g.2, rfl, g.2, rfl, h2.log, _, _, rfl, rfl, ile (by rw [PySem.Str.length_append, lx]; omega), ?_⟩
        refine ⟨_, e, ils (by rw [List.length_map, List.length_map, List.length_take]; omega), Same.mut sm nD, ?_⟩
        rw [upd_same, take_snoc eg, List.map_append, List.map_append]
        show some (HO.lst (_ ++ [V.str (Str.ofString (toString g.1) ++ ("x" : Str) ++ Str.ofString (toString g.2))])) = _
        rw [fs_two' _ _ 120 _ one_S.1]
        rfl
      · obtain ⟨sm, e⟩ := hW
        rw [List.length_map, hG1.len, take_full] at e
        have hsz : ∀ w ∈ gs.map (fun g => S (twoW 120 g)), w.length ≤ 63 := fun w m => by
          obtain ⟨g, mg', rfl⟩ := List.mem_map.mp m
          rw [S_len]
          exact twoW_len (hs g mg')
        refine ⟨_, D, gs.map (fun g => S (twoW 120 g)), rfl, rfl, .inl (SqL.of e), ?_, ?_⟩
        · have := sum_lens hsz
          rw [List.length_map] at this ⊢
          rw [one_S.2.2.1, S_len]
          show _ + gs.length * 1 ≤ _
          omega
        · have hj : Txt.join " " (gs.map fun g => S (twoW 120 g)) = S (TL.joinL [32] (gs.map (twoW 120))) := by
            rw [one_S.2.2.1, ← join_S, List.map_map]
            rfl
          rw [hj]
          have q' := q H2 (s1.trans sm)
          unfold textOf at q'
          rw [if_neg hn] at q'
          exact q'
end
end El
namespace El
open PySem PySem.Spec PyProof.Rows L2 SX
section
variable {X : Cx}
theorem sortIK (K : PySem.W.Frag) (e : X.K = K := by rfl) : CallR X (.builtin "sorted") (rSortedI K) := by
  subst e
  exact cr_sortedI
theorem pe_revLK (K : PySem.W.Frag) {e : Expr} {te : TE} {k : Nat} {p1 p2 p3 pos : Pos} (he : PE X e te) (eK : X.K = K := by rfl) : PE X (.Subscript e (.Slice none none (some (.UnaryOp .USub (.Constant (.int 1) k p1) p2)) p3) pos) (tRevL K te) := by
  subst eK
  exact pe_revL he
end
theorem flat_down : ∀ rs : List (List Int), (rs.map down).flatten.Perm rs.flatten
  | [] => .refl _
  | r :: rs => by
    rw [List.map_cons, List.flatten_cons, List.flatten_cons]
    exact (down_perm r).append (flat_down rs)
theorem down_falls {r : List Int} (h : r.Nodup) : (down r).Pairwise (· > ·) := by
  have h2 : (down r).Nodup := (down_perm r).nodup_iff.mpr h
  refine (List.pairwise_and_iff.mpr ⟨down_sorted r, h2⟩).imp fun {a b} h => ?_
  have h1 := h.1
  have h2 := h.2
  show b < a
  omega
theorem room_nodup {rs : List (List Int)} (h : rs.flatten.Nodup) : ∀ r ∈ rs, r.Nodup := (List.pairwise_flatten.mp h).1
theorem set_ne {rs : List (List Int)} {i : Nat} {r : List Int} (h : ∀ q ∈ rs, q ≠ []) (hr : r ≠ []) : ∀ q ∈ rs.set i r, q ≠ [] := fun q m => by
  rcases List.mem_or_eq_of_mem_set m with m | rfl
  · exact h q m
  · exact hr
theorem flat_setT : ∀ {rs : List (List Int)} {i : Nat} {r : List Int} (a : Int), rs[i]? = some r → (rs.set i (r ++ [a])).flatten.Perm (a :: rs.flatten)
  | [], _, _, _, e => by simp at e
  | s :: rs, 0, r, a, e => by
    obtain rfl : s = r := Option.some.inj e
    show ((s ++ [a]) :: rs).flatten.Perm _
    rw [List.flatten_cons, List.flatten_cons, List.append_assoc]
    exact List.perm_middle
  | s :: rs, i + 1, r, a, e => by
    show (s :: rs.set i (r ++ [a])).flatten.Perm _
    rw [List.flatten_cons, List.flatten_cons]
    exact ((flat_setT a (by simpa using e)).append_left s).trans List.perm_middle
end El
namespace El
open PySem PySem.Spec PyProof.Rows L2
section
variable {P : Program} {w : World} {K : PySem.W.Frag} {mg : Str → Option Value} {base : Heap}
abbrev s_patience_by_age : Stmt := topS 6
abbrev N_patience_by_age : List Str := ["guests", "patience_of", "number", "age", "patience"]
abbrev P_patience_by_age : List Str := ["guests"]
theorem sc_patience_by_age : FnScope N_patience_by_age P_patience_by_age (defScope s_patience_by_age) := ⟨rfl, rfl, rfl, by decide +kernel, rfl, by decide +kernel, by decide +kernel⟩
def sp_patience_by_age : Sp := fun vs H Q _ => ∃ (B : Addr → Prop) (a : Addr) (ts : List Addr) (gs : List (Int × Int)), vs = [.ref a] ∧ GsAt H B a ts gs ∧ Fit gs ∧ gs.length ≤ 1000 ∧
  ∀ H' d, Same H H' → H d = none → H' d = some (.dK (pks gs)) → Q (.ref d) H'
theorem ok_patience_by_age (A : At K mg "patience_by_age" P_patience_by_age s_patience_by_age) (B : Bi mg) : Df P w K mg base 1 "patience_by_age" P_patience_by_age s_patience_by_age sp_patience_by_age := by
  refine A.df fun f fd F => F.ok sc_patience_by_age (fun vs H Q E h => ?_) (fun cdv AA outer s H vs Q E hr h => ?_)
  · obtain ⟨_, a, _, _, rfl, _⟩ := h
    rfl
  · obtain ⟨BB, a, ts, gs, rfl, hG, hF, hl, q⟩ := h
    have nd := sc_patience_by_age.nd
    refine ⟨_, (pss_cons (ps_set (i := 1) nd rfl (.inl rfl) pe_dnewK)
    (pss_cons (ps_for PassesOwn.never rfl (pi_enum (by rfl) B.enumerate (pa_cons (pv 0) pa_nil)) (pg_tup (by rfl) (pgs_cons (pg_name (i := 2) nd rfl (.inl rfl)) (pgs_cons (pg_tup (by rfl) (pgs_cons (pg_name (i := 3) nd rfl (.inl rfl)) (pgs_cons (pg_name (i := 4) nd rfl (.inl rfl)) pgs_nil))) pgs_nil))) (pss_cons (ps_if (PW.pt (pw_or (pt_cmpR op_lt (pv 4) pe_int (nomark _)) (pw_or1 (pt_cmp (pc_din (hu_of hr) (pv 3) (pv 1)))))) (pss_one ps_never) pss_nil) (pss_one (ps_dput (hu_of hr) (pv 1) (pv 3) (pv 4) rfl))))
    (pss_one (ps_ret (pv 1))))), ?_⟩
    -- patience_of = {}
    refine fun d nd => ?_
    have hG1 := hG.same (same_new (o := .dK []) nd)
    -- the loop
    refine ⟨.ref a, rfl, a, ts.map V.ref, rfl, hG1.seq, ?_⟩
    refine for_it (walk_enum (xs := ts.map V.ref)) (fun i σ H2 => ∃ y2 y3 y4, σ = [some (.ref a), some (.ref d), y2, y3, y4] ∧ Same H H2 ∧ H2 d = some (.dK (pks (gs.take i)))) ⟨none, none, none, rfl, same_new nd, upd_same⟩ (fun i σ H2 _ hW => ?_) (fun i x σ H2 H3 hi hW hY => ?_) (fun σ H2 hW => ?_)
    · obtain ⟨_, _, _, _, sm, _⟩ := hW
      exact (hG.same sm).seq
    · obtain ⟨y2, y3, y4, rfl, sm, hd⟩ := hW
      obtain ⟨T, x1, x2, rfl, nT, rfl, f1, f2⟩ := hY
      obtain rfl : V.int ↑i = x1 := Option.some.inj f1
      obtain ⟨t, g, rfl, eg, et⟩ := (hG.same sm).get f2
      have s3 : Same H2 (upd H2 T (.tup [.int i, .ref t])) := same_new nT
      refine ⟨T, [.int i, .ref t], rfl, SqT.of upd_same, rfl, .int i, [.ref t], rfl, .ref t, [], rfl, ?_⟩
      refine ⟨t, _, rfl, SqT.of (s3 _ _ et), rfl, .int g.1, [.int g.2], rfl, .int g.2, [], rfl, rfl, rfl, ?_⟩
      -- the test
      have hg : 0 ≤ g.2 := hF.pos g (List.mem_of_getElem? eg)
      have no := hF.take_no eg
      refine ⟨.int g.2, rfl, _, _, rfl, rfl, _, rfl, ?_⟩
      rw [decide_eq_false (by omega)]
      refine iteF ?_
      refine ⟨.int g.1, rfl, .ref d, rfl, d, _, rfl, DGet.k (k := Sum.inl g.1) (s3 _ _ hd), _, rfl, ?_⟩
      rw [pks_none no]
      refine iteF ?_
      refine ⟨.int g.2, rfl, .ref d, rfl, .int g.1, rfl, d, _, rfl, DPut.k (k := Sum.inl g.1) (s3 _ _ hd) (ils (by rw [pks_len, List.length_take]; omega)), ?_⟩
      refine ⟨some (.int i), some (.int g.1), some (.int g.2), rfl, Same.mut (Same.trans sm s3) nd, ?_⟩
      rw [upd_same, putK_snoc no, take_snoc eg]
    · obtain ⟨y2, y3, y4, rfl, sm, hd⟩ := hW
      rw [show (ts.map V.ref).length = gs.length by rw [List.length_map, hG.len], take_full] at hd
      exact ⟨.ref d, rfl, q H2 d sm nd hd⟩
end
end El
namespace El
open PySem PySem.Spec PyProof.Rows L2
section
variable {P : Program} {w : World} {K : PySem.W.Frag} {mg : Str → Option Value} {base : Heap}
abbrev s_first_borne : Stmt := topS 21
abbrev N_first_borne : List Str := ["filled", "patience", "number", "room"]
abbrev P_first_borne : List Str := ["filled", "patience"]
theorem sc_first_borne : FnScope N_first_borne P_first_borne (defScope s_first_borne) := ⟨rfl, rfl, rfl, by decide +kernel, rfl, by decide +kernel, by decide +kernel⟩
def sp_first_borne : Sp := fun vs H Q _ => ∃ (B : Addr → Prop) (o : Addr) (ts : List Addr) (rs : List (List Int)) (p : Int), vs = [.ref o, .int p] ∧ RmsAt H B o ts rs ∧ rs.length ≤ 1000 ∧
  ∀ H', Same H H' → Q (.int (firstB rs p)) H'
theorem ok_first_borne (A : At K mg "first_borne" P_first_borne s_first_borne) (B : Bi mg) : Df P w K mg base 1 "first_borne" P_first_borne s_first_borne sp_first_borne := by
  refine A.df fun f fd F => F.ok sc_first_borne (fun vs H Q E h => ?_) (fun cdv AA outer s H vs Q E hr h => ?_)
  · obtain ⟨_, _, _, _, _, rfl, _⟩ := h
    rfl
  · obtain ⟨BB, o, ts, rs, p, rfl, hR, hl, q⟩ := h
    have nd := sc_first_borne.nd
    refine ⟨_, (pss_cons (ps_for PassesOwn.never rfl (pi_enum (by rfl) B.enumerate (pa_cons (pv 0) pa_nil)) (pg_tup (by rfl) (pgs_cons (pg_name (i := 2) nd rfl (.inl rfl)) (pgs_cons (pg_name (i := 3) nd rfl (.inl rfl)) pgs_nil))) (pss_one (ps_if (pt_cmpR op_le (pe_callB call_len_seq (by rfl) B.len PySem.boot_len (pa_cons (pv 3) pa_nil)) (pv 1) (nomark _)) (pss_one (ps_ret (pv 2))) pss_nil)))
    (pss_one (ps_ret (pe_callB call_len_seq (by rfl) B.len PySem.boot_len (pa_cons (pv 0) pa_nil))))), ?_⟩
    refine ⟨.ref o, rfl, o, ts.map V.ref, rfl, hR.seq, ?_⟩
    refine for_it (walk_enum (xs := ts.map V.ref)) (fun i σ H2 => ∃ y2 y3, σ = [some (.ref o), some (.int p), y2, y3] ∧ Same H H2 ∧ ∀ j r, j < i → rs[j]? = some r → p < (r.length : Int)) ⟨none, none, rfl, Same.refl _, fun j r h => absurd h (Nat.not_lt_zero _)⟩ (fun i σ H2 _ hW => ?_) (fun i x σ H2 H3 hi hW hY => ?_) (fun σ H2 hW => ?_)
    · obtain ⟨_, _, _, sm, _⟩ := hW
      exact (hR.same sm).seq
    · obtain ⟨y2, y3, rfl, sm, hp⟩ := hW
      obtain ⟨T, x1, x2, rfl, nT, rfl, f1, f2⟩ := hY
      obtain rfl : V.int ↑i = x1 := Option.some.inj f1
      obtain ⟨t, r, rfl, _, er, et⟩ := (hR.same sm).get f2
      have s3 : Same H2 (upd H2 T (.tup [.int i, .ref t])) := same_new nT
      refine ⟨T, [.int i, .ref t], rfl, SqT.of upd_same, rfl, .int i, [.ref t], rfl, .ref t, [], rfl, rfl, ?_⟩
      refine ⟨.ref t, rfl, t, _, rfl, .inl (SqL.of (s3 _ _ et)), .int p, rfl, _, _, rfl, rfl, _, rfl, ite2 (fun e => ?_) (fun e => ?_)⟩
      · have e := of_decide_eq_true e
        rw [List.length_map] at e
        have hb : firstB rs p = i := firstB_is rs p i (Nat.le_of_lt (at_lt er)) hp fun r' e' => by
          obtain rfl : r = r' := Option.some.inj (er.symm.trans e')
          exact e
        refine ⟨.int i, rfl, ?_⟩
        have q' := q (upd H2 T (.tup [.int i, .ref t])) (sm.trans s3)
        rw [hb] at q'
        exact q'
      · have e : ¬ (((r.map V.int).length : Int) ≤ p) := fun z => e (decide_eq_true z)
        rw [List.length_map] at e
        refine ⟨some (.int i), some (.ref t), rfl, sm.trans s3, fun j r' hj e' => ?_⟩
        by_cases hji : j < i
        · exact hp j r' hji e'
        · have : j = i := by omega
          subst this
          obtain rfl : r = r' := Option.some.inj (er.symm.trans e')
          omega
    · obtain ⟨y2, y3, rfl, sm, hp⟩ := hW
      have hn : (ts.map V.ref).length = rs.length := by rw [List.length_map, hR.len]
      rw [hn] at hp
      have hb : firstB rs p = rs.length := firstB_is rs p _ (Nat.le_refl _) hp fun r' e' => absurd (at_lt e') (Nat.lt_irrefl _)
      refine ⟨.ref o, rfl, o, _, rfl, .inl (hR.same sm).seq, ?_⟩
      have q' := q H2 sm
      rw [hb, ← hn] at q'
      exact q'
end
end El
namespace El
open PySem PySem.Spec PyProof.Rows L2
section
variable {P : Program} {w : World} {K : PySem.W.Frag} {mg : Str → Option Value} {base : Heap}
abbrev s_rooms : Stmt := topS 20
abbrev N_rooms : List Str := ["guests", "patience_of", "told", "age", "number"]
abbrev P_rooms : List Str := ["guests"]
theorem sc_rooms : FnScope N_rooms P_rooms (defScope s_rooms) := ⟨rfl, rfl, rfl, by decide +kernel, rfl, by decide +kernel, by decide +kernel⟩
def sp_rooms : Sp := fun vs H Q _ => ∃ (B : Addr → Prop) (a : Addr) (ts : List Addr) (gs : List (Int × Int)), vs = [.ref a] ∧ GsAt H B a ts gs ∧ Fit gs ∧ gs.length ≤ 1000 ∧
  ∀ H' o us, Same H H' → RmsAt H' (fun b => H b = none) o us (settle gs) → Q (.ref o) H'
theorem ok_rooms (A : At K mg "rooms" P_rooms s_rooms) (B : Bi mg) (D_patience_by_age : Df P w K mg base 1 "patience_by_age" P_patience_by_age s_patience_by_age sp_patience_by_age)
    (D_first_borne : Df P w K mg base 1 "first_borne" P_first_borne s_first_borne sp_first_borne) : Df P w K mg base 2 "rooms" P_rooms s_rooms sp_rooms := by
  refine A.df fun f fd F => F.ok sc_rooms (fun vs H Q E h => ?_) (fun cdv AA outer s H vs Q E hr h => ?_)
  · obtain ⟨_, a, _, _, rfl, _⟩ := h
    rfl
  · obtain ⟨BB, a, ts, gs, rfl, hG, hF, hl, q⟩ := h
    have nd := sc_rooms.nd
    refine ⟨_, (pss_cons (ps_set (i := 1) nd rfl (.inl rfl) (pe_df D_patience_by_age (hr.mono (by decide)) (by rfl) (pa_cons (pv 0) pa_nil)))
    (pss_cons (ps_set (i := 2) nd rfl (.inl rfl) (pe_lst pa_nil))
    (pss_cons (ps_for PassesOwn.never rfl (pi_list (pe_callBK (cr_sortedRevD (b := true) rfl) (by rfl) B.sorted (by decide +kernel) (pa_cons (pv 1) pa_nil) (pk_cons pe_bl pk_nil))) (pg_name (i := 3) nd rfl (.inl rfl)) (pss_cons (ps_set (i := 4) nd rfl (.inl rfl) (pe_df D_first_borne (hr.mono (by decide)) (by rfl) (pa_cons (pv 2) (pa_cons (pe_dget (hu_of hr) (pv 1) (pv 3) (fun _ _ => rfl)) pa_nil)))) (pss_cons (ps_if (pt_cmpR op_eq (pv 4) (pe_callB call_len_seq (by rfl) B.len PySem.boot_len (pa_cons (pv 2) pa_nil)) (nomark _)) (pss_one (ps_expr (pe_bm PySem.F.plainAttrs_list PySem.F.slot_list_append PySem.F.type_list_append mt_append (pv 2) (pa_cons (pe_lst pa_nil) pa_nil)))) pss_nil) (pss_one (ps_expr (pe_bm PySem.F.plainAttrs_list PySem.F.slot_list_append PySem.F.type_list_append mt_append (pe_ix ix_list (pv 2) (pv 4) (fun _ _ => rfl)) (pa_cons (pv 3) pa_nil)))))))
    (pss_one (ps_ret (pv 2)))))), ?_⟩
    -- patience_of = patience_by_age(guests)
    refine ⟨.ref a, rfl, BB, a, ts, gs, rfl, hG, hF, hl, fun H1 d s1 n1 e1 => ?_⟩
    -- told = []
    refine ⟨Nat.zero_le _, fun o no => ?_⟩
    have s2 : Same H1 (upd H1 o (.lst [])) := same_new no
    -- sorted(patience_of, reverse=True)
    refine ⟨.ref d, rfl, d, pks gs, gs.map (·.1), rfl, rfl, .inl (s2 _ _ e1), pks_keys gs, fun ns p hp ho np => ?_⟩
    have hns : ns = (byAge gs).map (·.1) := ages_of hF hp ho
    subst hns
    have s3 : Same (upd H1 o (.lst [])) (upd (upd H1 o (.lst [])) p (.lst (((byAge gs).map (·.1)).map V.int))) := same_new np
    have sH : Same H (upd (upd H1 o (.lst [])) p (.lst (((byAge gs).map (·.1)).map V.int))) := s1.trans (s2.trans s3)
    refine ⟨p, rfl, ⟨_, SqL.of upd_same⟩, ?_⟩
    have hpo : o ≠ p := (no_of upd_same np).symm
    have eo : upd (upd H1 o (.lst [])) p (.lst (((byAge gs).map (·.1)).map V.int)) o = some (.lst []) := by
      rw [upd_ne hpo, upd_same]
    have ep : upd (upd H1 o (.lst [])) p (.lst (((byAge gs).map (·.1)).map V.int)) p = some (.lst (((byAge gs).map (·.1)).map V.int)) := upd_same
    have ed := s3 _ _ (s2 _ _ e1)
    have hdo : d ≠ o := ne_of_none e1 no
    have no' : H o = none := s1.free no
    revert eo ep ed sH
    generalize upd (upd H1 o (.lst [])) p (.lst (((byAge gs).map (·.1)).map V.int)) = Hs
    intro sH eo ep ed
    refine for_it (walk_list (xs := ((byAge gs).map (·.1)).map V.int)) (fun i σ H2 => ∃ us y3 y4, σ = [some (.ref a), some (.ref d), some (.ref o), y3, y4] ∧ Kp (fun b => b ≠ o) Hs H2 ∧ RmsAt H2 (fun b => b = o ∨ Hs b = none) o us (settleL ((byAge gs).take i)))
      ⟨[], none, none, rfl, Kp.refl, RmsAt.nil eo (.inl rfl)⟩ (fun i σ H2 _ hW => ?_) (fun i x σ H2 H3 hi hW hY => ?_) (fun σ H2 hW => ?_)
    · obtain ⟨_, _, _, _, kp, _⟩ := hW
      exact SqL.of (kp _ _ hpo.symm ep)
    · obtain ⟨us, y3, y4, rfl, kp, hR⟩ := hW
      obtain ⟨rfl, hx⟩ := hY
      obtain ⟨n, hx', rfl⟩ := ints_at hx
      have hi' : i < (byAge gs).length := by
        have := at_lt hx'
        rw [List.length_map] at this
        exact this
      obtain ⟨g, eg⟩ := at_some hi'
      rw [List.getElem?_map, eg] at hx'
      obtain rfl : g.1 = n := Option.some.inj hx'
      have hm : g ∈ gs := (byAge_perm gs).mem_iff.mp (List.mem_of_getElem? eg)
      have hlt : (settleL ((byAge gs).take i)).length ≤ 1000 := by
        refine Nat.le_trans (settleL_len _) ?_
        rw [List.length_take, byAge_length]
        omega
      have hE := settleL_take eg
      have hrm : ∀ r ∈ settleL ((byAge gs).take i), r.length ≤ 1000 := fun r hr => by
        refine Nat.le_trans (settleL_room hr) ?_
        rw [List.length_take, byAge_length]
        omega
      revert hlt hE hR hrm
      generalize settleL ((byAge gs).take i) = rs
      intro hR hlt hE hrm
      -- number = first_borne(told, patience_of[age])
      refine ⟨.ref o, rfl, .ref d, rfl, .int g.1, rfl, d, .int g.2, rfl, dget_pks (kp _ _ hdo ed) hF hm, _, o, us, _, g.2, rfl, hR, hlt, fun H4 s4 => ?_⟩
      have hR4 := hR.same s4
      have k4 : Kp (fun b => b ≠ o) Hs H4 := kp.trans (.of s4)
      have fin : ∀ {H5 : Hp} {us' : List Addr} {rs' : List (List Int)} {t : Addr} {r : List Int}, Kp (fun b => b ≠ o) Hs H5 → RmsAt H5 (fun b => b = o ∨ Hs b = none) o us' rs' → us'[firstB rs g.2]? = some t → place rs g.1 g.2 = rs'.set (firstB rs g.2) (r ++ [g.1]) →
          ∃ us y3 y4, [some (V.ref a), some (.ref d), some (.ref o), some (.int g.1), some (.int (firstB rs g.2))] = [some (V.ref a), some (.ref d), some (.ref o), y3, y4] ∧ Kp (fun b => b ≠ o) Hs (upd H5 t (.lst (r.map V.int ++ [.int g.1]))) ∧ RmsAt (upd H5 t (.lst (r.map V.int ++ [.int g.1]))) (fun b => b = o ∨ Hs b = none) o us (settleL ((byAge gs).take (i + 1))) := by
        intro H5 us' rs' t r k5 hR5 et ep
        refine ⟨us', _, _, rfl, ?_, ?_⟩
        · rcases hR5.b t (List.mem_of_getElem? et) with z | z
          · exact absurd (z ▸ List.mem_of_getElem? et) hR5.no
          · exact k5.mutF z
        · have z := hR5.set et (r ++ [g.1])
          rw [List.map_append] at z
          rw [hE, ep]
          exact z
      -- if number == len(told)
      refine ⟨_, rfl, .ref o, rfl, o, _, rfl, .inl hR4.seq, rfl, _, rfl, ite2 (fun e => ?_) (fun e => ?_)⟩
      · have e := V.int.inj (of_decide_eq_true e)
        rw [List.length_map, hR.len] at e
        have e : firstB rs g.2 = rs.length := by omega
        refine ⟨.ref o, rfl, .inl ⟨rfl, _, hR4.seq⟩, Nat.zero_le _, fun u nu => ?_⟩
        have nuo : o ≠ u := ne_of_none hR4.top nu
        refine ⟨o, _, _, rfl, rfl, (by rw [upd_ne nuo]; exact hR4.top), ils (by rw [List.length_map, hR.len]; omega), ?_⟩
        have hns : Hs u = none := k4.none nuo.symm nu
        have hR5 := hR4.push (r := []) nu (.inr hns)
        have k5 : Kp (fun b => b ≠ o) Hs (upd (upd H4 u (.lst [])) o (.lst (us.map V.ref ++ [.ref u]))) := Kp.mut (Kp.new k4 nu) (fun z => z rfl)
        have et : (us ++ [u])[firstB rs g.2]? = some u := by
          rw [e, ← hR.len, List.getElem?_append_right (Nat.le_refl _), Nat.sub_self]
          rfl
        have er : (rs ++ [[]])[firstB rs g.2]? = some [] := by
          rw [e, List.getElem?_append_right (Nat.le_refl _), Nat.sub_self]
          rfl
        have eu := hR5.at' _ _ _ et er
        refine ⟨.ref o, rfl, _, rfl, o, _, _, .ref u, rfl, rfl, SqL.of (by rw [upd_same]), atI_nat (j := firstB rs g.2) ?_, .inl ⟨rfl, _, SqL.of eu⟩, .int g.1, rfl, u, _, _, rfl, rfl, eu, ils (Nat.zero_le _), ?_⟩
        · have z := congrArg (Option.map V.ref) et
          rw [← List.getElem?_map, List.map_append] at z
          exact z
        · refine fin (r := []) k5 hR5 et ?_
          rw [place_new _ _ _ e, e, List.set_append_right _ _ (Nat.le_refl _), Nat.sub_self]
          rfl
      · have e : ¬ firstB rs g.2 = rs.length := fun z => e (decide_eq_true (by rw [List.length_map, hR.len, z]))
        have hle := firstB_le rs g.2
        obtain ⟨r, er, _⟩ := firstB_in rs g.2 (by omega)
        obtain ⟨t, et, eu⟩ := hR4.of er
        refine ⟨.ref o, rfl, _, rfl, o, _, _, .ref t, rfl, rfl, hR4.seq, atI_nat (j := firstB rs g.2) ?_, .inl ⟨rfl, _, SqL.of eu⟩, .int g.1, rfl, t, _, _, rfl, rfl, eu, ils (by rw [List.length_map]; have := hrm r (List.mem_of_getElem? er); omega), ?_⟩
        · rw [List.getElem?_map, et]
          rfl
        · exact fin k4 hR4 et (place_at _ _ _ _ er)
    · obtain ⟨us, y3, y4, rfl, kp, hR⟩ := hW
      rw [List.length_map, List.length_map, take_full] at hR
      refine ⟨.ref o, rfl, q H2 o us ?_ (hR.newTop (fun _ _ _ e => e) fun b hb => ?_)⟩
      · intro b x hb
        exact kp _ _ (ne_of_none hb no') (sH _ _ hb)
      · rcases hb with rfl | hb
        · exact no'
        · rcases hR.b b hb with rfl | z
          · exact no'
          · exact sH.free z
end
end El
namespace El
open PySem PySem.Spec PyProof.Rows L2
section
variable {P : Program} {w : World} {K : PySem.W.Frag} {mg : Str → Option Value} {base : Heap}
abbrev s_check_arrangement : Stmt := topS 7
abbrev N_check_arrangement : List Str := ["patience_of", "arrangement", "seen", "number", "room", "age"]
abbrev P_check_arrangement : List Str := ["patience_of", "arrangement"]
theorem sc_check_arrangement : FnScope N_check_arrangement P_check_arrangement (defScope s_check_arrangement) := ⟨rfl, rfl, rfl, by decide +kernel, rfl, by decide +kernel, by decide +kernel⟩
def sp_check_arrangement : Sp := fun vs H Q _ => ∃ (d o : Addr) (ts : List Addr) (rs : List (List Int)) (gs : List (Int × Int)), vs = [.ref d, .ref o] ∧ H d = some (.dK (pks gs)) ∧ RdAt H o ts rs ∧ rs.flatten.Perm (gs.map (·.1)) ∧ (gs.map (·.1)).Nodup ∧ gs.length ≤ 1000 ∧
  ∀ H', Same H H' → Q .non H'
theorem ok_check_arrangement (A : At K mg "check_arrangement" P_check_arrangement s_check_arrangement) (B : Bi mg) : Df P w K mg base 1 "check_arrangement" P_check_arrangement s_check_arrangement sp_check_arrangement := by
  refine A.df fun f fd F => F.ok sc_check_arrangement (fun vs H Q E h => ?_) (fun cdv AA outer s H vs Q E hr h => ?_)
  · obtain ⟨_, _, _, _, _, rfl, _⟩ := h
    rfl
  · obtain ⟨d, o, ts, rs, gs, rfl, hd, hR, hp, hn, hl, q⟩ := h
    have nd := sc_check_arrangement.nd
    refine ⟨_, (pss_cons (ps_set (i := 2) nd rfl (.inl rfl) (pe_callTy0 cr_set0 (by rfl) B.set_ (by decide +kernel)))
    (pss_cons (ps_for PassesOwn.never rfl (pi_enum (by rfl) B.enumerate (pa_cons (pv 1) pa_nil)) (pg_tup (by rfl) (pgs_cons (pg_name (i := 3) nd rfl (.inl rfl)) (pgs_cons (pg_name (i := 4) nd rfl (.inl rfl)) pgs_nil))) (pss_one (ps_for PassesOwn.never rfl (pi_list (pv 4)) (pg_name (i := 5) nd rfl (.inl rfl)) (pss_cons (ps_if (PW.pt (pw_or (pt_cmp (pc_dnotin (hu_of hr) (pv 5) (pv 0))) (pw_or1 (pt_cmpR or_sin (pv 5) (pv 2) (by rfl))))) (pss_one ps_never) pss_nil) (pss_one (ps_expr (pe_sadd (pv 2) (pa_cons (pv 5) pa_nil))))))))
    (pss_one (ps_if (pt_cmpR op_lt (pe_callB call_lenSI (by rfl) B.len PySem.boot_len (pa_cons (pv 2) pa_nil)) (pe_callB call_lenD (by rfl) B.len PySem.boot_len (pa_cons (pv 0) pa_nil)) (nomark _)) (pss_one ps_never) pss_nil)))), ?_⟩
    have hpl : rs.flatten.length = gs.length := by rw [hp.length_eq, List.length_map]
    have hfn : rs.flatten.Nodup := (hp.nodup_iff).mpr hn
    -- seen
    refine ⟨rfl, fun p np => ?_⟩
    refine ⟨.ref o, rfl, o, ts.map V.ref, rfl, (hR.same (same_new np)).seq, ?_⟩
    refine for_it (walk_enum (xs := ts.map V.ref)) (fun i σ H2 => ∃ y3 y4 y5 S, σ = [some (.ref d), some (.ref o), some (.ref p), y3, y4, y5] ∧ Same H H2 ∧ H2 p = some (SetO w p S (rs.take i).flatten.length) ∧ ∀ k, S k = decide (k ∈ (rs.take i).flatten))
      ⟨none, none, none, fun _ => false, rfl, same_new np, upd_same, fun k => (decide_eq_false (List.not_mem_nil)).symm⟩ (fun i σ H2 _ hW => ?_) (fun i x σ H2 H3 hi hW hY => ?_) (fun σ H2 hW => ?_)
    · obtain ⟨_, _, _, _, _, sm, _⟩ := hW
      exact (hR.same sm).seq
    · obtain ⟨y3, y4, y5, S, rfl, sm, hS, hm⟩ := hW
      obtain ⟨T, x1, x2, rfl, nT, rfl, f1, f2⟩ := hY
      obtain rfl : V.int ↑i = x1 := Option.some.inj f1
      obtain ⟨t, r, rfl, _, er, et⟩ := (hR.same sm).get f2
      have s3 : Same H2 (upd H2 T (.tup [.int i, .ref t])) := same_new nT
      refine ⟨T, [.int i, .ref t], rfl, SqT.of upd_same, rfl, .int i, [.ref t], rfl, .ref t, [], rfl, rfl, ?_⟩
      have hp3 := s3 _ _ hS
      have sm3 : Same H (upd H2 T (.tup [.int i, .ref t])) := sm.trans s3
      have et3 := s3 _ _ et
      revert hp3 sm3 et3
      generalize upd H2 T (.tup [.int i, .ref t]) = H3
      intro hp3 sm3 et3
      refine ⟨.ref t, rfl, t, rfl, ⟨_, SqL.of et3⟩, ?_⟩
      have htp : t ≠ p := fun z => by
        rw [z, hp3] at et3
        cases et3
      refine for_it (walk_list (xs := r.map V.int)) (fun j σ H4 => ∃ y5 S, σ = [some (.ref d), some (.ref o), some (.ref p), some (.int i), some (.ref t), y5] ∧ Kp (fun b => b ≠ p) H3 H4 ∧ H4 p = some (SetO w p S ((rs.take i).flatten ++ r.take j).length) ∧ ∀ k, S k = decide (k ∈ (rs.take i).flatten ++ r.take j))
        ⟨_, S, rfl, Kp.refl, by rw [List.take_zero, List.append_nil]; exact hp3, fun k => by rw [List.take_zero, List.append_nil]; exact hm k⟩ (fun j σ H4 _ hW => ?_) (fun j x σ H4 H5 hj hW hY => ?_) (fun σ H4 hW => ?_)
      · obtain ⟨_, _, _, kp, _⟩ := hW
        exact SqL.of (kp _ _ htp et3)
      · obtain ⟨y5, S, rfl, kp, hS4, hm4⟩ := hW
        obtain ⟨rfl, hx⟩ := hY
        obtain ⟨a, ea, rfl⟩ := ints_at hx
        have hdp : d ≠ p := fun z => by
          rw [z, np] at hd
          cases hd
        have hd4 := kp _ _ hdp (sm3 _ _ hd)
        have ha : a ∈ gs.map (·.1) := hp.mem_iff.mp (flat_mem er ea)
        have no := flat_split hfn er ea
        refine ⟨.int a, rfl, .ref d, rfl, d, _, rfl, dget_pof hd4 hn ha, _, rfl, ?_⟩
        refine iteF ⟨.int a, rfl, .ref p, rfl, a, p, S, _, rfl, rfl, hS4, _, rfl, ?_⟩
        rw [hm4 a, decide_eq_false no]
        refine iteF ⟨.ref p, rfl, ⟨p, S, _, rfl, hS4⟩, .int a, rfl, p, a, S, _, rfl, rfl, hS4, ?_, ?_⟩
        · have hlt : ((rs.take i).flatten ++ r.take j).length ≤ 1000 := by
            have h1 : (rs.take i).flatten.length + r.length ≤ rs.flatten.length := by
              have := congrArg List.length (congrArg List.flatten (List.take_append_drop (i + 1) rs))
              rw [List.flatten_append, List.length_append, take_snoc_flat er, List.length_append] at this
              omega
            rw [List.length_append, List.length_take]
            omega
          exact Nat.lt_of_le_of_lt (Nat.succ_le_succ hlt) (by decide)
        · have hSa : S a = false := by
            rw [hm4 a]
            exact decide_eq_false no
          have hne : ((rs.take i).flatten ++ r.take (j + 1)).length = ((rs.take i).flatten ++ r.take j).length + 1 := by
            rw [take_snoc ea, ← List.append_assoc, List.length_append (as := _ ++ _)]
            rfl
          refine ⟨some (.int a), fun z => S z || decide (z = a), rfl, Kp.mut kp (fun z => z rfl), ?_, ?_⟩
          · rw [hne]
            refine Eq.trans upd_same ?_
            rw [hSa]
            rfl
          · intro k
            show (S k || decide (k = a)) = _
            rw [hm4 k, take_snoc ea, ← List.append_assoc]
            by_cases h1 : k ∈ (rs.take i).flatten ++ r.take j
            · rw [decide_eq_true h1, decide_eq_true (List.mem_append_left _ h1)]
              rfl
            · rw [decide_eq_false h1, Bool.false_or]
              by_cases h2 : k = a
              · rw [decide_eq_true h2, decide_eq_true (List.mem_append_right _ (List.mem_singleton.mpr h2))]
              · rw [decide_eq_false h2, decide_eq_false fun z => (List.mem_append.mp z).elim h1 fun z => h2 (List.mem_singleton.mp z)]
      · obtain ⟨y5, S, rfl, kp, hS4, hm4⟩ := hW
        rw [List.length_map, take_full, ← take_snoc_flat er] at hS4
        refine ⟨_, _, _, S, rfl, fun b x e => kp b x (fun z => by rw [z, np] at e; cases e) (sm3 b x e), hS4, fun k => ?_⟩
        rw [hm4 k, List.length_map, take_full, ← take_snoc_flat er]
    · obtain ⟨y3, y4, y5, S, rfl, sm, hS, hm⟩ := hW
      rw [List.length_map, hR.len, take_full] at hS
      refine ⟨.ref p, rfl, p, S, _, rfl, hS, by omega, .ref d, rfl, d, _, rfl, sm _ _ hd, _, _, rfl, rfl, _, rfl, ?_⟩
      rw [pks_len, hpl, decide_eq_false (by omega)]
      exact iteF (q _ sm)
end
end El
namespace El
open PySem PySem.Spec PyProof.Rows L2
section
variable {P : Program} {w : World} {K : PySem.W.Frag} {mg : Str → Option Value} {base : Heap}
abbrev s_eldest_upset : Stmt := topS 23
abbrev N_eldest_upset : List Str := ["patience_of", "room", "elders", "age"]
abbrev P_eldest_upset : List Str := ["patience_of", "room"]
theorem sc_eldest_upset : FnScope N_eldest_upset P_eldest_upset (defScope s_eldest_upset) := ⟨rfl, rfl, rfl, by decide +kernel, rfl, by decide +kernel, by decide +kernel⟩
/-- the value told -/
def upV : Option Int → V
  | some a => .int a
  | none => .non
def sp_eldest_upset : Sp := fun vs H Q _ => ∃ (d o : Addr) (ns : List Int) (gs : List (Int × Int)), vs = [.ref d, .ref o] ∧ H d = some (.dK (pks gs)) ∧ H o = some (.lst (ns.map V.int)) ∧ (∀ a ∈ ns, a ∈ gs.map (·.1)) ∧ (gs.map (·.1)).Nodup ∧ ns.length ≤ 1000 ∧
  ∀ H', Same H H' → Q (upV (eldUp gs ns)) H'
theorem ok_eldest_upset (A : At K mg "eldest_upset" P_eldest_upset s_eldest_upset) (B : Bi mg) : Df P w K mg base 1 "eldest_upset" P_eldest_upset s_eldest_upset sp_eldest_upset := by
  refine A.df fun f fd F => F.ok sc_eldest_upset (fun vs H Q E h => ?_) (fun cdv AA outer s H vs Q E hr h => ?_)
  · obtain ⟨_, _, _, _, rfl, _⟩ := h
    rfl
  · obtain ⟨d, o, ns, gs, rfl, hd, ho, hm, hn, hl, q⟩ := h
    have nd := sc_eldest_upset.nd
    refine ⟨_, (pss_cons (ps_for PassesOwn.never rfl (pi_enum (by rfl) B.enumerate (pa_cons (pe_callBK (cr_sortedRev (b := true)) (by rfl) B.sorted (by decide +kernel) (pa_cons (pv 1) pa_nil) (pk_cons pe_bl pk_nil)) pa_nil)) (pg_tup (by rfl) (pgs_cons (pg_name (i := 2) nd rfl (.inl rfl)) (pgs_cons (pg_name (i := 3) nd rfl (.inl rfl)) pgs_nil))) (pss_one (ps_if (pt_cmpR op_gt (pv 2) (pe_dget (hu_of hr) (pv 0) (pv 3) (fun _ _ => rfl)) (nomark _)) (pss_one (ps_ret (pv 3))) pss_nil)))
    (pss_one (ps_ret pe_non))), ?_⟩
    refine ⟨.ref o, rfl, o, ns, rfl, rfl, SqL.of ho, fun ms p hp hs np => ?_⟩
    have hms : ms = down ns := down_is hp hs
    subst hms
    refine ⟨p, _, rfl, SqL.of upd_same, ?_⟩
    have sm1 : Same H (upd H p (.lst ((down ns).map V.int))) := same_new np
    have ep : upd H p (.lst ((down ns).map V.int)) p = some (.lst ((down ns).map V.int)) := upd_same
    revert sm1 ep
    generalize upd H p (.lst ((down ns).map V.int)) = H1
    intro sm1 ep
    refine for_it (walk_enum (xs := (down ns).map V.int)) (fun i σ H2 => ∃ y2 y3, σ = [some (.ref d), some (.ref o), y2, y3] ∧ Same H1 H2 ∧ ∀ (j : Nat) (b : Int), j < i → (down ns)[j]? = some b → (j : Int) ≤ pof gs b)
      ⟨none, none, rfl, Same.refl _, fun j b h => absurd h (Nat.not_lt_zero _)⟩ (fun i σ H2 _ hW => ?_) (fun i x σ H2 H3 hi hW hY => ?_) (fun σ H2 hW => ?_)
    · obtain ⟨_, _, _, sm, _⟩ := hW
      exact SqL.of (sm _ _ ep)
    · obtain ⟨y2, y3, rfl, sm, hb⟩ := hW
      obtain ⟨T, x1, x2, rfl, nT, rfl, f1, f2⟩ := hY
      obtain rfl : V.int ↑i = x1 := Option.some.inj f1
      obtain ⟨a, ea, rfl⟩ := ints_at f2
      have s3 : Same H2 (upd H2 T (.tup [.int i, .int a])) := same_new nT
      refine ⟨T, [.int i, .int a], rfl, SqT.of upd_same, rfl, .int i, [.int a], rfl, .int a, [], rfl, rfl, ?_⟩
      have sm3 : Same H (upd H2 T (.tup [.int i, .int a])) := sm1.trans (sm.trans s3)
      have ha : a ∈ gs.map (·.1) := hm a ((down_perm ns).mem_iff.mp (List.mem_of_getElem? ea))
      refine ⟨.int i, rfl, .ref d, rfl, .int a, rfl, d, _, rfl, dget_pof (sm3 _ _ hd) hn ha, _, _, rfl, rfl, _, rfl, ite2 (fun e => ?_) (fun e => ?_)⟩
      · have e := of_decide_eq_true e
        have hu : eldUp gs ns = some a := upIn_at ea (fun j b hj eb => by have := hb j b hj eb; omega) (by omega)
        have z := q _ sm3
        rw [hu] at z
        exact ⟨.int a, rfl, z⟩
      · have e : ¬ (pof gs a < (i : Int)) := fun z => e (decide_eq_true z)
        refine ⟨_, _, rfl, sm.trans s3, fun j b hj eb => ?_⟩
        by_cases h : j < i
        · exact hb j b h eb
        · have : j = i := by omega
          subst this
          obtain rfl : a = b := Option.some.inj (ea.symm.trans eb)
          omega
    · obtain ⟨y2, y3, rfl, sm, hb⟩ := hW
      have hu : eldUp gs ns = none := upIn_none fun i a e => by
        have := hb i a (by rw [List.length_map]; exact at_lt e) e
        omega
      have z := q _ (sm1.trans sm)
      rw [hu] at z
      exact z
end
end El
namespace El
open PySem PySem.Spec PyProof.Rows L2
theorem iteFx {c : Bool} {A B : Prop} (hc : c = false) (h : B) : if c = true then A else B := by
  rw [hc]
  exact iteF h
section
variable {P : Program} {w : World} {K : PySem.W.Frag} {mg : Str → Option Value} {base : Heap}
abbrev s_upset : Stmt := topS 22
abbrev N_upset : List Str := ["guests", "arrangement", "patience_of", "number", "room", "age"]
abbrev P_upset : List Str := ["guests", "arrangement"]
theorem sc_upset : FnScope N_upset P_upset (defScope s_upset) := ⟨rfl, rfl, rfl, by decide +kernel, rfl, by decide +kernel, by decide +kernel⟩
def sp_upset : Sp := fun vs H Q _ => ∃ (BB : Addr → Prop) (a o : Addr) (ts us : List Addr) (gs : List (Int × Int)) (rs : List (List Int)), vs = [.ref a, .ref o] ∧ GsAt H BB a ts gs ∧ Fit gs ∧ gs.length ≤ 1000 ∧ RdAt H o us rs ∧ rs.flatten.Perm (gs.map (·.1)) ∧
  (upsetOf gs rs 0 = none → ∀ H', Same H H' → Q .non H') ∧ (∀ i x, upsetOf gs rs 0 = some (i, x) → ∀ H' t, Same H H' → H t = none → H' t = some (.tup [.int (i : Nat), .int x]) → Q (.ref t) H')
theorem ok_upset (A : At K mg "upset" P_upset s_upset) (B : Bi mg) (D_patience_by_age : Df P w K mg base 1 "patience_by_age" P_patience_by_age s_patience_by_age sp_patience_by_age)
    (D_check_arrangement : Df P w K mg base 1 "check_arrangement" P_check_arrangement s_check_arrangement sp_check_arrangement) (D_eldest_upset : Df P w K mg base 1 "eldest_upset" P_eldest_upset s_eldest_upset sp_eldest_upset) : Df P w K mg base 2 "upset" P_upset s_upset sp_upset := by
  refine A.df fun f fd F => F.ok sc_upset (fun vs H Q E h => ?_) (fun cdv AA outer s H vs Q E hr h => ?_)
  · obtain ⟨_, _, _, _, _, _, _, rfl, _⟩ := h
    rfl
  · obtain ⟨BB, a, o, ts, us, gs, rs, rfl, hG, hF, hl, hR, hp, q1, q2⟩ := h
    have nd := sc_upset.nd
    refine ⟨_, (pss_cons (ps_set (i := 2) nd rfl (.inl rfl) (pe_df D_patience_by_age (hr.mono (by decide)) (by rfl) (pa_cons (pv 0) pa_nil)))
    (pss_cons (ps_expr (pe_df D_check_arrangement (hr.mono (by decide)) (by rfl) (pa_cons (pv 2) (pa_cons (pv 1) pa_nil))))
    (pss_cons (ps_for PassesOwn.never rfl (pi_enum (by rfl) B.enumerate (pa_cons (pv 1) pa_nil)) (pg_tup (by rfl) (pgs_cons (pg_name (i := 3) nd rfl (.inl rfl)) (pgs_cons (pg_name (i := 4) nd rfl (.inl rfl)) pgs_nil))) (pss_cons (ps_set (i := 5) nd rfl (.inl rfl) (pe_df D_eldest_upset (hr.mono (by decide)) (by rfl) (pa_cons (pv 2) (pa_cons (pv 4) pa_nil)))) (pss_one (ps_if (pt_cmpR op_notN (pv 5) pe_non (nomark _)) (pss_one (ps_ret (pe_tup (pa_cons (pv 3) (pa_cons (pv 5) pa_nil))))) pss_nil))))
    (pss_one (ps_ret pe_non))))), ?_⟩
    refine ⟨.ref a, rfl, BB, a, ts, gs, rfl, hG, hF, hl, fun H1 d s1 n1 e1 => ?_⟩
    refine ⟨.ref d, rfl, .ref o, rfl, d, o, us, rs, gs, rfl, e1, hR.same s1, hp, hF.nd, hl, fun H2 s2 => ?_⟩
    have s02 := s1.trans s2
    refine ⟨.ref o, rfl, o, us.map V.ref, rfl, (hR.same s02).seq, ?_⟩
    refine for_it (walk_enum (xs := us.map V.ref)) (fun i σ H3 => ∃ y3 y4 y5, σ = [some (.ref a), some (.ref o), some (.ref d), y3, y4, y5] ∧ Same H2 H3 ∧ ∀ (j : Nat) (s : List Int), j < i → rs[j]? = some s → eldUp gs s = none)
      ⟨none, none, none, rfl, Same.refl _, fun j s h => absurd h (Nat.not_lt_zero _)⟩ (fun i σ H3 _ hW => ?_) (fun i x σ H3 H4 hi hW hY => ?_) (fun σ H3 hW => ?_)
    · obtain ⟨_, _, _, _, sm, _⟩ := hW
      exact (hR.same (s02.trans sm)).seq
    · obtain ⟨y3, y4, y5, rfl, sm, hb⟩ := hW
      obtain ⟨T, x1, x2, rfl, nT, rfl, f1, f2⟩ := hY
      obtain rfl : V.int ↑i = x1 := Option.some.inj f1
      obtain ⟨t, r, rfl, _, er, et⟩ := (hR.same (s02.trans sm)).get f2
      have s3 : Same H3 (upd H3 T (.tup [.int i, .ref t])) := same_new nT
      refine ⟨T, [.int i, .ref t], rfl, SqT.of upd_same, rfl, .int i, [.ref t], rfl, .ref t, [], rfl, rfl, ?_⟩
      have sm3 : Same H (upd H3 T (.tup [.int i, .ref t])) := s02.trans (sm.trans s3)
      have hd3 := (sm.trans s3) _ _ (s2 _ _ e1)
      refine ⟨.ref d, rfl, .ref t, rfl, d, t, r, gs, rfl, hd3, s3 _ _ et, fun b hb => hp.mem_iff.mp (List.mem_flatten.mpr ⟨r, List.mem_of_getElem? er, hb⟩), hF.nd, ?_, fun H5 s5 => ?_⟩
      · have h1 := room_le_flat rs r (List.mem_of_getElem? er)
        have h2 := hp.length_eq
        rw [List.length_map] at h2
        omega
      · have sm5 : Same H H5 := sm3.trans s5
        cases hu : eldUp gs r with
        | none =>
          refine ⟨_, rfl, rfl, _, rfl, iteFx (by show (!decide (V.non = V.non)) = false; simp) ?_⟩
          refine ⟨_, _, _, rfl, sm.trans (s3.trans s5), fun j s hj es => ?_⟩
          by_cases h : j < i
          · exact hb j s h es
          · have : j = i := by omega
            subst this
            obtain rfl : r = s := Option.some.inj (er.symm.trans es)
            exact hu
        | some b =>
          refine ⟨_, rfl, rfl, _, rfl, iteTx (by show (!decide (V.int b = V.non)) = true; simp) ?_⟩
          refine ⟨.int i, rfl, .int b, rfl, (by show 2 ≤ sizeLine; decide), fun p np => ?_⟩
          have z := upsetOf_at (k := 0) er hb hu
          exact q2 i b z _ p (sm5.trans (same_new np)) (sm5.free np) upd_same
    · obtain ⟨y3, y4, y5, rfl, sm, hb⟩ := hW
      refine q1 (upsetOf_none fun s ms => ?_) _ (s02.trans sm)
      obtain ⟨j, ej⟩ := List.mem_iff_getElem?.mp ms
      refine hb j s ?_ ej
      rw [List.length_map, hR.len]
      exact at_lt ej
end
end El
namespace El
open PySem PySem.Spec PyProof.Rows L2 SX
/-- a part that is not only numbers -/
def sp_read_numbers_b (CT : Addr) : Sp := fun vs H _ E => ∃ (tx p : List Nat) (c : Nat), vs = [.str (S tx), .str (S p), .str (S [c])] ∧ c < 256 ∧ Low tx ∧ tx.length ≤ 4000 ∧ p.length ≤ 4000 ∧ (∀ ls : List Int, ls ≠ [] → (∀ i ∈ ls, Sm i) → p ≠ TL.joinL [c] (ls.map numI)) ∧
  ∀ H' d, Same H H' → H' d = some (.xd [(("what" : Str), .str (S tx))]) → E (.ref CT) (some d) H'
def sp_read_numbers_x (CT : Addr) : Sp := fun vs H Q E => sp_read_numbers vs H Q E0 ∨ sp_read_numbers_b CT vs H Q E
section
variable {P : Program} {w : World} {K : PySem.W.Frag} {mg : Str → Option Value} {base : Heap}
theorem okb_read_numbers {CT : Addr} (A : At K mg "read_numbers" P_read_numbers s_read_numbers) (B : Bi mg) (E_NoText : OwnW P w K mg base "NoText" CT) (D_is_number : Df P w K mg base 1 "is_number" P_is_number s_is_number sp_is_number) : DfX P w K mg base 3 "read_numbers" P_read_numbers s_read_numbers (sp_read_numbers_b CT) := by
  refine A.dfx fun f fd F => okN F sc_read_numbers (fun vs H Q E h => ?_) (fun cdv AA outer s H vs Q E hr h => ?_)
  · obtain ⟨_, _, _, rfl, _⟩ := h
    rfl
  · obtain ⟨tx, p, c, rfl, hc, hlow, htx, hp, hno, q⟩ := h
    have nd := sc_read_numbers.nd
    refine ⟨_, (pss_cons (ps_set (i := 3) nd rfl (.inl rfl) (pe_bm PySem.F.plainAttrs_str PySem.F.slot_str_split PySem.F.type_str_split mt_split (pv 1) (pa_cons (pv 2) pa_nil)))
    (pss_cons (ps_if (pt_not (pt_val (pe_callB (cr_all rfl) (by rfl) B.all (by decide +kernel) (pa_cons (pe_lc (own := [("word", 4)]) (tt := tYes) rfl nd (pi_list (pv 3)) (blkOk_by (N := N_read_numbers) (sc := defScope s_read_numbers) (by decide +kernel)) (fun _ _ _ _ _ => (pg_name (i := 4) nd rfl (.inl rfl))) (fun _ _ _ _ _ => pts_nil) (fun _ _ _ _ _ => (pe_df D_is_number (hr.mono (by decide)) (by rfl) (pa_cons (pv 4) pa_nil)))) pa_nil)))) (pss_one (ps_raiseW E_NoText (hr.mono (by decide)) rfl (L2N.takes_of rfl rfl rfl rfl) (pa_cons (pv 0) pa_nil) (by rfl))) pss_nil)
    (pss_one (ps_ret (pe_lc (own := [("word", 4)]) (tt := tYes) rfl nd (pi_list (pv 3)) (blkOk_by (N := N_read_numbers) (sc := defScope s_read_numbers) (by decide +kernel)) (fun _ _ _ _ _ => (pg_name (i := 4) nd rfl (.inl rfl))) (fun _ _ _ _ _ => pts_nil) (fun _ _ _ _ _ => (pe_callTy call_int_str (by rfl) B.int_ (by decide +kernel) (pa_cons (pv 4) pa_nil)))))))), ?_⟩
    refine ⟨.str (S p), rfl, rfl, .str (S [c]), rfl, S p, S [c], rfl, rfl, rfl, by rw [S_len]; exact ils (by omega), ?_⟩
    rw [split_S (by simp) (by simpa using hc)]
    have hjoin := join_spl c p []
    have hsmall := spl_small [c] p 0 []
    have hmany := spl_many [c] p 0 []
    have hne := spl_ne [c] p 0 []
    revert hjoin hsmall hmany hne
    generalize TL.spl [c] 0 [] p = ws
    intro hjoin hsmall hmany hne W nW
    have sW : Same H (upd H W (.lst ((ws.map S).map V.str))) := same_new nW
    have eW : (upd H W (.lst ((ws.map S).map V.str))) W = some (.lst ((ws.map S).map V.str)) := upd_same
    generalize upd H W (.lst ((ws.map S).map V.str)) = H1 at sW eW ⊢
    refine ⟨_, rfl, ?_⟩
    have gW : ∀ k x, ((ws.map S).map V.str)[k]? = some x → ∃ w, ws[k]? = some w ∧ x = V.str (S w) := fun k x h => by
      rw [List.getElem?_map, List.getElem?_map] at h
      cases e : ws[k]? with
      | none => rw [e] at h; cases h
      | some i => rw [e] at h; exact ⟨i, e, (Option.some.inj h).symm⟩
    have hlenW : ((ws.map S).map V.str).length = ws.length := by rw [List.length_map, List.length_map]
    refine ⟨W, rfl, ⟨_, SqL.of eW⟩, fun D nD => ?_⟩
    refine lc_it (walk_list (xs := (ws.map S).map V.str)) (fun k H2 => Same H1 H2 ∧ H2 D = some (.lst (((numB ws).take k).map V.bl))) ⟨same_new nD, upd_same⟩ (fun k H2 _ hW => SqL.of (hW.1 _ _ eW)) (fun k x H2 H3 hk hW hY => ?_) (fun H2 hW => ?_)
    · obtain ⟨sm, e⟩ := hW
      obtain ⟨rfl, hx⟩ := hY
      obtain ⟨v, ev, rfl⟩ := gW k x hx
      have hkl := at_lt ev
      have hv := hsmall v (List.mem_of_getElem? ev)
      rw [List.length_nil] at hv
      have eb : (numB ws)[k]? = some (@decide (NumW v) (Classical.propDecidable _)) := by
        unfold numB
        rw [List.getElem?_map, ev]
        rfl
      have step : ∀ b : Bool, (numB ws)[k]? = some b → Same H1 (upd H3 D (.lst (((numB ws).take k).map V.bl ++ [.bl b]))) ∧ upd H3 D (.lst (((numB ws).take k).map V.bl ++ [.bl b])) D = some (.lst (((numB ws).take (k + 1)).map V.bl)) := fun b e => ⟨Same.mut sm nD, by rw [upd_same, take_snoc e, List.map_append]; rfl⟩
      have few : (((numB ws).take k).map V.bl).length < sizeLine := ils (by rw [List.length_map, List.length_take]; omega)
      refine ⟨rfl, .str (S v), rfl, v, rfl, by omega, fun i hi ei => ?_, fun z => ?_⟩
      · rw [@decide_eq_true (NumW v) (Classical.propDecidable _) ⟨i, hi, ei⟩] at eb
        exact ⟨_, e, few, step true eb⟩
      · rw [@decide_eq_false (NumW v) (Classical.propDecidable _) fun ⟨i, hi, ei⟩ => z i hi ei] at eb
        exact ⟨_, e, few, step false eb⟩
    · obtain ⟨sm, e⟩ := hW
      have hl2 : (numB ws).length = ws.length := by
        unfold numB
        rw [List.length_map]
      rw [hlenW, ← hl2, List.take_length] at e
      refine ⟨_, _, rfl, SqL.of e, _, rfl, ?_⟩
      cases ha : (numB ws).all id with
      | true =>
        obtain ⟨ls, hs, els⟩ := nums_of (numB_all ha)
        refine absurd ?_ (hno ls (fun z => hne (by rw [els, z]; rfl)) hs)
        rw [← els, hjoin]
        rfl
      | false =>
        refine iteTx rfl ?_
        exact ⟨.str (S tx), rfl, .str (S tx), rfl, .inl (.inr ⟨S tx, rfl, repr_low hlow htx⟩), fun d' nd' => q _ d' ((sW.trans sm).trans (same_new nd')) upd_same⟩
theorem okx_read_numbers {CT : Addr} (A : At K mg "read_numbers" P_read_numbers s_read_numbers) (B : Bi mg) (E_NoText : OwnW P w K mg base "NoText" CT) (D_is_number : Df P w K mg base 1 "is_number" P_is_number s_is_number sp_is_number) : DfX P w K mg base 3 "read_numbers" P_read_numbers s_read_numbers (sp_read_numbers_x CT) :=
  Df.orx (ok_read_numbers A B D_is_number) (okb_read_numbers A B E_NoText D_is_number) (by decide)
end
end El
namespace El
open PySem PySem.Spec PyProof.Rows L2 SX
theorem joinL_many (c : Nat) : ∀ (ws : List (List Nat)), (∀ w ∈ ws, w ≠ []) → 2 * ws.length ≤ (TL.joinL [c] ws).length + 1
  | [], _ => Nat.zero_le _
  | [p], h => by
    have := List.length_pos_iff.mpr (h p List.mem_cons_self)
    show 2 * 1 ≤ p.length + 1
    omega
  | p :: q :: r, h => by
    have h1 := List.length_pos_iff.mpr (h p List.mem_cons_self)
    have h2 := joinL_many c (q :: r) fun w m => h w (List.mem_cons_of_mem _ m)
    show 2 * ((q :: r).length + 1) ≤ (p ++ ([c] ++ TL.joinL [c] (q :: r))).length + 1
    simp only [List.length_append, List.length_singleton]
    omega
theorem nums_many {c : Nat} {ls : List Int} {v : List Nat} (e : v = TL.joinL [c] (ls.map numI)) : 2 * ls.length ≤ v.length + 1 := by
  have := joinL_many c (ls.map numI) fun w m => by
    obtain ⟨i, _, rfl⟩ := List.mem_map.mp m
    exact numI_ne i
  rw [List.length_map, ← e] at this
  exact this
/-- a text of something else than twos -/
def sp_read_twos_b (CT : Addr) : Sp := fun vs H _ E => ∃ (l : List Nat) (c : Nat), vs = [.str (S l), .str (S [c])] ∧ Sign c ∧ Low l ∧ l.length ≤ 4000 ∧ (∀ gs, Sms gs → l ≠ textOf c gs) ∧ ∀ H' d, Same H H' → H' d = some (.xd [(("what" : Str), .str (S l))]) → E (.ref CT) (some d) H'
def sp_read_twos_x (CT : Addr) : Sp := fun vs H Q E => sp_read_twos vs H Q E0 ∨ sp_read_twos_b CT vs H Q E
section
variable {P : Program} {w : World} {K : PySem.W.Frag} {mg : Str → Option Value} {base : Heap}
theorem okb_read_twos {CT : Addr} (A : At K mg "read_twos" P_read_twos s_read_twos) (B : Bi mg) (E_NoText : OwnW P w K mg base "NoText" CT) (D_parts_of : Df P w K mg base 1 "parts_of" P_parts_of s_parts_of sp_parts_of)
    (XD_read_numbers : DfX P w K mg base 3 "read_numbers" P_read_numbers s_read_numbers (sp_read_numbers_x CT)) : DfX P w K mg base 4 "read_twos" P_read_twos s_read_twos (sp_read_twos_b CT) := by
  refine A.dfx fun f fd F => okN F sc_read_twos (fun vs H Q E h => ?_) (fun cdv AA outer s H vs Q E hr h => ?_)
  · obtain ⟨_, _, rfl, _⟩ := h
    rfl
  · obtain ⟨l, c, rfl, hc, hlow, hlen, hno, q⟩ := h
    have nd := sc_read_twos.nd
    refine ⟨_, (pss_cons (ps_set (i := 2) nd rfl (.inl rfl) (pe_lst pa_nil))
    (pss_cons (ps_for (passes_of rfl) rfl (pi_list (pe_df D_parts_of (hr.mono (by decide)) (by rfl) (pa_cons (pv 0) (pa_cons pe_str pa_nil)))) (pg_name (i := 3) nd rfl (.inl rfl)) (pss_cons (ps_set (i := 4) nd rfl (.inl rfl) (pe_dfS XD_read_numbers (L2N.takes_of rfl rfl rfl rfl) (hr.mono (by decide)) (by rfl) (pa_cons (pv 0) (pa_cons (pv 3) (pa_cons (pv 1) pa_nil))))) (pss_cons (ps_if (pt_cmpR op_ne (pe_callB call_len_seq (by rfl) B.len PySem.boot_len (pa_cons (pv 4) pa_nil)) pe_int (nomark _)) (pss_one (ps_raiseW E_NoText (hr.mono (by decide)) rfl (L2N.takes_of rfl rfl rfl rfl) (pa_cons (pv 0) pa_nil) (by rfl))) pss_nil) (pss_one (ps_expr (pe_bm PySem.F.plainAttrs_list PySem.F.slot_list_append PySem.F.type_list_append mt_append (pv 2) (pa_cons (pe_tup (pa_cons (pe_ix ix_list (pv 4) pe_int (fun _ _ => rfl)) (pa_cons (pe_ix ix_list (pv 4) pe_int (fun _ _ => rfl)) pa_nil))) pa_nil)))))))
    (pss_one (ps_ret (pv 2))))), ?_⟩
    have hnn : l ≠ noneL := hno [] fun g m => absurd m List.not_mem_nil
    refine ⟨by decide, fun T nT => ?_⟩
    have sT : Same H (upd H T (.lst [])) := same_new nT
    have eT : (upd H T (.lst [])) T = some (.lst []) := upd_same
    generalize upd H T (.lst []) = H1 at sT eT ⊢
    have hjoin := join_spl 32 l []
    have hsmall := spl_small [32] l 0 []
    have hmany := spl_many [32] l 0 []
    have hne := spl_ne [32] l 0 []
    refine ⟨.str (S l), rfl, l, [32], TL.spl [32] 0 [] l, by rw [← one_S.2.2.1]; rfl, by decide, by omega, .inr ⟨hnn, split_S (by simp) (by decide)⟩, fun W nW => ?_⟩
    revert nW hjoin hsmall hmany hne
    generalize TL.spl [32] 0 [] l = ws
    intro hjoin hsmall hmany hne nW
    have nT1 : H1 T ≠ none := by rw [eT]; simp
    have TW : T ≠ W := fun z => nT1 (by rw [z]; exact nW)
    have sW : Same H (upd H1 W (.lst ((ws.map S).map V.str))) := sT.trans (same_new nW)
    have eW : (upd H1 W (.lst ((ws.map S).map V.str))) W = some (.lst ((ws.map S).map V.str)) := upd_same
    have eT2 : (upd H1 W (.lst ((ws.map S).map V.str))) T = some (.lst []) := by rw [upd_ne TW]; exact eT
    generalize upd H1 W (.lst ((ws.map S).map V.str)) = H2 at sW eW eT2 ⊢
    have gW : ∀ k x, ((ws.map S).map V.str)[k]? = some x → ∃ w, ws[k]? = some w ∧ x = V.str (S w) := fun k x h => by
      rw [List.getElem?_map, List.getElem?_map] at h
      cases e : ws[k]? with
      | none => rw [e] at h; cases h
      | some i => rw [e] at h; exact ⟨i, e, (Option.some.inj h).symm⟩
    have hlenW : ((ws.map S).map V.str).length = ws.length := by rw [List.length_map, List.length_map]
    refine ⟨W, rfl, ⟨_, SqL.of eW⟩, ?_⟩
    refine for_it (walk_list (xs := (ws.map S).map V.str)) (fun k σ H3 => ∃ y3 y4 ts gs, σ = [some (.str (S l)), some (.str (S [c])), some (.ref T), y3, y4] ∧ Same H H3 ∧ H3 W = some (.lst ((ws.map S).map V.str)) ∧ GsAt H3 (fun a => H a = none) T ts gs ∧ T ∉ ts ∧ Sms gs ∧ ws.take k = gs.map (twoW c) ∧ gs.length ≤ k) ⟨none, none, [], [], rfl, sW, eW, ⟨eT2, nT, rfl, fun i t g e _ => by simp at e, fun t m => by simp at m⟩, by simp, fun g m => absurd m List.not_mem_nil, rfl, Nat.le_refl _⟩ (fun k σ H3 _ hW => ?_) (fun k x σ H3 H4 hk hW hY => ?_) (fun σ H3 hW => ?_)
    · obtain ⟨_, _, _, _, _, _, e, _⟩ := hW
      exact SqL.of e
    · obtain ⟨y3, y4, ts, gs, rfl, sm, e, hG, hni, hsg, htk, hgk⟩ := hW
      obtain ⟨rfl, hx⟩ := hY
      obtain ⟨v, ev, rfl⟩ := gW k x hx
      have hkl := at_lt ev
      have hv := hsmall v (List.mem_of_getElem? ev)
      rw [List.length_nil] at hv
      have fail : ∀ {H5 : Hp} (d' : Addr), Same H H5 → H5 d' = none → E (.ref CT) (some d') (upd H5 d' (.xd [(("what" : Str), .str (S l))])) := fun d' s5 nd' => q _ d' (s5.trans (same_new nd')) upd_same
      by_cases good : ∃ ls : List Int, ls ≠ [] ∧ (∀ i ∈ ls, Sm i) ∧ v = TL.joinL [c] (ls.map numI)
      · obtain ⟨ls, hls, hsm, rfl⟩ := good
        have hfew := nums_many (c := c) (ls := ls) rfl
        refine ⟨_, rfl, _, rfl, _, rfl, .inl ⟨_, c, ls, rfl, hc, hsm, hls, by omega, fun H5 u s5 nu eu => ?_⟩⟩
        have sm5 := sm.trans s5
        have hG5 := hG.same s5
        refine ⟨.ref u, rfl, u, ls.map V.int, rfl, .inl (SqL.of eu), rfl, _, rfl, ?_⟩
        by_cases two : ls.length = 2
        · obtain ⟨a, b, rfl⟩ : ∃ a b, ls = [a, b] := by
            match ls, two with
            | [a, b], _ => exact ⟨a, b, rfl⟩
          refine iteX rfl ?_
          refine ⟨.ref T, rfl, .inl ⟨rfl, _, hG5.seq⟩, .ref u, rfl, u, [.int a, .int b], 0, .int a, rfl, rfl, SqL.of eu, rfl, .ref u, rfl, u, [.int a, .int b], 1, .int b, rfl, rfl, SqL.of eu, rfl, (by show 2 ≤ sizeLine; decide), fun v nv => ?_⟩
          have nv0 : H v = none := by
            cases e2 : H v with
            | none => rfl
            | some o => exact absurd (sm5 _ _ e2) (by rw [nv]; simp)
          have hG6 := hG5.same (same_new (o := .tup [.int a, .int b]) nv)
          refine ⟨T, _, _, rfl, rfl, hG6.top, ils (by rw [List.length_map, hG.len]; omega), ?_⟩
          have hP := hG6.push hni (q := v) (g := (a, b)) upd_same nv0
          refine ⟨_, _, ts ++ [v], gs ++ [(a, b)], rfl, Same.mut (Same.mut sm5 nv0) nT, ?_, hP, ?_, ?_, ?_, ?_⟩
          · rw [upd_ne (Ne.symm TW), upd_ne (fun z => by
              have := s5 _ _ e
              rw [z, nv] at this
              cases this)]
            exact s5 _ _ e
          · intro m
            rcases List.mem_append.mp m with m | m
            · exact hni m
            · have z := List.mem_singleton.mp m
              have := hG5.top
              rw [z, nv] at this
              cases this
          · intro g m
            rcases List.mem_append.mp m with m | m
            · exact hsg g m
            · rw [List.mem_singleton.mp m]
              exact ⟨hsm a List.mem_cons_self, hsm b (List.mem_cons_of_mem _ List.mem_cons_self)⟩
          · rw [take_snoc ev, htk, List.map_append]
            rfl
          · rw [List.length_append, List.length_singleton]
            omega
        · refine iteTx ?_ ?_
          · show (!decide (V.int ((ls.map V.int).length : Nat) = V.int 2)) = true
            rw [List.length_map]
            simp
            omega
          · exact ⟨.str (S l), rfl, .str (S l), rfl, .inl (.inr ⟨S l, rfl, repr_low hlow hlen⟩), fun d' nd' => fail d' sm5 nd'⟩
      · refine ⟨_, rfl, _, rfl, _, rfl, .inr ⟨l, v, c, rfl, hc.1, hlow, hlen, by omega, fun ls h1 h2 h3 => good ⟨ls, h1, h2, h3⟩, fun H5 d s5 e5 => q _ d (sm.trans s5) e5⟩⟩
    · obtain ⟨y3, y4, ts, gs, rfl, sm, e, hG, hni, hsg, htk, hgk⟩ := hW
      rw [hlenW, List.take_length] at htk
      have hgn : gs ≠ [] := fun z => hne (by rw [htk, z]; rfl)
      refine absurd ?_ (hno gs hsg)
      unfold textOf
      rw [if_neg hgn, ← htk, hjoin]
      rfl
theorem okx_read_twos {CT : Addr} (A : At K mg "read_twos" P_read_twos s_read_twos) (B : Bi mg) (E_NoText : OwnW P w K mg base "NoText" CT) (D_parts_of : Df P w K mg base 1 "parts_of" P_parts_of s_parts_of sp_parts_of)
    (XD_read_numbers : DfX P w K mg base 3 "read_numbers" P_read_numbers s_read_numbers (sp_read_numbers_x CT)) (D_read_twos : Df P w K mg base 3 "read_twos" P_read_twos s_read_twos sp_read_twos) : DfX P w K mg base 4 "read_twos" P_read_twos s_read_twos (sp_read_twos_x CT) :=
  Df.orx D_read_twos (okb_read_twos A B E_NoText D_parts_of XD_read_numbers) (by decide)
end
end El
namespace El
open PySem PySem.Spec PyProof.Rows L2 SX
theorem ifY {c : Bool} {A B : Prop} (hc : c = true) (h : A) : if c = true then A else B := by rw [if_pos hc]; exact h
theorem ifN {c : Bool} {A B : Prop} (hc : c = false) (h : B) : if c = true then A else B := by rw [if_neg (by rw [hc]; exact Bool.false_ne_true)]; exact h
/-- a string and a number: the string so many times over -/
theorem op_mulS {X : Cx} : OpR X (binaryOp .Mult) (fun x y H Q => ∃ (i : Str) (n : Int), x = .str i ∧ y = .int n ∧ MulOk i n ∧ Q (.str (Txt.mul i n)) H) := by
  intro pins s σ H x y v u Q I rx ry h
  obtain ⟨i, n, rfl, rfl, hz, q⟩ := h
  obtain ⟨t, rfl⟩ := rx
  obtain ⟨t', rfl⟩ := ry
  exact PySem.SB.mul hz fun t' tk => ⟨.str (Txt.mul i n), H, I.tok _, ⟨_, rfl⟩, q⟩
/-- a text of low signs, at most so long -/
def Line (m : Nat) (v : V) : Prop := ∃ l, v = .str (S l) ∧ Low l ∧ l.length ≤ m
theorem Line.more {m n : Nat} {v : V} (h : Line m v) (k : m ≤ n) : Line n v := by
  obtain ⟨l, e, a, b⟩ := h
  exact ⟨l, e, a, by omega⟩
theorem low_of {l : List Nat} (h : l.all (fun x => decide (x < 128)) = true) : Low l := fun x mx => of_decide_eq_true (List.all_eq_true.mp h x mx)
theorem low_cat {a b : List Nat} (h : Low a) (k : Low b) : Low (a ++ b) := fun x m => (List.mem_append.mp m).elim (h x) (k x)
theorem low_take {a : List Nat} (h : Low a) (n : Nat) : Low (a.take n) := fun x m => h x (List.mem_of_mem_take m)
theorem low_drop {a : List Nat} (h : Low a) (n : Nat) : Low (a.drop n) := fun x m => h x (List.mem_of_mem_drop m)
/-- a text named in the program -/
theorem low_lit (t : String) {l : List Nat} (e : (Str.ofString t) = S l) (h : l.all (fun x => decide (x < 128)) = true) {m : Nat} (hl : l.length ≤ m) : Line m (.str (Str.ofString t)) := ⟨l, by rw [e], fun x mx => of_decide_eq_true (List.all_eq_true.mp h x mx), hl⟩
end El
namespace El
open PySem PySem.Spec PyProof.Rows L2 SX
/-! ### parts of a text: all low, and how long with what joins them -/
def Lows (ps : List (List Nat)) : Prop := ∀ p ∈ ps, Low p
def big (sep : List Nat) (ps : List (List Nat)) : Nat := (ps.map fun p => p.length + sep.length).sum
theorem big_nil (sep : List Nat) : big sep [] = 0 := rfl
theorem big_cons (sep p : List Nat) (ps : List (List Nat)) : big sep (p :: ps) = p.length + sep.length + big sep ps := by
  unfold big
  rw [List.map_cons, List.sum_cons]
theorem big_cat (sep : List Nat) (a b : List (List Nat)) : big sep (a ++ b) = big sep a + big sep b := by
  unfold big
  rw [List.map_append, List.sum_append_nat]
theorem big_cut (sep : List Nat) (a : List (List Nat)) (k : Nat) : big sep (a.take k) + big sep (a.drop k) = big sep a := by
  rw [← big_cat, List.take_append_drop]
theorem big_mem {sep : List Nat} {a : List (List Nat)} {p : List Nat} {i : Nat} (e : a[i]? = some p) : p.length ≤ big sep a := by
  have h1 := big_cut sep a i
  obtain ⟨hi, rfl⟩ := List.getElem?_eq_some_iff.mp e
  rw [List.drop_eq_getElem_cons hi, big_cons] at h1
  omega
theorem big_set {sep : List Nat} {a : List (List Nat)} {p : List Nat} {i : Nat} (hi : i < a.length) : big sep (a.set i p) ≤ big sep a + p.length := by
  have h1 := big_cut sep a i
  rw [List.drop_eq_getElem_cons hi, big_cons] at h1
  rw [List.set_eq_take_append_cons_drop, if_pos hi, big_cat, big_cons]
  omega
theorem big_spl (sep : List Nat) (hs : sep ≠ []) : ∀ (l : List Nat) (k : Nat) (acc : List Nat), k ≤ l.length → big sep (TL.spl sep k acc l) + k ≤ acc.length + l.length + sep.length
  | [], k, acc, hk => by
    rw [TL.spl_nil, big_cons, big_nil]
    have : k ≤ 0 := hk
    simp only [List.length_nil]
    omega
  | c :: r, 0, acc, _ => by
    have hs1 := List.length_pos_iff.mpr hs
    by_cases h : TL.pre sep (c :: r) = true
    · have hl : sep.length ≤ (c :: r).length := by
        unfold TL.pre at h
        have e := congrArg List.length (eq_of_beq h)
        rw [List.length_take] at e
        omega
      rw [TL.spl_hit h, big_cons]
      have := big_spl sep hs r (sep.length - 1) [] (by rw [List.length_cons] at hl; omega)
      simp only [List.length_nil, List.length_cons] at this ⊢
      omega
    · rw [TL.spl_miss (by simpa using h)]
      have := big_spl sep hs r 0 (acc ++ [c]) (Nat.zero_le _)
      simp only [List.length_append, List.length_cons, List.length_nil] at this ⊢
      omega
  | _ :: r, k + 1, acc, hk => by
    have := big_spl sep hs r k acc (by rw [List.length_cons] at hk; omega)
    show big sep (TL.spl sep k acc r) + (k + 1) ≤ _
    rw [List.length_cons]
    omega
theorem joinL_big (sep : List Nat) : ∀ ps : List (List Nat), (TL.joinL sep ps).length ≤ big sep ps
  | [] => Nat.le_refl _
  | [p] => by
    rw [big_cons]
    show p.length ≤ _
    omega
  | p :: q :: r => by
    have := joinL_big sep (q :: r)
    rw [big_cons]
    show (p ++ (sep ++ TL.joinL sep (q :: r))).length ≤ _
    simp only [List.length_append]
    omega
theorem joined_low {sep : List Nat} (hs : Low sep) : ∀ {ps : List (List Nat)}, Lows ps → Low (TL.joinL sep ps)
  | [], _ => fun x m => absurd m List.not_mem_nil
  | [p], h => h p List.mem_cons_self
  | p :: q :: r, h => low_cat (h p List.mem_cons_self) (low_cat hs (joined_low hs fun w m => h w (List.mem_cons_of_mem _ m)))
/-- a list of such texts, as it stands -/
def txs (ps : List (List Nat)) : List V := (ps.map S).map V.str
theorem txs_at {ps : List (List Nat)} {k : Nat} {p : List Nat} (e : ps[k]? = some p) : (txs ps)[k]? = some (V.str (S p)) := by
  unfold txs
  rw [List.getElem?_map, List.getElem?_map, e]
  rfl
theorem txs_len (ps : List (List Nat)) : (txs ps).length = ps.length := by
  unfold txs
  rw [List.length_map, List.length_map]
theorem txs_cat (a b : List (List Nat)) : txs a ++ txs b = txs (a ++ b) := by
  unfold txs
  rw [List.map_append, List.map_append]
theorem txs_take (a : List (List Nat)) (k : Nat) : (txs a).take k = txs (a.take k) := by
  unfold txs
  rw [List.map_take, List.map_take]
theorem txs_drop (a : List (List Nat)) (k : Nat) : (txs a).drop k = txs (a.drop k) := by
  unfold txs
  rw [List.map_drop, List.map_drop]
theorem txs_set (a : List (List Nat)) (k : Nat) (p : List Nat) : (txs a).set k (V.str (S p)) = txs (a.set k p) := by
  unfold txs
  rw [List.map_set, List.map_set]
theorem len_sum (ps : List (List Nat)) (sep : List Nat) : ((ps.map S).map (·.length)).sum + (ps.map S).length * (S sep).length = big sep ps := by
  induction ps with
  | nil => simp [big_nil]
  | cons p ps ih =>
    rw [big_cons, ← ih]
    simp only [List.map_cons, List.sum_cons, List.length_cons, S_len, Nat.add_mul, Nat.one_mul]
    omega
theorem Lows.cat {a b : List (List Nat)} (h : Lows a) (k : Lows b) : Lows (a ++ b) := fun x m => (List.mem_append.mp m).elim (h x) (k x)
theorem Lows.take {a : List (List Nat)} (h : Lows a) (n : Nat) : Lows (a.take n) := fun x m => h x (List.mem_of_mem_take m)
theorem Lows.drop {a : List (List Nat)} (h : Lows a) (n : Nat) : Lows (a.drop n) := fun x m => h x (List.mem_of_mem_drop m)
theorem Lows.set {a : List (List Nat)} {p : List Nat} (h : Lows a) (k : Low p) (i : Nat) : Lows (a.set i p) := fun x m => by
  rcases List.mem_or_eq_of_mem_set m with m | rfl
  · exact h x m
  · exact k
end El
namespace El
open PySem PySem.Spec PyProof.Rows L2 SX
/-- what a text is cut into at any sign or signs gives it back when joined -/
theorem join_any {sep : List Nat} (hs : sep ≠ []) : ∀ (n : Nat) (l acc : List Nat), l.length ≤ n → TL.joinL sep (TL.spl sep 0 acc l) = acc ++ l
  | _, [], acc, _ => by
    rw [TL.spl_nil, List.append_nil]
    rfl
  | 0, c :: r, acc, h => by cases h
  | n + 1, c :: r, acc, h => by
    have hr : r.length ≤ n := by
      rw [List.length_cons] at h
      omega
    have h1 := List.length_pos_iff.mpr hs
    by_cases hp : TL.pre sep (c :: r) = true
    · have e1 : (c :: r).take sep.length = sep := by
        unfold TL.pre at hp
        exact eq_of_beq hp
      have e2 : (c :: r).drop sep.length = r.drop (sep.length - 1) := by
        obtain ⟨k, hk⟩ : ∃ k, sep.length = k + 1 := ⟨sep.length - 1, by omega⟩
        rw [hk]
        rfl
      rw [TL.spl_hit hp, TL.spl_pass, join_cons (spl_ne _ _ _ _), join_any hs n (r.drop (sep.length - 1)) [] (by rw [List.length_drop]; omega), List.nil_append, ← e2]
      conv => rhs; rw [← List.take_append_drop sep.length (c :: r), e1]
    · rw [TL.spl_miss (by simpa using hp), join_any hs n r (acc ++ [c]) hr]
      simp
/-- a text of rooms: written, cut at its rooms, and each room at its ages -/
theorem join_all {sep l : List Nat} (hs : sep ≠ []) : TL.joinL sep (TL.spl sep 0 [] l) = l := join_any hs l.length l [] (Nat.le_refl _)
end El
namespace El
open PySem PySem.Spec PyProof.Rows L2
/-! ### name = [e for t in l if c] where e may raise, the exception leaving the block -/
/-- what is in the air when a call in the block Y lets an exception out -/
def xeB (Y : Cx) (E : XK) (u : Value) (s' : Shared) : Prop := ∃ (pins : List (Addr × Obj)) (σ : L2.St) (H : Hp) (s : Shared), Inv Y pins σ H s ∧ L2N.CX Y.prog Y.w Y.stack H s E u s'
abbrev blkE (X : Cx) (s : Shared) (H : Hp) (scope : Scope) (cenv : Env) (fp : List Addr) (E : XK) : Cx := { X.blk s H scope cenv fp with xe := xeB (X.blk s H scope cenv fp) E }
section
variable {X : Cx} {s s' : Shared} {H H' : Hp} {scope : Scope} {cenv : Env} {fp : List Addr} {E : XK} {pins : List (Addr × Obj)} {σ : L2.St}
theorem inv_toE (I : Inv (X.blk s H scope cenv fp) pins σ H' s') : Inv (blkE X s H scope cenv fp E) pins σ H' s' :=
  ⟨⟨I.ok.mod, I.ok.kind, I.ok.glob, I.ok.blt, I.ok.above, I.ok.inj, I.ok.has, I.ok.cab, I.ok.hd, I.ok.frames, I.ok.stk, I.ok.exf, I.ok.bs, I.ok.bsz, I.ok.noex, I.ok.exfs, I.ok.funs, I.ok.frf⟩, I.os, I.bare, I.base, I.loc, I.cell, I.free, I.freeC, I.pin, I.hok, I.len⟩
theorem inv_ofE (I : Inv (blkE X s H scope cenv fp E) pins σ H' s') : Inv (X.blk s H scope cenv fp) pins σ H' s' :=
  ⟨⟨I.ok.mod, I.ok.kind, I.ok.glob, I.ok.blt, I.ok.above, I.ok.inj, I.ok.has, I.ok.cab, I.ok.hd, I.ok.frames, I.ok.stk, I.ok.exf, I.ok.bs, I.ok.bsz, I.ok.noex, I.ok.exfs, I.ok.funs, I.ok.frf⟩, I.os, I.bare, I.base, I.loc, I.cell, I.free, I.freeC, I.pin, I.hok, I.len⟩
theorem passE (σ : L2.St) : PassesAt (L2N.CX X.prog X.w) (blkE X s H scope cenv fp E) σ E := fun pins H1 s1 _ _ I c => ⟨pins, σ, H1, s1, inv_ofE I, c⟩
end
theorem noteFrame_at {e : Value} {env env' : Env} (h : env.frame = env'.frame) : noteFrame e env = noteFrame e env' := by
  unfold noteFrame PySem.frameOf
  rw [h]
theorem frames_on {h h2 B B2 : Heap} : ∀ {l : List Env}, h.FunFrames B l → (∀ b, B.get? b = none → B2.get? b = none) → (∀ b ∈ frs l, h2.get? b = h.get? b) → h2.FunFrames B2 l
  | [], _, _, _ => trivial
  | env :: l, hl, n, k => by
    obtain ⟨hk, ⟨L, o, hf, hn, ho, hd⟩, hr⟩ := hl
    exact ⟨hk, ⟨L, o, hf, n L hn, (k L (List.mem_filterMap.mpr ⟨env, List.mem_cons_self, hf⟩)).trans ho, hd⟩, frames_on hr n fun b hb => by
      obtain ⟨e, he, q⟩ := List.mem_filterMap.mp hb
      exact k b (List.mem_filterMap.mpr ⟨e, List.mem_cons_of_mem _ he, q⟩)⟩
/-- out of the block: its names are let go, the exception goes on in the def's own frame -/
theorem comp_out {X : Cx} {pins : List (Addr × Obj)} {σ : L2.St} {HY : Hp} {sb s' : Shared} {E : XK} {W : WX} {C : Addr} {m : Str → Option Value} {cenv : Env} {u : Value} (hs : X.stack = X.env :: X.outer) (hf : X.env.frame = some X.env.locals) (tk : L2N.Takes X W)
    (hW : ∀ cls d H', E cls d H' → W cls d σ H') (I : Inv X pins σ HY sb) (f : FpOk X pins HY C) (ns : sb.heap.Ns C m) (hC : cenv.locals = C) (hF : cenv.frame = X.env.frame) (c : L2N.CX X.prog X.w X.stack HY sb E u s') :
    notedBy (model X.prog X.w) X.A cenv (fun e s2 => CompFails (model X.prog X.w) X.A X.xe cenv e s2) u s' := by
  obtain ⟨a, B, H', cls, d, rfl, fl, hok, ub, na, os, ag, hE⟩ := c
  obtain ⟨o, es, ep, ho, r⟩ := ns
  have cf : C ∉ frs X.stack := fun hm => (List.mem_cons.mp (I.stkSub C hm)).elim f.2.1 f.2.2.1
  have hB : B.get? C = some o := ub.keep C o ho f.1 cf
  have hfr : X.A.frames = some (X.env :: X.outer) := by rw [I.ok.frames, hs]
  have stk : ∀ b ∈ frs X.stack, ∀ o1, sb.heap.get? b = some o1 → ∀ vs, o1.data ≠ .fields vs := fun b hb o1 e => by
    obtain ⟨_, o', e', hd⟩ := I.stack.mem hb
    rw [e] at e'
    cases e'
    exact hd
  unfold notedBy
  rw [noteFrame_at hF]
  rw [hs] at fl
  refine PXN.looks_onZ L2N.Zn.steady hfr hf fl fun h1 held up1 => ?_
  refine ⟨m, by rw [hC]; exact ⟨o, es, ep, held.1 C o hB, r⟩, fun h2 m2 _ sb2 => ?_⟩
  rw [hC] at sb2
  have sb2 : ∀ b, b ≠ C → h2.get? b = h1.get? b := sb2.2
  obtain ⟨k1, k2, k3, oe, vs, T, oT, ts, he, hz, hd, h1', hnT, hTe, hT, hdT, h3⟩ := id held
  have aC : a ≠ C := fun z => by
    rw [z, hB] at k2
    cases k2
  have tC : T ≠ C := fun z => by
    rw [z, hB] at hnT
    cases hnT
  obtain ⟨B2, b1, b2⟩ := L2.restrict h2 fun b => (B.get? b).isSome
  obtain ⟨G, g1, g2⟩ := L2.restrict h2 fun b => (B.get? b).isSome || decide (b ∈ frs X.stack)
  have B2n : ∀ b, B.get? b = none → B2.get? b = none := fun b e => b2 b (by rw [e]; rfl)
  have inB2 : ∀ b o1, B2.get? b = some o1 → (B.get? b).isSome = true ∧ h2.get? b = some o1 := fun b o1 e => by
    cases q : (B.get? b).isSome with
    | false =>
      rw [b2 b q] at e
      cases e
    | true =>
      rw [b1 b q] at e
      exact ⟨rfl, e⟩
  have inG : ∀ b o1, G.get? b = some o1 → h2.get? b = some o1 ∧ ((B.get? b).isSome = true ∨ b ∈ frs X.stack) := fun b o1 e => by
    cases q : ((B.get? b).isSome || decide (b ∈ frs X.stack)) with
    | false =>
      rw [g2 b q] at e
      cases e
    | true =>
      rw [g1 b q] at e
      exact ⟨e, by simpa [Bool.or_eq_true] using q⟩
  have h2B : ∀ b o1, b ≠ C → B.get? b = some o1 → h2.get? b = some o1 := fun b o1 nb e => (sb2 b nb).trans (k1 b o1 e)
  have GB : ∀ b o1, b ≠ C → B.get? b = some o1 → G.get? b = some o1 := fun b o1 nb e => by
    rw [g1 b (by simp [e])]
    exact h2B b o1 nb e
  have GF : ∀ b, b ∈ frs X.stack → G.get? b = h1.get? b := fun b hb => by
    rw [g1 b (by simp [hb])]
    exact sb2 b fun z => cf (z ▸ hb)
  -- the state without the exception
  have J := I.call (ch := [C]) (h' := G) (g' := s'.gens) (t' := s'.toks) (d' := s'.drawn) (H' := H')
    ⟨fun b o1 e n hb hc => GB b o1 (fun z => hc (List.mem_singleton.mpr z)) (ub.keep b o1 e n hb), fun b o1 e n hb _ => by
      obtain ⟨sl, q⟩ := ub.slot b o1 e hb
      obtain ⟨sl2, q2⟩ := up1 b _ q (stk b hb o1 e)
      exact ⟨sl2, by rw [GF b hb]; exact q2⟩, fun b o1 e n _ => ub.free b o1 e n, fun b o1 e hc => by
      have nb : b ≠ C := fun z => hc (List.mem_singleton.mpr z)
      by_cases hb : b ∈ frs X.stack
      · obtain ⟨sl, q⟩ := ub.slot b o1 e hb
        obtain ⟨sl2, q2⟩ := up1 b _ q (stk b hb o1 e)
        exact ⟨_, by rw [GF b hb]; exact q2⟩
      · obtain ⟨o', q⟩ := ub.there b o1 e hb
        exact ⟨o', GB b o' nb q⟩, ub.tups, ub.frzs, ub.tbls⟩
    (fun b o1 q => (hok b o1 q).stay (fun x w hx e => GB x w (fun z => by
        have nC : H' C = none := ub.free C o ho f.1
        rcases hx with hx | hx
        · rw [← hx, z, nC] at q
          cases q
        · rw [z, nC] at hx
          cases hx) e) (fun _ z => z) fun _ _ z => z) ag fun b hb => by
      rw [List.mem_singleton.mp hb]
      exact ⟨f.2.2.2.1, f.2.1, f.2.2.2.2.1, f.2.2.2.2.2⟩
  have held2 : HandSPX.HeldZ B2 X.stack a (L2N.Zn cls d) X.env.locals h2 := by
    refine ⟨fun b o1 e => (inB2 b o1 e).2, B2n a k2, ?_, oe, vs, T, oT, ts, (sb2 a aC).trans he, hz, hd, h1', B2n T hnT, hTe, (sb2 T tC).trans hT, hdT, h3⟩
    rw [hs]
    exact frames_on k3 B2n fun b hb => sb2 b fun z => cf (by rw [hs, ← z]; exact hb)
  unfold PySem.passOn
  refine wpAny_bind (wpAny_field ((sb2 a aC).trans he) hd h1' ?_)
  rw [if_neg (show ¬ ((Value.ref T == Value.none) = true) from by simp)]
  have fin : wpAny (model X.prog X.w) X.A (setFlight (.ref a) cenv.frame) (fun _ s4 => wpAny (model X.prog X.w) X.A (throw (.ref a) : Sem Value) (fun _ _ => False) X.xe s4) X.xe { s' with heap := h2 } := by
    rw [hF, hf]
    refine HandSPX.setFlight_onZ held2 fun h4 hh4 up4 => wpAny_throw (tk _ _ ?_)
    refine ⟨a, B2, _, pins, σ, H', cls, d, rfl, J, fun b o1 e hb => ?_, (Heap.UpToSlots.of_keeps fun b o1 e => (inG b o1 e).1).trans up4, .inr (.inr hh4), na, os, ag, hW _ _ _ hE⟩
    obtain ⟨e2, h⟩ := inG b o1 e
    rcases h with h | h
    · rw [b1 b h]
      exact e2
    · exact absurd h hb
  first
    | exact wpAny_bind (wpAny_pure (wpAny_bind fin))
    | exact wpAny_bind fin
section
variable {Y : Cx} {it a D : Addr} {R : Result → Shared → Prop} {elt tg iter : Expr} {ifs : List Expr} {scope : Scope} {pos : Pos} {g : TG} {tt : TT} {te : TE} {vs : List Nat} {σ : L2.St} {W : Nat → Nat → Hp → Prop} {Qe : Hp → Prop} {E : XK}
theorem loop_cx (hd : Y.A.handled = none) (fy : ∀ H : Hp, H it = none → FpOk Y [] H it) (no : Y.xe = fun _ _ => False) (pg : PG Y tg g) (pt : PTs Y ifs tt) (pe : PE { Y with xe := xeB Y E } elt te) (toE : ∀ {pins σ1 H s}, Inv Y pins σ1 H s → Inv { Y with xe := xeB Y E } pins σ1 H s)
    (ofE : ∀ {pins σ1 H s}, Inv { Y with xe := xeB Y E } pins σ1 H s → Inv Y pins σ1 H s) (out : ∀ u s', xeB Y E u s' → notedBy (model Y.prog Y.w) Y.A Y.env (fun e s2 => R (.error e) s2) u s') (run : RunL Y.K a D g tt te vs σ W Qe)
    (fin : ∀ H s, Inv Y [] (wipe σ vs) H s → H it = none → Qe H → R (.ok .next) s) {m k : Nat} {H : Hp} {s : Shared} (I : Inv Y [] (wipe σ vs) H s) (st : s.heap.IsListIter it a k) (n : H it = none) (w : W k m H) :
    codeAny (model Y.prog Y.w) Y.A (.compLoop (.ListComp elt [⟨tg, iter, ifs, 0⟩] scope pos) 0 (.ref it) (.ref D) Y.env) R s := by
  have quiet : ∀ {α : Type} {t : Sem α} {P Q : α → Shared → Prop} {E : Value → Shared → Prop} {s : Shared}, wpAny (model Y.prog Y.w) Y.A t P Y.xe s → (∀ u s1, P u s1 → Q u s1) → wpAny (model Y.prog Y.w) Y.A t Q E s := fun h q => wpAny_mono h q fun e s1 z => by
    rw [no] at z
    exact z.elim
  refine compLoop_any (fun j s' => ∃ k H', Inv Y [] (wipe σ vs) H' s' ∧ s'.heap.IsListIter it a k ∧ H' it = none ∧ W k j H') (fun j s' ⟨k, H', J, stj, nj, wj⟩ => ?_) m ⟨k, H, I, st, n, w⟩
  rcases run k j H' wj with ⟨⟨xs, hq, hx⟩, qe⟩ | ⟨⟨xs, x, hq, hx⟩, Nx, next, step⟩
  · obtain ⟨its, rv, pl, _⟩ := J.list hq
    have over : its.toArray[k]? = none := by
      rw [List.getElem?_toArray]
      exact List.getElem?_eq_none (by rw [← rv.length]; exact hx)
    exact wpAny_pyNext_list_end hd stj pl.isList over fun h kp => fin H' _ (Inv.iterAt J (fy _ nj) fun b o nb e => kp b o nb e) nj qe
  · obtain ⟨its, rv, pl, _⟩ := J.list hq
    obtain ⟨u, eu, ru⟩ := rv.get hx
    refine wpAny_pyNext_list_item stj pl.isList (x := u) (by rw [List.getElem?_toArray]; exact eu) fun h sth sb => ?_
    have J1 := Inv.iterAt J (fy _ nj) fun b o nb e => (sb.2 b nb).trans e
    obtain ⟨oi, ei, ci, di⟩ := id sth
    refine go_of (s := { s' with heap := h }) ei ci di (by decide) ?_
    have nc : ∀ v, oi.data ≠ .cell v := fun v z => by
      rw [di] at z
      cases z
    have J2 : Inv Y [(it, oi)] (wipe σ vs) H' { s' with heap := h } := J1.pins_of fun p hp => by
      rw [List.mem_singleton.mp hp]
      exact ⟨ei, nj, (fy _ nj).2.1, (fy _ nj).2.2.1, nc⟩
    refine quiet (pg.run _ _ _ _ x u _ J2 ru (step x H' ⟨rfl, fun ys hy => by rw [J.list_inj hy hq]; exact hx⟩)) fun _ s2 ⟨σ2, H2, I2, eσ, q2⟩ => ?_
    refine quiet (pt.run _ _ _ _ _ I2 q2) fun b s3 ⟨H3, I3, q3⟩ => ?_
    have again : ∀ {s4 : Shared} {H4 : Hp}, Inv Y [(it, oi)] σ2 H4 s4 → Nx H4 → ∃ j', j' < j ∧ ∃ k H', Inv Y [] (wipe σ vs) H' s4 ∧ s4.heap.IsListIter it a k ∧ H' it = none ∧ W k j' H' := fun {s4 H4} I4 nx => by
      obtain ⟨j', lt, w'⟩ := next H4 nx
      obtain ⟨e4, n4, _⟩ := I4.pin (it, oi) (List.mem_append_right _ (List.mem_singleton.mpr rfl))
      have ln : (wipe σ vs).length = σ2.length := by rw [← eσ, wipe_length]
      have I5 : Inv Y [] σ2 H4 s4 := I4.pins_of fun p hp => absurd hp (by simp)
      exact ⟨j', lt, k + 1, H4, I5.weak ln (fun i v e => (wipe_some (eσ ▸ e)).1), ⟨oi, e4, ci, di⟩, n4, w'⟩
    cases b with
    | false => exact again I3 q3
    | true =>
      refine wpAny_mono (pe.run _ _ _ _ _ (toE I3) q3) (fun y s4 ⟨yv, H4, I4, r4, acc, eD, lt, nx⟩ => ?_) fun u s4 z => out u s4 z
      exact app_ok (ofE I4) eD lt r4 fun s5 I5 => again I5 nx
end
section
variable {X : Cx} {elt tg iter : Expr} {ifs : List Expr} {scope : Scope} {own : List (Str × Nat)} {pos spos py : Pos} {g : TG} {tt : TT} {te te0 : TE} {E : XK} {i : Nat} {y : Str}
theorem blk_runE {pins : List (Addr × Obj)} {σ : L2.St} {H3 : Hp} {s3 : Shared} {T : Ends} {it a D : Addr} {m : Nat} {W : Nat → Nat → Hp → Prop} (hc : X.calm = true) (hs : X.stack = X.env :: X.outer) (hf : X.env.frame = some X.env.locals) (tk : L2N.Takes X (fun cls d _ H => E cls d H)) (hN : X.N.Nodup) (hy : X.N[i]? = some y)
    (hyl : X.env.scope.names.lookup y = some .local) (ok : BlkOk X.N X.env.scope scope own) (hg : ∀ (s : Shared) (H : Hp) (C : Addr) (cl : List (Str × Addr)) (fp : List Addr), PG (X.blk s H scope (compEnvC scope cl C X.env) fp) tg g)
    (ht : ∀ (s : Shared) (H : Hp) (C : Addr) (cl : List (Str × Addr)) (fp : List Addr), PTs (X.blk s H scope (compEnvC scope cl C X.env) fp) ifs tt) (he : ∀ (s : Shared) (H : Hp) (C : Addr) (cl : List (Str × Addr)) (fp : List Addr), PE (blkE X s H scope (compEnvC scope cl C X.env) fp E) elt te)
    (I : Inv X pins σ H3 s3) (st : s3.heap.IsListIter it a 0) (f : FpOk X pins H3 it) (w0 : W 0 m H3) (run : RunL X.K a D g tt te (own.map (·.2)) σ W fun H => gName i (.ref D) σ H T.nx) :
    codeAny (model X.prog X.w) X.A (.compStart (.ListComp elt [⟨tg, iter, ifs, 0⟩] scope pos) 0 (.ref it) (.ref D) (compEnvC scope (cellsFrom (s3.heap.objs.size + 1) scope.names (cloFrom X.env.cells scope.names [])) s3.heap.objs.size X.env))
      (compEnds (model X.prog X.w) X.A X.xe (some (assign (.Name y py) X.env)) (fun _ s1 => SP X pins T .next s1) (.ref D) (compEnvC scope (cellsFrom (s3.heap.objs.size + 1) scope.names (cloFrom X.env.cells scope.names [])) s3.heap.objs.size X.env)) { s3 with heap := pushCells (s3.heap.push { cls := .type "dict", data := .dict #[] }) scope.names } := by
  obtain ⟨oi, ei, ci, di⟩ := id st
  have lit : it < s3.heap.objs.size := Heap.lt_size ei
  have I4 := block_start (fp := [it]) I ok hN fun b hb => by
    rw [List.mem_singleton.mp hb]
    exact ⟨f, lit⟩
  have st4 : (pushCells (s3.heap.push { cls := .type "dict", data := .dict #[] }) scope.names).IsListIter it a 0 := ⟨oi, pushCells_keeps _ _ _ _ (Heap.get?_push_of_some _ ei), ci, di⟩
  obtain ⟨ce, ece⟩ : ∃ ce, ce = compEnvC scope (cellsFrom (s3.heap.objs.size + 1) scope.names (cloFrom X.env.cells scope.names [])) s3.heap.objs.size X.env := ⟨_, rfl⟩
  have pg := hg s3 H3 s3.heap.objs.size (cellsFrom (s3.heap.objs.size + 1) scope.names (cloFrom X.env.cells scope.names [])) [it]
  have pt := ht s3 H3 s3.heap.objs.size (cellsFrom (s3.heap.objs.size + 1) scope.names (cloFrom X.env.cells scope.names [])) [it]
  have pe := he s3 H3 s3.heap.objs.size (cellsFrom (s3.heap.objs.size + 1) scope.names (cloFrom X.env.cells scope.names [])) [it]
  have cL : ce.locals = s3.heap.objs.size := by
    rw [ece]
    rfl
  have cF : ce.frame = X.env.frame := by
    rw [ece]
    rfl
  rw [← ece] at I4 pg pt pe ⊢
  clear ece
  have mit : it ∈ (X.blk s3 H3 scope ce [it]).ex := List.mem_singleton.mpr rfl
  have fy : ∀ H : Hp, H it = none → FpOk (X.blk s3 H3 scope ce [it]) [] H it := fun H n => ⟨n, (I4.ok.exf it mit).1, I4.ok.exfs it mit, .inl mit, fun x c e => (I4.ok.exf it mit).2 x c e, fun p hp => absurd (show p ∈ ([] : List (Addr × Obj)) ++ [] from hp) (by simp)⟩
  -- back where the def stands
  have back : ∀ {pins1 : List (Addr × Obj)} {σ1 : L2.St} {H : Hp} {s : Shared}, Inv (X.blk s3 H3 scope ce [it]) pins1 σ1 H s → Inv X pins σ H s ∧ FpOk X pins H s3.heap.objs.size ∧ ∃ mC, s.heap.Ns s3.heap.objs.size mC := fun {pins1 σ1 H s} J => by
    obtain ⟨mC, nsC, _⟩ := J.loc
    have nC : H ce.locals = none := J.free
    have nsC' : s.heap.Ns ce.locals mC := nsC
    rw [cL] at nC nsC'
    exact ⟨I.call' (ch := [it]) J.os J.base J.hok J.bare fun b hb => by
      rw [List.mem_singleton.mp hb]
      exact ⟨f.2.2.2.1, f.2.1, f.2.2.2.2.1, f.2.2.2.2.2⟩, I.fpOk (Nat.le_refl _) nC, mC, nsC'⟩
  have loop : codeAny (model X.prog X.w) X.A (.compLoop (.ListComp elt [⟨tg, iter, ifs, 0⟩] scope pos) 0 (.ref it) (.ref D) ce) (compEnds (model X.prog X.w) X.A X.xe (some (assign (.Name y py) X.env)) (fun _ s1 => SP X pins T .next s1) (.ref D) ce) { s3 with heap := pushCells (s3.heap.push { cls := .type "dict", data := .dict #[] }) scope.names } := by
    refine loop_cx (Y := X.blk s3 H3 scope ce [it]) (E := E) (I.ok.hd hc) fy rfl pg pt pe inv_toE inv_ofE (fun u s' ⟨pins1, σ1, H', s1, J, c⟩ => ?_) run (fun H s J nit qe => ?_) I4 st4 f.1 w0
    · obtain ⟨b1, b2, mC, b3⟩ := back J
      exact comp_out hs hf tk (fun _ _ _ h => h) b1 b2 b3 cL cF c
    · obtain ⟨b1, b2, mC, b3⟩ := back J
      show wpAny _ _ (assign (.Name y py) X.env (.ref D)) _ _ _
      refine wpAny_assign_Name (store_ok2 (v := V.ref D) b1 hN hy (.inl hyl) rfl (fun s2 K2 ⟨c, sb, hc2⟩ => ?_) (.inr hyl))
      have ca : s3.heap.objs.size ≠ c := by
        rcases hc2 with z | z
        · rw [z]
          exact b2.2.1
        · exact (b2.2.2.2.2.1 _ _ z).symm
      obtain ⟨o, es, ep, ho, r⟩ := b3
      refine ⟨mC, by rw [cL]; exact ⟨o, es, ep, (sb.2 _ ca).trans ho, r⟩, fun h' sb' => ?_⟩
      rw [cL] at sb'
      exact ⟨_, _, K2.turned (t' := s2.toks) (fun b o nb e => (sb'.2 b nb).trans e) b2.1 b2.2.1 b2.2.2.2.1 b2.2.2.2.2.1 b2.2.2.2.2.2, qe⟩
  exact codeAny_compStart_list loop (wpAny_pyIter_listiter st4 loop)
theorem ps_setLcE (hc : X.calm = true) (hs : X.stack = X.env :: X.outer) (hf : X.env.frame = some X.env.locals) (tk : L2N.Takes X (fun cls d _ H => E cls d H)) (hN : X.N.Nodup) (hy : X.N[i]? = some y) (hyl : X.env.scope.names.lookup y = some .local)
    (hsw : swapsWith (.ListComp elt [⟨tg, iter, ifs, 0⟩] scope pos) (some (.Name y py)) spos.line X.env = pure true) (hi : PE X iter te0) (ok : BlkOk X.N X.env.scope scope own)
    (hg : ∀ (s : Shared) (H : Hp) (C : Addr) (cl : List (Str × Addr)) (fp : List Addr), PG (X.blk s H scope (compEnvC scope cl C X.env) fp) tg g)
    (ht : ∀ (s : Shared) (H : Hp) (C : Addr) (cl : List (Str × Addr)) (fp : List Addr), PTs (X.blk s H scope (compEnvC scope cl C X.env) fp) ifs tt)
    (he : ∀ (s : Shared) (H : Hp) (C : Addr) (cl : List (Str × Addr)) (fp : List Addr), PE (blkE X s H scope (compEnvC scope cl C X.env) fp E) elt te)
    (hst : ∀ x, foldedSetIterable iter X.env x = pure x := by intro _; rfl) : PS X (.Assign [.Name y py] (.ListComp elt [⟨tg, iter, ifs, 0⟩] scope pos) spos) (tAsg (tLc (iList X.K te0) g tt te (own.map (·.2))) (gName i)) := by
  refine ⟨fun pins s σ H T I h => ?_⟩
  rw [exec_Assign_Name_used _ _ _ _ hsw]
  refine wpAny_bind (wpAny_standAt (wpAny_bind ?_))
  show wpAny _ X.A (do let _ ← comprehension (.ListComp elt [⟨tg, iter, ifs, 0⟩] scope pos) scope X.env (firstIterPos [⟨tg, iter, ifs, 0⟩] pos) (newList []) false (eval iter X.env) (some (assign (.Name y py) X.env))) _ _ s
  have open_ : ∀ z ∈ scope.names, z.2 = .free → ∃ c, X.env.cells.lookup z.1 = some c := fun z hz e => (ok.free z hz e).elim (fun q => I.ok.has _ (.inl q)) fun q => I.ok.has _ (.inr q)
  refine wpAny_bind (wpAny_mono (Q := fun _ s1 => SP X pins T .next s1) ?_ (fun _ s1 q => wpAny_pure (wpAny_pure q)) fun _ _ z => z)
  refine comprehension_at (use := some (assign (.Name y py) X.env)) rfl hst (closure_ok open_) ok.kind (fun z hz e => (ok.uniq z hz).trans (by rw [e])) (wpAny_mono (hi.run pins s σ H _ I h) (fun v s1 told => ?_) fun _ _ z => z)
  obtain ⟨x, H1, I1, rx, a, rfl, ⟨xs, hq⟩, q⟩ := told
  obtain rfl : v = Value.ref a := rx
  obtain ⟨its, rv, pl, _⟩ := I1.list hq
  refine wpAny_pyIter_list pl.isList (wpAny_newObj_type (newEnv_comp ?_) (by show 0 ≤ sizeLine; decide))
  generalize eit : s1.heap.objs.size = it
  generalize eh2 : s1.heap.push { cls := .type "list_iterator", data := .fields #[.ref a, .int 0 0] } = h2
  have up2 : ∀ b o, s1.heap.get? b = some o → h2.get? b = some o := fun b o e => by
    rw [← eh2]
    exact Heap.get?_push_of_some _ e
  have st2 : h2.IsListIter it a 0 := by
    rw [← eh2, ← eit]
    exact ⟨_, Heap.get?_push_size _ rfl, rfl, rfl⟩
  have I2 : Inv X pins σ H1 { s1 with heap := h2 } := I1.kept (t' := s1.toks) up2
  have f2 : FpOk X pins H1 it := by
    rw [← eit]
    exact I1.fpOk (Nat.le_refl _) (I1.hok.fresh (Nat.le_refl _))
  have nD : H1 h2.objs.size = none := I2.hok.fresh (Nat.le_refl _)
  obtain ⟨W, ⟨m, w0⟩, run⟩ := q h2.objs.size nD
  have I3 : Inv X pins σ (upd H1 h2.objs.size (.lst [])) { s1 with heap := h2.push { cls := .type "list", data := .seq ([] : List Value).toArray } } :=
    I2.laid (t' := s1.toks) (fun b o e => Heap.get?_push_of_some _ e) (Nat.le_refl _) ⟨Nat.zero_le _, [], 0, .nil, Heap.get?_push_size _ rfl⟩
  have lit : it < h2.objs.size := let ⟨_, e, _⟩ := st2; Heap.lt_size e
  have st3 : ({ s1 with heap := h2.push { cls := .type "list", data := .seq ([] : List Value).toArray } } : Shared).heap.IsListIter it a 0 := let ⟨o, e, r⟩ := st2; ⟨o, Heap.get?_push_of_some _ e, r⟩
  have f3 : FpOk X pins (upd H1 h2.objs.size (.lst [])) it := ⟨by rw [upd_ne (Nat.ne_of_lt lit)]; exact f2.1, f2.2⟩
  revert w0 I3 st3 f3 run
  generalize h2.objs.size = D
  generalize upd H1 D (.lst []) = H3
  generalize e3 : ({ s1 with heap := h2.push { cls := .type "list", data := .seq ([] : List Value).toArray } } : Shared) = s3
  intro run w0 I3 st3 f3
  exact blk_runE hc hs hf tk hN hy hyl ok hg ht he I3 st3 f3 w0 run
end
end El
namespace El
open PySem PySem.Spec PyProof.Rows L2 SX
/-! ### f(..) in such a block -/
section
variable {X : Cx} {k : Nat} {x : Str} {ps : List Str} {st : Stmt} {sp : Sp} {p pos : Pos} {e : Expr} {es : List Expr} {t : TA} {E : XK}
theorem pe_dfB (D : DfX X.prog X.w X.K X.mg X.base k x ps st sp) (hx : ∀ σ, PassesAt (L2N.CX X.prog X.w) X σ E) (hr : Room k X.A) (hg : Gl X x) (ha : PA X (e :: es) t) (hdb : (x == ("__debug__" : Str)) = false := by decide)
    (he : starEach (e :: es) X.env = (false, eval e X.env) :: starEach es X.env := by rfl) (hpl : (backTo pos (starEach es X.env)).any (·.1) = false := by rfl) : PE X (.Call (.Name x p) (e :: es) [] pos) (tCallS sp (fun _ => E) t) := by
  obtain ⟨f, fd, F, m, G, b⟩ := D.ex
  exact pe_callS G hr hg m F.kp b hx ha hdb he hpl
/-- how many a set holds: as many as any list of its own without repeats -/
theorem call_lenSS : CallR X (.builtin "len") (fun xs H Q => ∃ (a : Addr) (S : Int → Bool) (n : Nat), xs = [V.ref a] ∧ H a = some (SetO X.w a S n) ∧ n ≤ 100000 ∧ ((∃ ks : List Int, ks.Nodup ∧ (∀ k, k ∈ ks ↔ S k = true) ∧ ks.length = n) → Q (.int n) H)) := by
  intro pins s σ H xs us Q I r h
  obtain ⟨a, S, n, rfl, ha, hn, q⟩ := h
  obtain ⟨o, es, ep, t, at_a, ex, data, good, nd, mem, few, fits, size, ris, led⟩ := setO_get I ha
  refine call_lenSI pins s σ H _ us Q I r ⟨a, S, n, rfl, ha, hn, q ⟨es.toList.map keyOf, nd, fun k => (mem k).symm, ?_⟩⟩
  rw [List.length_map, Array.length_toList]
  exact size
end
theorem twice : ∀ {ns : List Int}, ¬ ns.Nodup → ∃ ms : List Int, ms.length + 1 = ns.length ∧ ∀ x ∈ ns, x ∈ ms
  | [], h => absurd List.nodup_nil h
  | x :: r, h => by
    by_cases m : x ∈ r
    · exact ⟨r, rfl, fun y my => (List.mem_cons.mp my).elim (fun e => e ▸ m) id⟩
    · obtain ⟨ms, hl, hm⟩ := twice (ns := r) fun nd => h (List.nodup_cons.mpr ⟨m, nd⟩)
      refine ⟨x :: ms, by rw [List.length_cons, List.length_cons, hl], fun y my => ?_⟩
      rcases List.mem_cons.mp my with rfl | my
      · exact List.mem_cons_self
      · exact List.mem_cons_of_mem _ (hm y my)
theorem set_few {ns ks : List Int} (nd : ks.Nodup) (h : ∀ k, k ∈ ks ↔ decide (k ∈ ns) = true) : (ns.Nodup → ks.length = ns.length) ∧ (¬ ns.Nodup → ks.length < ns.length) := by
  have h' : ∀ k, k ∈ ks ↔ k ∈ ns := fun k => (h k).trans decide_eq_true_iff
  have le : ks.length ≤ ns.length := List.Nodup.length_le_of_subset nd fun x m => (h' x).mp m
  refine ⟨fun n2 => Nat.le_antisymm le (List.Nodup.length_le_of_subset n2 fun x m => (h' x).mpr m), fun n2 => ?_⟩
  obtain ⟨ms, hl, hm⟩ := twice n2
  have : ks.length ≤ ms.length := List.Nodup.length_le_of_subset nd fun x m => hm x ((h' x).mp m)
  omega
/-! ### rooms, of any text -/
/-- rooms as they are written: none empty, in each the elder first, no age twice -/
structure Rms (rs : List (List Int)) : Prop where
  ne : ∀ r ∈ rs, r ≠ []
  sm : ∀ r ∈ rs, ∀ i ∈ r, Sm i
  fl : ∀ r ∈ rs, r.Pairwise (· > ·)
  nd : rs.flatten.Nodup
theorem Rms.nil : Rms [] := ⟨fun _ m => absurd m List.not_mem_nil, fun _ m => absurd m List.not_mem_nil, fun _ m => absurd m List.not_mem_nil, List.nodup_nil⟩
theorem spl_rooms {rs : List (List Int)} (h : rs ≠ []) : TL.spl barL 0 [] (roomsT rs) = rs.map roomW := by
  have e : roomsT rs = TL.joinL barL (rs.map roomW) := by
    unfold roomsT
    rw [if_neg h]
  rw [e]
  exact spl_join (by simpa using h) fun w m => by
    obtain ⟨r, _, rfl⟩ := List.mem_map.mp m
    exact roomW_free r
theorem spl_room {r : List Int} (h : r ≠ []) : TL.spl [44] 0 [] (roomW r) = r.map numI :=
  spl_join (by simpa using h) fun w m => by
    obtain ⟨i, _, rfl⟩ := List.mem_map.mp m
    exact numI_free i (by decide) (.inl (by decide))
theorem nums_inj : ∀ {a b : List Int}, a.map numI = b.map numI → a = b
  | [], [], _ => rfl
  | [], _ :: _, h => by cases h
  | _ :: _, [], h => by cases h
  | x :: a, y :: b, h => by
    rw [List.map_cons, List.map_cons] at h
    injection h with h1 h2
    rw [numI_inj h1, nums_inj h2]
theorem room_inj {a b : List Int} (ha : a ≠ []) (hb : b ≠ []) (h : roomW a = roomW b) : a = b := by
  have e := spl_room ha
  rw [h, spl_room hb] at e
  exact (nums_inj e).symm
/-- the first of them are the same rooms, whatever rooms a text is of -/
theorem first_rooms : ∀ {rs ks : List (List Int)} {n : Nat}, (∀ r ∈ rs, r ≠ []) → (∀ r ∈ ks, r ≠ []) → (ks.map roomW).take n = rs.map roomW → ks.take n = rs
  | [], ks, n, _, _, e => by
    have h := congrArg List.length e
    rw [List.length_take, List.length_map, List.length_map] at h
    exact List.eq_nil_of_length_eq_zero (by rw [List.length_take]; exact h)
  | r :: rs, [], n, _, _, e => by simp at e
  | r :: rs, k :: ks, 0, _, _, e => by simp at e
  | r :: rs, k :: ks, n + 1, h1, h2, e => by
    rw [List.map_cons, List.map_cons, List.take_succ_cons] at e
    injection e with e1 e2
    rw [List.take_succ_cons, room_inj (h2 k List.mem_cons_self) (h1 r List.mem_cons_self) e1, first_rooms (fun q m => h1 q (List.mem_cons_of_mem _ m)) (fun q m => h2 q (List.mem_cons_of_mem _ m)) e2]
theorem big_joined (sep : List Nat) : ∀ {ps : List (List Nat)}, ps ≠ [] → big sep ps = (TL.joinL sep ps).length + sep.length
  | [], h => absurd rfl h
  | [p], _ => by
    rw [big_cons, big_nil]
    rfl
  | p :: q :: r, _ => by
    rw [big_cons, big_joined sep (ps := q :: r) (by simp)]
    show _ = (p ++ (sep ++ TL.joinL sep (q :: r))).length + sep.length
    simp only [List.length_append]
    omega
theorem big_nums : ∀ r : List Int, 2 * r.length ≤ big [44] (r.map numI)
  | [] => Nat.le_refl _
  | i :: r => by
    have h1 := List.length_pos_iff.mpr (numI_ne i)
    have h2 := big_nums r
    rw [List.map_cons, big_cons, List.length_cons, List.length_singleton]
    omega
theorem room_two {r : List Int} (h : r ≠ []) : 2 * r.length ≤ (roomW r).length + 1 := by
  have h1 := big_nums r
  rw [big_joined [44] (by simpa using h)] at h1
  exact h1
theorem big_rooms : ∀ {rs : List (List Int)}, (∀ r ∈ rs, r ≠ []) → 2 * rs.flatten.length ≤ big barL (rs.map roomW)
  | [], _ => Nat.le_refl _
  | r :: rs, h => by
    have h1 := room_two (h r List.mem_cons_self)
    have h2 := big_rooms fun q m => h q (List.mem_cons_of_mem _ m)
    rw [List.map_cons, big_cons, List.flatten_cons, List.length_append]
    have h3 : barL.length = 3 := rfl
    omega
/-- a text holds two signs for each age, or nearly so -/
theorem rooms_two {rs : List (List Int)} (h : ∀ r ∈ rs, r ≠ []) : 2 * rs.flatten.length ≤ (TL.joinL barL (rs.map roomW)).length + 3 := by
  by_cases hn : rs = []
  · subst hn
    exact Nat.zero_le _
  · have := big_rooms h
    rw [big_joined barL (by simpa using hn)] at this
    exact this
theorem rooms_half {rs : List (List Int)} (h : ∀ r ∈ rs, r ≠ []) : 2 * rs.flatten.length ≤ (roomsT rs).length + 3 := by
  unfold roomsT
  split
  · rename_i e
    rw [e]
    exact Nat.zero_le _
  · exact rooms_two h
/-- the rooms that the words are -/
theorem rooms_of : ∀ {ws : List (List Nat)}, (∀ w ∈ ws, ∃ r : List Int, r ≠ [] ∧ (∀ i ∈ r, Sm i) ∧ w = roomW r) → ∃ rs : List (List Int), (∀ r ∈ rs, r ≠ []) ∧ (∀ r ∈ rs, ∀ i ∈ r, Sm i) ∧ ws = rs.map roomW
  | [], _ => ⟨[], fun _ m => absurd m List.not_mem_nil, fun _ m => absurd m List.not_mem_nil, rfl⟩
  | w :: ws, h => by
    obtain ⟨r, h1, h2, rfl⟩ := h w List.mem_cons_self
    obtain ⟨rs, h3, h4, rfl⟩ := rooms_of fun v m => h v (List.mem_cons_of_mem _ m)
    refine ⟨r :: rs, fun q m => ?_, fun q m => ?_, rfl⟩
    · rcases List.mem_cons.mp m with rfl | m
      · exact h1
      · exact h3 q m
    · rcases List.mem_cons.mp m with rfl | m
      · exact h2
      · exact h4 q m
/-- what a text of rooms is cut into -/
theorem rooms_cut {l : List Nat} {rs : List (List Int)} (hn : l ≠ noneL) (e : l = roomsT rs) : rs ≠ [] ∧ TL.spl barL 0 [] l = rs.map roomW := by
  have h : rs ≠ [] := fun z => hn (by rw [e, z]; rfl)
  exact ⟨h, by rw [e]; exact spl_rooms h⟩
end El
namespace El
open PySem PySem.Spec PyProof.Rows L2
/-! set(xs) and sorted(set(..)) of ints, as many as a set may have -/
section
variable {P : Program} {w : World} {A : Around} {E : Value → Shared → Prop} {s : Shared}
theorem ints_get : ∀ {us : List Value} {ns : List Int} {i : Nat} {v : Value}, IntsAre us ns → us[i]? = some v → ∃ k t, ns[i]? = some k ∧ v = .int k t
  | _, _, 0, _, .cons n t _, e => ⟨n, t, rfl, (Option.some.inj e).symm⟩
  | _, _, i + 1, _, .cons _ _ r, e => ints_get (i := i) r e
theorem set_of_list (calm : A.handled = none) {l : Addr} {us : List Value} {ns : List Int} {Q : Value → Shared → Prop} (hl : s.heap.IsList l us.toArray) (hi : IntsAre us ns) (few : ns.length + 1 < scanBound)
    (fin : ∀ (s' : Shared) (S : Addr) (c : Nat), (∀ b o, s.heap.get? b = some o → s'.heap.get? b = some o) → s'.gens = s.gens → s'.drawn = s.drawn → s'.os = s.os → s.heap.objs.size ≤ S → c ≤ ns.length →
      SetR w s'.heap S (fun j => decide (j ∈ ns)) c → Q (.ref S) s') : wpAny (model P w) A (call (.type "set") [.ref l]) Q E s := by
  have T := PySem.F.called_set
  have ⟨_, _, order⟩ := T.mro
  have by_new := T.made
  have is_set := T.sub
  have no_type := T.notType
  have makes := T.canCreate
  have fits := PySem.F.typeCall_set_1 (.ref l)
  refine wpAny_call (codeAny_of_tree (wpAny_pure ⟨Code.quiet_builtin _ (by decide +kernel), codeAny_builtin PySem.F.entry_type_call ?_⟩))
  rw [Around.under_plain (weight_type_call_type "set" [.ref l] []) rfl]
  repeat (any_goals (first | assumption | wp_step))
  generalize hS : s.heap.objs.size = S at fin
  generalize hg : s.heap.push { cls := .type "set", dict := none, data := .set #[] 0 (.fresh 0 0 (!w.params.followText "set-order")) } = g
  have at_S : g.get? S = some { cls := .type "set", dict := none, data := .set #[] 0 (.fresh 0 0 (!w.params.followText "set-order")) } := by rw [← hg, ← hS]; exact Heap.get?_push_size _ rfl
  have stays : ∀ b o, s.heap.get? b = some o → g.get? b = some o := fun b o e => hg ▸ Heap.get?_push_of_some _ e
  have ty : Shared.TypeIs { s with heap := g } (.ref S) "set" := ⟨_, at_S, rfl⟩
  refine codeAny_mono (code_set_led1 (.ref l) (E := E) (Q₁ := fun o s1 => o = .ref S ∧ s1 = { s with heap := g }) (by rw [hS, hg]; exact ⟨rfl, rfl⟩)) fun r s1 got => ?_
  rcases r with e | fl
  · exact got
  · obtain ⟨v, rfl⟩ : ∃ v, fl = .ret v := by
      cases fl with
      | ret v => exact ⟨v, rfl⟩
      | _ => exact got.elim
    obtain ⟨rfl, rfl⟩ : v = .ref S ∧ s1 = { s with heap := g } := got
    refine wpAny_bind (wpAny_isInstance ty is_set ?_)
    refine wpAny_ite_split (fun no => nomatch no) fun _ => ?_
    refine wpAny_bind (wpAny_holding (wpAny_callSpecial?_slot ty T.init (wpAny_call (codeAny_call_builtin T.init.plain PySem.F.entry_set_init ?_))))
    refine check_set_init_1 ty ?_
    have lt : ({ s with heap := g } : Shared).TypeIs (.ref l) "list" := ⟨_, stays _ _ hl.choose_spec.1, hl.choose_spec.2.1⟩
    have not_set : isSubtype (.type "list") (.type "set") = pure false := by rw [isSubtype_type]; kernel_rfl
    have not_frozen : isSubtype (.type "list") (.type "frozenset") = pure false := by rw [isSubtype_type]; kernel_rfl
    unfold Builtin.«set.__init__»
    have there : g.IsList l us.toArray := let ⟨o, a, r⟩ := hl; ⟨o, stays _ _ a, r⟩
    repeat (any_goals (first | assumption | (with_reducible refine wpAny_pyIter_list there ?_) | ((fail_if_success with_reducible refine wpAny_runValue ?_); wp_step)))
    have far : l < g.objs.size := let ⟨_, a, _⟩ := there; Heap.lt_size a
    have farS : S < g.objs.size := Heap.lt_size at_S
    have lS : l ≠ S := let ⟨_, a, _⟩ := hl; Nat.ne_of_lt (hS ▸ Heap.lt_size a)
    have walk := (Walks.list (prog := P) (w := w) (A := A.in1.in1.in1) calm g.objs.size l (Nat.ne_of_lt far) us.toArray).toS
    refine wpAny_runValue (set_update_ints walk S (by simp [Nat.ne_of_lt farS, lS.symm]) ns (by rw [List.size_toArray, IntsAre.length hi]) few (fun i v e => ints_get hi (by rw [List.getElem?_toArray] at e; exact e)) us.length 0 _ (by rw [List.size_toArray, Nat.sub_zero]) (Nat.zero_le _)
      ⟨⟨_, Heap.get?_push_size _ rfl, rfl, rfl⟩, there.push _⟩ ⟨0, Nat.le_refl _, setR_new_at (Heap.get?_push_of_some _ at_S)⟩ fun s' c moved hc made => ?_)
    refine wpAny_pure (wpAny_pure ?_)
    refine wpAny_pure ?_
    refine fin s' S c (fun b o e => ?_) moved.gens moved.drawn moved.os (Nat.le_refl _) (by rw [List.size_toArray, IntsAre.length hi] at hc; exact hc) made
    have hb : b < S := hS ▸ Heap.lt_size e
    exact moved.heap b o (by simp [Nat.ne_of_lt hb, Nat.ne_of_lt (Nat.lt_trans hb farS)]) (Heap.get?_push_of_some _ (stays b o e))
end
end El
namespace El
open PySem PySem.Spec PyProof.Rows L2
section
variable {X : Cx}
theorem inv_grown {pins : List (Addr × Obj)} {σ : L2.St} {H : Hp} {s s1 : Shared} (I : Inv X pins σ H s) (grown : ∀ b o, s.heap.get? b = some o → s1.heap.get? b = some o) (g : s1.gens = s.gens) (o : s1.os = s.os) : Inv X pins σ H s1 :=
  I.call' (ch := []) o (Un.kept grown) (I.hok.kept grown) (g ▸ I.bare) fun _ m => nomatch m
def rSetL (K : PySem.W.Frag) (w : World) : List V → Hp → VK → Prop := fun vs H Q => ∃ (a : Addr) (ns : List Int), vs = [V.ref a] ∧ SqL K H a (ns.map V.int) ∧ ns.length + 1 < scanBound ∧
  ∀ p c, c ≤ ns.length → H p = none → Q (.ref p) (upd H p (SetO w p (fun j => decide (j ∈ ns)) c))
theorem cr_setL (calm : X.calm = true) : CallR X (.type "set") (rSetL X.K X.w) := by
  rintro pins s σ H _ us Q I one ⟨a, ns, rfl, here, few, q⟩
  obtain ⟨v, rfl, rfl⟩ : ∃ v, us = [v] ∧ v = .ref a := by
    cases one with | cons e1 t1 => cases t1; exact ⟨_, rfl, e1⟩
  have ⟨its, r, at_a, _⟩ := I.list here
  refine set_of_list (I.ok.hd calm) at_a.isList r.ints few fun s' S c grown g d o size hc made => ?_
  obtain ⟨h1, g1, d1, t1, o1⟩ := s'
  obtain rfl : g1 = s.gens := g
  obtain rfl : d1 = s.drawn := d
  obtain rfl : o1 = s.os := o
  exact ⟨.ref S, _, I.laid (t' := t1) grown size (setO_new made), rfl, q S c hc (I.hok.fresh size)⟩
/-- sorted(v) of what a walk gathers, ints -/
theorem sorted_walked {pins : List (Addr × Obj)} {σ : L2.St} {H : Hp} {s : Shared} {Q : VK} {v : Value} {W : List Int → Prop}
    (walk : ∀ R : List Value → Shared → Prop, (∀ us ns s1, Vals (ns.map V.int) us → W ns → ns.length ≤ sizeLine → Inv X pins σ H s1 → R us s1) → wpAny (model X.prog X.w) X.A.in1 (collect v) R X.xe s)
    (q : ∀ (ns ns' : List Int) (l : Addr), W ns → ns'.Perm ns → ns'.Pairwise (· ≤ ·) → H l = none → Q (.ref l) (upd H l (.lst (ns'.map V.int)))) : wpAny (model X.prog X.w) X.A (call (.builtin "sorted") [v]) (EP X pins σ Q) X.xe s := by
  refine Calls.call_function_entry kind_sorted plain_sorted entry_sorted (args_sorted1 v) (wpAny_bind (m := checkCount "sorted" 1 1 _) (wpAny_pure (wpAny_bind (walk _ fun us ns s1 told W few I => ?_))))
  have n1 : (ns.map V.int).length ≤ sizeLine := by rw [List.length_map]; exact few
  have n2 : us.length ≤ sizeLine := told.length ▸ n1
  refine wpAny_bind (wpAny_newList (wpAny_bind (wpAny_holding ?_)) n2)
  generalize hl : s1.heap.objs.size = l
  have at_l : (s1.heap.push (seqObj "list" us.toArray 0)).get? l = some (seqObj "list" us.toArray 0) := hl ▸ Heap.get?_push_size _ rfl
  have free : H l = none := hl ▸ I.hok.fresh (Nat.le_refl _)
  have J : Inv X pins σ (upd H l (.lst (ns.map V.int))) { s1 with heap := s1.heap.push (seqObj "list" us.toArray 0) } :=
    I.laid (t' := s1.toks) (fun _ _ => Heap.get?_push_of_some _) (Nat.le_of_eq hl) ⟨n1, _, 0, told, at_l⟩
  refine wpAny_call_entry slot_list_sort ⟨_, at_l, rfl⟩ entry_list_sort (SrtO.list_sort_ord SrtO.swo_int at_l n2 (fun two => SrtO.ints_sortable told.ints two) fun out up same => ⟨_, rfl, wpAny_pure ⟨_, rfl, ?_⟩⟩) (args_list_sort _)
  obtain ⟨P0, hP0, e0, rfl⟩ := partners_of told
  obtain ⟨P, p1, rfl⟩ := go_along same.perm
  obtain ⟨ms, pm, em⟩ := go_along (f := V.int) (P := ns) (ys := P.map Prod.fst) (e0 ▸ p1.map _)
  have hP : Partners P := fun p m => hP0 p (p1.mem_iff.mp m)
  have back := ints_back (Vals.ints (em ▸ hP.vals))
  have rise : ms.Pairwise (· ≤ ·) := by
    rw [← back, List.pairwise_map]
    exact up.imp fun h => Int.not_lt.mp (of_decide_eq_false h)
  obtain ⟨e, he⟩ := sortedHeap_at (out := (P.map Prod.snd).toArray) at_l
  have done := J.write (o := .lst (ms.map V.int)) (t' := s1.toks) (h' := sortedHeap (s1.heap.push (seqObj "list" (P0.map Prod.snd).toArray 0)) l (P0.map Prod.snd) (P.map Prod.snd).toArray)
    (by rw [upd_same]; trivial) (.inl rfl) (fun c u away there => (sortedHeap_old away (Heap.lt_size there)).trans there) ⟨_, he⟩
    ⟨by rw [List.length_map, pm.length_eq]; exact few, _, e, em ▸ hP.vals, he⟩
  rw [upd_upd] at done
  exact ⟨.ref l, _, done, rfl, q ns ms l W pm rise free⟩
def rSortedSetN (w : World) : List V → Hp → VK → Prop := fun vs H Q => ∃ (a : Addr) (S : Int → Bool) (n : Nat), vs = [V.ref a] ∧ H a = some (SetO w a S n) ∧
  ∀ (ns : List Int) (p : Addr), ns.Pairwise (· < ·) → (∀ k : Int, k ∈ ns ↔ S k = true) → ns.length = n → H p = none → Q (.ref p) (upd H p (.lst (ns.map V.int)))
theorem cr_sortedSetN (calm : X.calm = true) : CallR X (.builtin "sorted") (rSortedSetN X.w) := by
  rintro pins s σ H _ us Q I one ⟨a, S, n, rfl, here, q⟩
  obtain ⟨v, rfl, rfl⟩ : ∃ v, us = [v] ∧ v = .ref a := by
    cases one with | cons e1 t1 => cases t1; exact ⟨_, rfl, e1⟩
  have ⟨o, es, ep, t, at_a, ex, data, good, nd, mem, few, fits, size, ris, led⟩ := setO_get I here
  have values : ∀ {l : List (Int × Value)}, (∀ e ∈ l, GoodE e) → Vals ((l.map keyOf).map V.int) (l.map Prod.snd) := fun {l} => by
    induction l with
    | nil => exact fun _ => .nil
    | cons e l ih =>
      intro h
      have ⟨k, tk, e2, _⟩ := h e (.head _)
      have e3 : keyOf e = k := by unfold keyOf; rw [e2]
      exact .cons (show ∃ t, e.2 = Value.int (keyOf e) t from ⟨tk, by rw [e3]; exact e2⟩) (ih fun e m => h e (.tail _ m))
  refine sorted_walked (H := H) (W := fun ns => ns.Perm (es.toList.map keyOf)) (fun R go => ?_) fun ns ns' l pn p up free => ?_
  · refine collect_set (I.ok.hd calm) ⟨o, at_a, ex.1, data⟩ fits few ris led fun s1 out grown _ g os perm => ?_
    have told := values good
    obtain ⟨P0, hP0, e0, e1⟩ := partners_of told
    obtain ⟨P, p1, rfl⟩ := go_along (e1 ▸ perm)
    obtain ⟨ms, pm, em⟩ := go_along (f := V.int) (P := es.toList.map keyOf) (ys := P.map Prod.fst) (e0 ▸ p1.map _)
    have hP : Partners P := fun p m => hP0 p (p1.mem_iff.mp m)
    refine go _ ms s1 (em ▸ hP.vals) pm ?_ (inv_grown I grown g os)
    rw [pm.length_eq, List.length_map, Array.length_toList]
    exact Nat.le_trans (Nat.le_of_lt few) (by decide)
  · have pall := p.trans pn
    have nd' : ns'.Nodup := pall.nodup_iff.mpr nd
    refine q ns' l ((List.pairwise_and_iff.mpr ⟨up, nd'⟩).imp fun h => by omega) (fun k => by rw [pall.mem_iff, ← mem k]) ?_ free
    rw [pall.length_eq, List.length_map, Array.length_toList]
    exact size
end
end El
namespace El
open PySem PySem.Spec PyProof.Rows L2 SX
theorem text_four (c : Nat) (gs : List (Int × Int)) : 4 * gs.length ≤ (textOf c gs).length + 1 := by
  have four : ∀ gs : List (Int × Int), 4 * gs.length ≤ (TL.joinL [32] (gs.map (twoW c))).length + 1 := by
    intro gs
    induction gs with
    | nil => exact Nat.zero_le _
    | cons g r ih =>
      have h1 := List.length_pos_iff.mpr (numI_ne g.1)
      have h2 := List.length_pos_iff.mpr (numI_ne g.2)
      cases r with
      | nil =>
        show 4 * 1 ≤ (numI g.1 ++ ([c] ++ numI g.2)).length + 1
        simp only [List.length_append, List.length_singleton]
        omega
      | cons k r =>
        show 4 * ((k :: r).length + 1) ≤ ((numI g.1 ++ ([c] ++ numI g.2)) ++ ([32] ++ TL.joinL [32] ((k :: r).map (twoW c)))).length + 1
        simp only [List.length_append, List.length_singleton]
        omega
  unfold textOf
  split
  · rename_i h
    rw [h]
    exact Nat.zero_le _
  · exact four gs
theorem fallL_all : ∀ {ns : List Int}, (fallL ns).all id = true → ns.Pairwise (· > ·)
  | [], _ => .nil
  | [x], _ => List.pairwise_singleton _ _
  | x :: y :: r, h => by
    have e : fallL (x :: y :: r) = decide (y < x) :: fallL (y :: r) := rfl
    rw [e, List.all_cons, Bool.and_eq_true] at h
    have h1 : y < x := of_decide_eq_true h.1
    have h2 := fallL_all h.2
    refine List.pairwise_cons.mpr ⟨fun z m => ?_, h2⟩
    rcases List.mem_cons.mp m with rfl | m
    · exact h1
    · have := (List.pairwise_cons.mp h2).1 z m
      show z < x
      have : z < y := this
      omega
/-- guests as they are written: the eldest first, and patience no less than nought -/
def Gst (gs : List (Int × Int)) : Prop := (gs.map (·.1)).Pairwise (· > ·) ∧ ∀ g ∈ gs, 0 ≤ g.2
/-- a text of something else than guests -/
def sp_read_guests_b (CT : Addr) : Sp := fun vs H _ E => ∃ (l : List Nat), vs = [.str (S l)] ∧ Low l ∧ l.length ≤ 4000 ∧ (∀ gs, Gst gs → Sms gs → l ≠ textOf 58 gs) ∧ ∀ H' d, Same H H' → H' d = some (.xd [(("what" : Str), .str (S l))]) → E (.ref CT) (some d) H'
def sp_read_guests_x (CT : Addr) : Sp := fun vs H Q E => sp_read_guests vs H Q E0 ∨ sp_read_guests_b CT vs H Q E
def negB (gs : List (Int × Int)) : List Bool := gs.map fun g => decide (g.2 < 0)
theorem negB_none {gs : List (Int × Int)} (h : (negB gs).any id = false) : ∀ g ∈ gs, 0 ≤ g.2 := fun g m => by
  rw [List.any_eq_false] at h
  have := h _ (List.mem_map.mpr ⟨g, m, rfl⟩)
  simpa using this
section
variable {P : Program} {w : World} {K : PySem.W.Frag} {mg : Str → Option Value} {base : Heap}
theorem okb_read_guests {CT : Addr} (A : At K mg "read_guests" P_read_guests s_read_guests) (B : Bi mg) (E_NoText : OwnW P w K mg base "NoText" CT) (XD_read_twos : DfX P w K mg base 4 "read_twos" P_read_twos s_read_twos (sp_read_twos_x CT))
    (D_falls : Df P w K mg base 1 "falls" P_falls s_falls (sp_falls K)) : DfX P w K mg base 5 "read_guests" P_read_guests s_read_guests (sp_read_guests_b CT) := by
  refine A.dfx fun f fd F => okN F sc_read_guests (fun vs H Q E h => ?_) (fun cdv AA outer s H vs Q E hr h => ?_)
  · obtain ⟨_, rfl, _⟩ := h
    rfl
  · obtain ⟨l, rfl, hlow, hlen, hno, q⟩ := h
    have nd := sc_read_guests.nd
    refine ⟨_, (pss_cons (ps_set (i := 1) nd rfl (.inl rfl) (pe_dfS XD_read_twos (L2N.takes_of rfl rfl rfl rfl) (hr.mono (by decide)) (by rfl) (pa_cons (pv 0) (pa_cons pe_str pa_nil))))
    (pss_cons (ps_if (PW.pt (pw_or (pt_not (pt_val (pe_df D_falls (hr.mono (by decide)) (by rfl) (pa_cons (pe_lc (own := [("age", 2), ("_", 3)]) (tt := tYes) rfl nd (pi_list (pv 1)) (blkOk_by (N := N_read_guests) (sc := defScope s_read_guests) (by decide +kernel)) (fun _ _ _ _ _ => (pgTupK K 2 (by rfl) (pgs_cons (pg_name (i := 2) nd rfl (.inl rfl)) (pgs_cons (pg_name (i := 3) nd rfl (.inl rfl)) pgs_nil)))) (fun _ _ _ _ _ => pts_nil) (fun _ _ _ _ _ => (pv 2))) pa_nil)))) (pw_or1 (pt_val (pe_callB (cr_any rfl) (by rfl) B.any (by decide +kernel) (pa_cons (pe_lc (own := [("_", 3), ("patience", 4)]) (tt := tYes) rfl nd (pi_list (pv 1)) (blkOk_by (N := N_read_guests) (sc := defScope s_read_guests) (by decide +kernel)) (fun _ _ _ _ _ => (pgTupK K 2 (by rfl) (pgs_cons (pg_name (i := 3) nd rfl (.inl rfl)) (pgs_cons (pg_name (i := 4) nd rfl (.inl rfl)) pgs_nil)))) (fun _ _ _ _ _ => pts_nil) (fun _ _ _ _ _ => (pe_cmpR op_lt (pv 4) pe_int (nomark _)))) pa_nil)))))) (pss_one (ps_raiseW E_NoText (hr.mono (by decide)) rfl (L2N.takes_of rfl rfl rfl rfl) (pa_cons (pv 0) pa_nil) (by rfl))) pss_nil)
    (pss_one (ps_ret (pv 1))))), ?_⟩
    have sg : Sign 58 := ⟨by decide, by decide, by decide, .inr (by decide)⟩
    by_cases two : ∃ gs, Sms gs ∧ l = textOf 58 gs
    · obtain ⟨gs, hs, rfl⟩ := two
      have hl : gs.length ≤ 1000 := by
        have := text_four 58 gs
        omega
      have fail : ∀ {H5 : Hp} (d' : Addr), Same H H5 → H5 d' = none → E (.ref CT) (some d') (upd H5 d' (.xd [(("what" : Str), .str (S (textOf 58 gs)))])) := fun d' s5 nd' => q _ d' (s5.trans (same_new nd')) upd_same
      have rd : RdW H (.str (S (textOf 58 gs))) := .inl (.inr ⟨S (textOf 58 gs), rfl, repr_low hlow hlen⟩)
      refine ⟨.str (S (textOf 58 gs)), rfl, .inl ⟨58, gs, by rw [← one_S.2.1], sg, hs, hl, fun H1 u ts sm hG hni => ?_⟩⟩
      refine ⟨.ref u, rfl, u, rfl, ⟨_, hG.seq⟩, fun D nD => ?_⟩
      refine lc_prs (fun c => c.1) hG nD hl (fun c H' _ _ Q h => ⟨_, rfl, h⟩) (fun _ => rfl) (fun H2 s2 e2 => ?_)
      refine ⟨D, gs.map (·.1), rfl, SqL.of e2, by rw [List.length_map]; omega, fun H3 s3 => ⟨_, rfl, ?_⟩⟩
      have s13 := s2.trans s3
      have hG3 := hG.same s13
      cases hf : (fallL (gs.map (·.1))).all id with
      | false =>
        refine iteTx rfl (iteTx rfl ?_)
        exact ⟨.str (S (textOf 58 gs)), rfl, .str (S (textOf 58 gs)), rfl, .inl (.inr ⟨S (textOf 58 gs), rfl, repr_low hlow hlen⟩), fun d' nd' => fail d' (sm.trans s13) nd'⟩
      | true =>
        refine iteX rfl ?_
        refine ⟨.ref u, rfl, u, rfl, ⟨_, hG3.seq⟩, fun D2 nD2 => ?_⟩
        refine lc_it (walk_list (xs := ts.map V.ref)) (fun k H2 => Same H3 H2 ∧ H2 D2 = some (.lst (((negB gs).take k).map V.bl))) ⟨same_new nD2, upd_same⟩ (fun k H2 _ hW => (hG3.same hW.1).seq) (fun k x Hq H4 hk hW hY => ?_) (fun H4 hW => ?_)
        · obtain ⟨sm2, e⟩ := hW
          obtain ⟨rfl, hx⟩ := hY
          obtain ⟨t, g, rfl, eg, et⟩ := (hG3.same sm2).get hx
          have eb : (negB gs)[k]? = some (decide (g.2 < 0)) := by
            unfold negB
            rw [List.getElem?_map, eg]
            rfl
          refine ⟨t, _, rfl, SqT.of et, rfl, .int g.1, _, rfl, .int g.2, _, rfl, rfl, rfl, .int g.2, rfl, _, _, rfl, rfl, ?_⟩
          refine ⟨_, e, ils (by rw [List.length_map, List.length_take]; rw [List.length_map, hG.len] at hk; omega), Same.mut sm2 nD2, ?_⟩
          rw [upd_same, take_snoc eb, List.map_append]
          rfl
        · obtain ⟨sm2, e⟩ := hW
          rw [List.length_map, hG.len, show gs.length = (negB gs).length by unfold negB; rw [List.length_map], List.take_length] at e
          refine ⟨_, _, rfl, SqL.of e, _, rfl, ?_⟩
          cases ha : (negB gs).any id with
          | false => exact absurd rfl (hno gs ⟨fallL_all hf, negB_none ha⟩ hs)
          | true =>
            refine iteTx rfl ?_
            exact ⟨.str (S (textOf 58 gs)), rfl, .str (S (textOf 58 gs)), rfl, .inl (.inr ⟨S (textOf 58 gs), rfl, repr_low hlow hlen⟩), fun d' nd' => fail d' (sm.trans (s13.trans sm2)) nd'⟩
    · exact ⟨.str (S l), rfl, .inr ⟨l, 58, by rw [← one_S.2.1], sg, hlow, hlen, fun gs h1 h2 => two ⟨gs, h1, h2⟩, fun H' d s e => q H' d s e⟩⟩
theorem okx_read_guests {CT : Addr} (A : At K mg "read_guests" P_read_guests s_read_guests) (B : Bi mg) (E_NoText : OwnW P w K mg base "NoText" CT) (XD_read_twos : DfX P w K mg base 4 "read_twos" P_read_twos s_read_twos (sp_read_twos_x CT))
    (D_falls : Df P w K mg base 1 "falls" P_falls s_falls (sp_falls K)) (D_read_guests : Df P w K mg base 4 "read_guests" P_read_guests s_read_guests sp_read_guests) : DfX P w K mg base 5 "read_guests" P_read_guests s_read_guests (sp_read_guests_x CT) :=
  Df.orx D_read_guests (okb_read_guests A B E_NoText XD_read_twos D_falls) (by decide)
end
end El
namespace El
open PySem PySem.Spec PyProof.Rows L2 SX
theorem join_four (c : Nat) : ∀ (gs : List (Int × Int)), 4 * gs.length ≤ (TL.joinL [32] (gs.map (twoW c))).length + 1
  | [] => Nat.zero_le _
  | [g] => by
    have h1 := List.length_pos_iff.mpr (numI_ne g.1)
    have h2 := List.length_pos_iff.mpr (numI_ne g.2)
    show 4 * 1 ≤ (numI g.1 ++ ([c] ++ numI g.2)).length + 1
    simp only [List.length_append, List.length_singleton]
    omega
  | g :: k :: r => by
    have h1 := List.length_pos_iff.mpr (numI_ne g.1)
    have h2 := List.length_pos_iff.mpr (numI_ne g.2)
    have h3 := join_four c (k :: r)
    show 4 * ((k :: r).length + 1) ≤ ((numI g.1 ++ ([c] ++ numI g.2)) ++ ([32] ++ TL.joinL [32] ((k :: r).map (twoW c)))).length + 1
    simp only [List.length_append, List.length_singleton]
    omega
/-- a text of something else than crowds -/
def sp_read_crowds_b (CT : Addr) : Sp := fun vs H _ E => ∃ (l : List Nat), vs = [.str (S l)] ∧ Low l ∧ l.length ≤ 4000 ∧ (∀ gs, Crw gs → Sms gs → l ≠ textOf 120 gs) ∧ ∀ H' d, Same H H' → H' d = some (.xd [(("what" : Str), .str (S l))]) → E (.ref CT) (some d) H'
def sp_read_crowds_x (CT : Addr) : Sp := fun vs H Q E => sp_read_crowds vs H Q E0 ∨ sp_read_crowds_b CT vs H Q E
def crwB (gs : List (Int × Int)) : List Bool := gs.map fun g => decide (1 ≤ g.1) && decide (0 ≤ g.2)
theorem crwB_all {gs : List (Int × Int)} (h : (crwB gs).all id = true) : Crw gs := fun g m => by
  rw [List.all_eq_true] at h
  have := h _ (List.mem_map.mpr ⟨g, m, rfl⟩)
  simpa using this
section
variable {P : Program} {w : World} {K : PySem.W.Frag} {mg : Str → Option Value} {base : Heap}
theorem okb_read_crowds {CT : Addr} (A : At K mg "read_crowds" P_read_crowds s_read_crowds) (B : Bi mg) (E_NoText : OwnW P w K mg base "NoText" CT) (XD_read_twos : DfX P w K mg base 4 "read_twos" P_read_twos s_read_twos (sp_read_twos_x CT))
    (D_is_crowd : Df P w K mg base 1 "is_crowd" P_is_crowd s_is_crowd sp_is_crowd) : DfX P w K mg base 5 "read_crowds" P_read_crowds s_read_crowds (sp_read_crowds_b CT) := by
  refine A.dfx fun f fd F => okN F sc_read_crowds (fun vs H Q E h => ?_) (fun cdv AA outer s H vs Q E hr h => ?_)
  · obtain ⟨_, rfl, _⟩ := h
    rfl
  · obtain ⟨l, rfl, hlow, hlen, hno, q⟩ := h
    have nd := sc_read_crowds.nd
    refine ⟨_, (pss_cons (ps_set (i := 1) nd rfl (.inl rfl) (pe_dfS XD_read_twos (L2N.takes_of rfl rfl rfl rfl) (hr.mono (by decide)) (by rfl) (pa_cons (pv 0) (pa_cons pe_str pa_nil))))
    (pss_cons (ps_if (pt_not (pt_val (pe_callB (cr_all rfl) (by rfl) B.all (by decide +kernel) (pa_cons (pe_lc (own := [("count", 2), ("patience", 3)]) (tt := tYes) rfl nd (pi_list (pv 1)) (blkOk_by (N := N_read_crowds) (sc := defScope s_read_crowds) (by decide +kernel)) (fun _ _ _ _ _ => (pgTupK K 2 (by rfl) (pgs_cons (pg_name (i := 2) nd rfl (.inl rfl)) (pgs_cons (pg_name (i := 3) nd rfl (.inl rfl)) pgs_nil)))) (fun _ _ _ _ _ => pts_nil) (fun _ _ _ _ _ => (pe_df D_is_crowd (hr.mono (by decide)) (by rfl) (pa_cons (pv 2) (pa_cons (pv 3) pa_nil))))) pa_nil)))) (pss_one (ps_raiseW E_NoText (hr.mono (by decide)) rfl (L2N.takes_of rfl rfl rfl rfl) (pa_cons (pv 0) pa_nil) (by rfl))) pss_nil)
    (pss_one (ps_ret (pv 1))))), ?_⟩
    have sg : Sign 120 := ⟨by decide, by decide, by decide, .inr (by decide)⟩
    by_cases two : ∃ gs, Sms gs ∧ l = textOf 120 gs
    · obtain ⟨gs, hs, rfl⟩ := two
      have hl : gs.length ≤ 1000 := by
        have := text_four 120 gs
        omega
      refine ⟨.str (S (textOf 120 gs)), rfl, .inl ⟨120, gs, by rw [← one_S.1], sg, hs, hl, fun H1 u ts sm hG hni => ?_⟩⟩
      refine ⟨.ref u, rfl, u, rfl, ⟨_, hG.seq⟩, fun D nD => ?_⟩
      refine lc_it (walk_list (xs := ts.map V.ref)) (fun k H2 => Same H1 H2 ∧ H2 D = some (.lst (((crwB gs).take k).map V.bl))) ⟨same_new nD, upd_same⟩ (fun k H2 _ hW => (hG.same hW.1).seq) (fun k x H2 H3 hk hW hY => ?_) (fun H2 hW => ?_)
      · obtain ⟨sm2, e⟩ := hW
        obtain ⟨rfl, hx⟩ := hY
        obtain ⟨t, g, rfl, eg, et⟩ := (hG.same sm2).get hx
        have eb : (crwB gs)[k]? = some (decide (1 ≤ g.1) && decide (0 ≤ g.2)) := by
          unfold crwB
          rw [List.getElem?_map, eg]
          rfl
        refine ⟨t, _, rfl, SqT.of et, rfl, .int g.1, _, rfl, .int g.2, _, rfl, rfl, rfl, .int g.1, rfl, .int g.2, rfl, g.1, g.2, rfl, ?_⟩
        refine ⟨_, e, ils (by rw [List.length_map, List.length_take]; rw [List.length_map, hG.len] at hk; omega), Same.mut sm2 nD, ?_⟩
        rw [upd_same, take_snoc eb, List.map_append]
        rfl
      · obtain ⟨sm2, e⟩ := hW
        rw [List.length_map, hG.len, show gs.length = (crwB gs).length by unfold crwB; rw [List.length_map], List.take_length] at e
        refine ⟨_, _, rfl, SqL.of e, _, rfl, ?_⟩
        cases ha : (crwB gs).all id with
        | true => exact absurd rfl (hno gs (crwB_all ha) hs)
        | false =>
          refine iteTx rfl ?_
          exact ⟨.str (S (textOf 120 gs)), rfl, .str (S (textOf 120 gs)), rfl, .inl (.inr ⟨S (textOf 120 gs), rfl, repr_low hlow hlen⟩), fun d' nd' => q _ d' ((sm.trans sm2).trans (same_new nd')) upd_same⟩
    · exact ⟨.str (S l), rfl, .inr ⟨l, 120, by rw [← one_S.1], sg, hlow, hlen, fun gs h1 h2 => two ⟨gs, h1, h2⟩, fun H' d s e => q H' d s e⟩⟩
theorem okx_read_crowds {CT : Addr} (A : At K mg "read_crowds" P_read_crowds s_read_crowds) (B : Bi mg) (E_NoText : OwnW P w K mg base "NoText" CT) (XD_read_twos : DfX P w K mg base 4 "read_twos" P_read_twos s_read_twos (sp_read_twos_x CT))
    (D_is_crowd : Df P w K mg base 1 "is_crowd" P_is_crowd s_is_crowd sp_is_crowd) (D_read_crowds : Df P w K mg base 4 "read_crowds" P_read_crowds s_read_crowds sp_read_crowds) : DfX P w K mg base 5 "read_crowds" P_read_crowds s_read_crowds (sp_read_crowds_x CT) :=
  Df.orx D_read_crowds (okb_read_crowds A B E_NoText XD_read_twos D_is_crowd) (by decide)
end
end El
namespace El
open PySem PySem.Spec PyProof.Rows L2 SX
section
variable {P : Program} {w : World} {K : PySem.W.Frag} {mg : Str → Option Value} {base : Heap}
abbrev s_read_rooms : Stmt := topS 13
abbrev N_read_rooms : List Str := ["text", "rooms", "ages", "part", "room", "age"]
abbrev P_read_rooms : List Str := ["text"]
theorem sc_read_rooms : FnScope N_read_rooms P_read_rooms (defScope s_read_rooms) := ⟨rfl, rfl, rfl, by decide +kernel, rfl, by decide +kernel, by decide +kernel⟩
theorem RmsAt.add {H : Hp} {B : Addr → Prop} {o u : Addr} {ts : List Addr} {rs : List (List Int)} {r : List Int} (h : RmsAt H B o ts rs) (e : H u = some (.lst (r.map V.int))) (bu : B u) (hu : u ∉ ts) (uo : u ≠ o) :
    RmsAt (upd H o (.lst (ts.map V.ref ++ [.ref u]))) B o (ts ++ [u]) (rs ++ [r]) := by
  have no : ∀ t ∈ ts, t ≠ o := fun t m z => h.no (z ▸ m)
  refine ⟨by rw [upd_same, List.map_append]; rfl, h.bo, ?_, ?_, ?_, fun i t r' e1 e2 => ?_, fun t m => ?_⟩
  · rw [List.nodup_append]
    refine ⟨h.nd, by simp, fun a m b mb => ?_⟩
    rw [List.mem_singleton.mp mb]
    exact fun z => hu (z ▸ m)
  · intro m
    rcases List.mem_append.mp m with m | m
    · exact h.no m
    · exact uo (List.mem_singleton.mp m).symm
  · rw [List.length_append, List.length_append, h.len]
    rfl
  · by_cases hi : i < ts.length
    · rw [List.getElem?_append_left hi] at e1
      rw [List.getElem?_append_left (by rw [← h.len]; exact hi)] at e2
      rw [upd_ne (no t (List.mem_of_getElem? e1))]
      exact h.at' i t r' e1 e2
    · have hi2 := at_lt e1
      rw [List.length_append, List.length_singleton] at hi2
      have : i = ts.length := by omega
      subst this
      rw [List.getElem?_append_right (Nat.le_refl _), Nat.sub_self] at e1
      rw [h.len, List.getElem?_append_right (Nat.le_refl _), Nat.sub_self] at e2
      obtain rfl := Option.some.inj e1
      obtain rfl := Option.some.inj e2
      rw [upd_ne uo]
      exact e
  · rcases List.mem_append.mp m with m | m
    · exact h.b t m
    · rw [List.mem_singleton.mp m]
      exact bu
def sp_read_rooms_x (CT : Addr) : Sp := fun vs H Q E => ∃ l : List Nat, vs = [.str (S l)] ∧ Low l ∧ l.length ≤ 4000 ∧ (∀ rs, Rms rs → l = roomsT rs → ∀ H' u ts, Same H H' → RmsAt H' (fun a => H a = none) u ts rs → Q (.ref u) H') ∧
  ((∀ rs, Rms rs → l ≠ roomsT rs) → ∀ H' d, Same H H' → H' d = some (.xd [(("what" : Str), .str (S l))]) → E (.ref CT) (some d) H')
def fallB (rs : List (List Int)) : List Bool := rs.map fun r => (fallL r).all id
theorem falling : ∀ {ns : List Int}, (fallL ns).all id = true → ns.Pairwise (· > ·)
  | [], _ => .nil
  | [x], _ => List.pairwise_singleton _ _
  | x :: y :: r, h => by
    have e : fallL (x :: y :: r) = decide (y < x) :: fallL (y :: r) := rfl
    rw [e, List.all_cons, Bool.and_eq_true] at h
    have h1 : y < x := of_decide_eq_true h.1
    have h2 := falling h.2
    refine List.pairwise_cons.mpr ⟨fun z m => ?_, h2⟩
    rcases List.mem_cons.mp m with rfl | m
    · exact h1
    · have := (List.pairwise_cons.mp h2).1 z m
      show z < x
      have : z < y := this
      omega
theorem fallB_all {rs : List (List Int)} (h : (fallB rs).all id = true) : ∀ r ∈ rs, r.Pairwise (· > ·) := fun r m => by
  rw [List.all_eq_true] at h
  exact falling (h _ (List.mem_map.mpr ⟨r, m, rfl⟩))
theorem fallB_yes {rs : List (List Int)} (h : ∀ r ∈ rs, r.Pairwise (· > ·)) : (fallB rs).all id = true := by
  rw [List.all_eq_true]
  intro b m
  obtain ⟨r, mr, rfl⟩ := List.mem_map.mp m
  exact fallL_yes (h r mr)
theorem okx_read_rooms {CT : Addr} (A : At K mg "read_rooms" P_read_rooms s_read_rooms) (B : Bi mg) (E_NoText : OwnW P w K mg base "NoText" CT) (D_parts_of : Df P w K mg base 1 "parts_of" P_parts_of s_parts_of sp_parts_of) (XD_read_numbers : DfX P w K mg base 3 "read_numbers" P_read_numbers s_read_numbers (sp_read_numbers_x CT))
    (D_falls : Df P w K mg base 1 "falls" P_falls s_falls (sp_falls K)) : DfX P w K mg base 4 "read_rooms" P_read_rooms s_read_rooms (sp_read_rooms_x CT) := by
  refine A.dfx fun f fd F => okN F sc_read_rooms (fun vs H Q E h => ?_) (fun cdv AA outer s H vs Q E hr h => ?_)
  · obtain ⟨_, rfl, _⟩ := h
    rfl
  · obtain ⟨l, rfl, hlow, hlen, qy, qn⟩ := h
    have nd := sc_read_rooms.nd
    refine ⟨_, (pss_cons (ps_setLcE (i := 1) (own := [("part", 3)]) (tt := tYes) rfl rfl rfl (L2N.takes_of rfl rfl rfl rfl) nd rfl rfl (sw_true rfl rfl rfl (by decide +kernel)) (pe_df D_parts_of (hr.mono (by decide)) (by rfl) (pa_cons (pv 0) (pa_cons pe_str pa_nil))) (blkOk_by (N := N_read_rooms) (sc := defScope s_read_rooms) (by decide +kernel)) (fun _ _ _ _ _ => (pg_name (i := 3) nd rfl (.inl rfl))) (fun _ _ _ _ _ => pts_nil) (fun _ _ _ _ _ => (pe_dfB XD_read_numbers passE (hr.mono (by decide)) (by rfl) (pa_cons (pv 0) (pa_cons (pv 3) (pa_cons pe_str pa_nil))))))
    (pss_cons (ps_setLc2 (i := 2) (own := [("room", 4), ("age", 5)]) (vs1 := [5]) (tt := tYes) (tt1 := tYes) rfl nd rfl rfl (sw_true rfl rfl rfl (by decide +kernel)) (pi_list (pv 1)) (blkOk_by (N := N_read_rooms) (sc := defScope s_read_rooms) (by decide +kernel)) (by decide) (fun _ _ _ _ _ => (pg_name (i := 4) nd rfl (.inl rfl))) (fun _ _ _ _ _ => pts_nil) (fun _ _ _ _ _ => (piListK K (pv 4))) (fun _ _ _ _ _ => (pg_name (i := 5) nd rfl (.inl rfl))) (fun _ _ _ _ _ => pts_nil) (fun _ _ _ _ _ => (pv 5)))
    (pss_cons (ps_if (PW.pt (pw_or (pt_not (pt_val (pe_callB (cr_all rfl) (by rfl) B.all (by decide +kernel) (pa_cons (pe_lc (own := [("room", 4)]) (tt := tYes) rfl nd (pi_list (pv 1)) (blkOk_by (N := N_read_rooms) (sc := defScope s_read_rooms) (by decide +kernel)) (fun _ _ _ _ _ => (pg_name (i := 4) nd rfl (.inl rfl))) (fun _ _ _ _ _ => pts_nil) (fun _ _ _ _ _ => (pe_df D_falls (hr.mono (by decide)) (by rfl) (pa_cons (pv 4) pa_nil)))) pa_nil)))) (pw_or1 (pt_cmpR op_lt (pe_callB call_lenSS (by rfl) B.len PySem.boot_len (pa_cons (pe_callTy (cr_setL rfl) (by rfl) B.set_ (by decide +kernel) (pa_cons (pv 2) pa_nil)) pa_nil)) (pe_callB call_len_seq (by rfl) B.len PySem.boot_len (pa_cons (pv 2) pa_nil)) (nomark _))))) (pss_one (ps_raiseW E_NoText (hr.mono (by decide)) rfl (L2N.takes_of rfl rfl rfl rfl) (pa_cons (pv 0) pa_nil) (by rfl))) pss_nil)
    (pss_one (ps_ret (pv 1)))))), ?_⟩
    have rd : ∀ H', RdW H' (.str (S l)) := fun H' => .inl (.inr ⟨S l, rfl, repr_low hlow hlen⟩)
    obtain ⟨ws, hws, hcut, hjoin, hsm, hmany, hlows⟩ : ∃ ws : List (List Nat), ((l = noneL ∧ ws = []) ∨ (l ≠ noneL ∧ Txt.split (S l) (S barL) = ws.map S)) ∧ (∀ rs, Rms rs → l = roomsT rs → ws = rs.map roomW) ∧ (∀ rs, ws = rs.map roomW → l = roomsT rs) ∧ (∀ w ∈ ws, w.length ≤ 4000) ∧ ws.length ≤ 4001 ∧ Lows ws := by
      by_cases hn : l = noneL
      · refine ⟨[], .inl ⟨hn, rfl⟩, fun rs h e => ?_, fun rs e => ?_, fun w m => absurd m List.not_mem_nil, Nat.zero_le _, fun w m => absurd m List.not_mem_nil⟩
        · have : rs = [] := Classical.byContradiction fun z => rooms_none z h.ne (by rw [← e, hn])
          rw [this]
          rfl
        · have : rs = [] := by
            cases rs with
            | nil => rfl
            | cons r rs => cases e
          rw [this, hn]
          rfl
      · refine ⟨TL.spl barL 0 [] l, .inr ⟨hn, split_S (by decide) (by decide)⟩, fun rs h e => (rooms_cut hn e).2, fun rs e => ?_, fun w m => ?_, ?_, spl_low barL l 0 [] (fun x m => absurd m List.not_mem_nil) hlow⟩
        · have hr : rs ≠ [] := fun z => by
            rw [z] at e
            exact spl_ne _ _ _ _ e
          unfold roomsT
          rw [if_neg hr, ← e, join_all (by decide)]
        · have := spl_small barL l 0 [] w m
          rw [List.length_nil] at this
          omega
        · have := spl_many barL l 0 []
          omega
    refine ⟨.str (S l), rfl, l, barL, ws, by rw [← bar_S]; rfl, by decide, by omega, hws, fun W nW => ?_⟩
    have sW : Same H (upd H W (.lst ((ws.map S).map V.str))) := same_new nW
    have eW : (upd H W (.lst ((ws.map S).map V.str))) W = some (.lst ((ws.map S).map V.str)) := upd_same
    generalize upd H W (.lst ((ws.map S).map V.str)) = H1 at sW eW ⊢
    have hlenW : ((ws.map S).map V.str).length = ws.length := by rw [List.length_map, List.length_map]
    have gW : ∀ k x, ((ws.map S).map V.str)[k]? = some x → ∃ v, ws[k]? = some v ∧ x = V.str (S v) := fun k x h => by
      rw [List.getElem?_map, List.getElem?_map] at h
      cases e : ws[k]? with
      | none => rw [e] at h; cases h
      | some r => rw [e] at h; exact ⟨r, e, (Option.some.inj h).symm⟩
    refine ⟨W, rfl, ⟨_, SqL.of eW⟩, fun D nD => ?_⟩
    refine lc_it (walk_list (xs := (ws.map S).map V.str)) (fun k H2 => Same H1 H2 ∧ ∃ ts rs, RmsAt H2 (fun z => H1 z = none) D ts rs ∧ ws.take k = rs.map roomW ∧ (∀ r ∈ rs, r ≠ []) ∧ (∀ r ∈ rs, ∀ i ∈ r, Sm i)) ⟨same_new nD, [], [], RmsAt.nil upd_same nD, rfl, fun _ m => absurd m List.not_mem_nil, fun _ m => absurd m List.not_mem_nil⟩ (fun k H2 _ hW => SqL.of (hW.1 _ _ eW)) (fun k x H2 H3 hk hW hY => ?_) (fun H2 hW => ?_)
    · obtain ⟨sm, ts, rs, hR, htk, hne, hsm2⟩ := hW
      obtain ⟨rfl, hx⟩ := hY
      obtain ⟨v, ev, rfl⟩ := gW k x hx
      have mv := List.mem_of_getElem? ev
      have hlr : rs.length ≤ k := by
        have := congrArg List.length htk
        rw [List.length_take, List.length_map] at this
        omega
      refine ⟨rfl, .str (S l), rfl, .str (S v), rfl, ?_⟩
      by_cases good : ∃ r : List Int, r ≠ [] ∧ (∀ i ∈ r, Sm i) ∧ v = roomW r
      · obtain ⟨r, h1, h2, rfl⟩ := good
        have hr2 := room_two h1
        have hv := hsm _ mv
        refine .inl ⟨_, 44, r, by rw [← one_S.2.2.2.1]; rfl, ⟨by decide, by decide, by decide, .inl (by decide)⟩, h2, h1, by omega, fun H4 u s4 nu eu => ?_⟩
        have hR4 := hR.same s4
        have nu1 : H1 u = none := sm.free nu
        have huD : u ≠ D := fun z => by
          have := hR.top
          rw [← z, nu] at this
          cases this
        have hut : u ∉ ts := fun m => by
          obtain ⟨i, e⟩ := List.mem_iff_getElem?.mp m
          have hi := at_lt e
          rw [hR.len] at hi
          obtain ⟨r', e2⟩ := at_some hi
          have := hR.at' i u r' e e2
          rw [nu] at this
          cases this
        refine ⟨_, hR4.top, ils (by rw [List.length_map, hR.len]; rw [hlenW] at hk; omega), Same.mut (sm.trans s4) nD, ts ++ [u], rs ++ [r], hR4.add eu nu1 hut huD, ?_, ?_, ?_⟩
        · rw [take_snoc ev, htk, List.map_append]
          rfl
        · intro q m
          rcases List.mem_append.mp m with m | m
          · exact hne q m
          · rw [List.mem_singleton.mp m]
            exact h1
        · intro q m
          rcases List.mem_append.mp m with m | m
          · exact hsm2 q m
          · rw [List.mem_singleton.mp m]
            exact h2
      · refine .inr ⟨l, v, 44, by rw [← one_S.2.2.2.1], by decide, hlow, hlen, hsm v mv, fun ls a1 a2 e => good ⟨ls, a1, a2, e⟩, fun H' d s5 ed => ?_⟩
        refine qn (fun rs' h e => good ?_) H' d (sW.trans (sm.trans s5)) ed
        have e2 := hcut rs' h e
        rw [e2, List.getElem?_map] at ev
        cases er : rs'[k]? with
        | none => rw [er] at ev; cases ev
        | some r =>
          rw [er] at ev
          have m := List.mem_of_getElem? er
          exact ⟨r, h.ne r m, h.sm r m, (Option.some.inj ev).symm⟩
    · obtain ⟨sm, ts, rs, hR, htk, hne, hsm2⟩ := hW
      rw [hlenW, List.take_length] at htk
      have hl2 := hjoin rs htk
      have hhalf := rooms_half hne
      rw [← hl2] at hhalf
      have hfew : rs.flatten.length ≤ 2001 := by omega
      have hone : ∀ rs', Rms rs' → l = roomsT rs' → rs' = rs := fun rs' h e => by
        have e2 := hcut rs' h e
        have := first_rooms (n := rs'.length) hne h.ne (by rw [← htk, e2]; exact List.take_of_length_le (by rw [List.length_map]; exact Nat.le_refl _))
        rw [← this, List.take_length]
      have s2 := sW.trans sm
      -- ages
      refine ⟨.ref D, rfl, D, rfl, ⟨_, hR.seq⟩, fun D2 nD2 => ?_⟩
      refine out_it (walk_list (xs := ts.map V.ref)) (fun i H3 => Same H2 H3 ∧ H3 D2 = some (.lst (((rs.take i).flatten).map V.int))) ⟨same_new nD2, upd_same⟩ (fun i H3 _ hW => ?_) (fun i x H3 H4 hi hW hY => ?_) (fun H3 hW => ?_)
      · exact (hR.same hW.1).seq
      · obtain ⟨sm3, hD⟩ := hW
        obtain ⟨rfl, hx⟩ := hY
        obtain ⟨t, r, rfl, _, er, et⟩ := (hR.same sm3).get hx
        refine ⟨rfl, .ref t, rfl, t, rfl, ⟨_, SqL.of et⟩, ?_⟩
        have et2 : H2 t = some (.lst (r.map V.int)) := by
          obtain ⟨t', r', e1, _, er', et'⟩ := hR.get hx
          injection e1 with e1
          subst e1
          obtain rfl := Option.some.inj (er.symm.trans er')
          exact et'
        have ntD : t ≠ D2 := fun z => by
          rw [z, nD2] at et2
          cases et2
        have hlen2 : ((rs.take i).flatten ++ r).length ≤ rs.flatten.length := by
          rw [← take_snoc_flat er, ← List.take_append_drop (i + 1) rs, List.flatten_append, List.length_append, List.take_append_drop]
          exact Nat.le_add_right _ _
        rw [List.length_append] at hlen2
        refine out_it (walk_list (xs := r.map V.int)) (fun k H5 => Same H2 H5 ∧ H5 t = some (.lst (r.map V.int)) ∧ H5 D2 = some (.lst (((rs.take i).flatten ++ r.take k).map V.int))) ⟨sm3, et, by rw [List.take_zero, List.append_nil]; exact hD⟩ (fun k H5 _ hW => ?_) (fun k x H5 H6 hk hW hY => ?_) (fun H5 hW => ?_)
        · exact SqL.of hW.2.1
        · obtain ⟨sm5, et5, hD5⟩ := hW
          obtain ⟨rfl, hx⟩ := hY
          obtain ⟨a', ea, rfl⟩ := ints_at hx
          refine ⟨rfl, .int a', rfl, _, hD5, ils (by rw [List.length_map, List.length_append, List.length_take]; omega), Same.mut sm5 nD2, ?_, ?_⟩
          · rw [upd_ne ntD]
            exact et5
          · rw [upd_same, take_snoc ea, ← List.append_assoc, List.map_append (l₂ := [a'])]
            rfl
        · obtain ⟨sm5, et5, hD5⟩ := hW
          rw [List.length_map, take_full, ← take_snoc_flat er] at hD5
          exact ⟨sm5, hD5⟩
      obtain ⟨s3, eA⟩ := hW
      rw [List.length_map, hR.len, take_full] at eA
      have hR3 := hR.same s3
      -- each falls
      have hrl : rs.length ≤ 2001 := Nat.le_trans (len_flat hne) hfew
      refine ⟨.ref D, rfl, D, rfl, ⟨_, hR3.seq⟩, fun D3 nD3 => ?_⟩
      refine lc_it (walk_list (xs := ts.map V.ref)) (fun k H4 => Same H3 H4 ∧ H4 D3 = some (.lst (((fallB rs).take k).map V.bl))) ⟨same_new nD3, upd_same⟩ (fun k H4 _ hW => (hR3.same hW.1).seq) (fun k x H4 H5 hk hW hY => ?_) (fun H4 hW => ?_)
      · obtain ⟨sm4, e⟩ := hW
        obtain ⟨rfl, hx⟩ := hY
        obtain ⟨t, r, rfl, _, er, et⟩ := (hR3.same sm4).get hx
        have mr := List.mem_of_getElem? er
        have eb : (fallB rs)[k]? = some ((fallL r).all id) := by
          unfold fallB
          rw [List.getElem?_map, er]
          rfl
        refine ⟨rfl, .ref t, rfl, t, r, rfl, SqL.of et, Nat.le_trans (room_few mr) (by omega), fun H6 s6 => ?_⟩
        refine ⟨_, s6 _ _ e, ils (by rw [List.length_map, List.length_take]; rw [List.length_map, hR.len] at hk; omega), Same.mut (sm4.trans s6) nD3, ?_⟩
        rw [upd_same, take_snoc eb, List.map_append]
        rfl
      · obtain ⟨sm4, e⟩ := hW
        rw [List.length_map, hR.len, show rs.length = (fallB rs).length by unfold fallB; rw [List.length_map], List.take_length] at e
        refine ⟨_, _, rfl, SqL.of e, _, rfl, ?_⟩
        have s5 := s2.trans (s3.trans sm4)
        cases ha : (fallB rs).all id with
        | false =>
          refine iteTx rfl (iteTx rfl ?_)
          refine ⟨.str (S l), rfl, .str (S l), rfl, rd _, fun d' nd' => qn (fun rs' h e => ?_) _ d' (s5.trans (same_new nd')) upd_same⟩
          have e2 := hone rs' h e
          subst e2
          rw [fallB_yes h.fl] at ha
          cases ha
        | true =>
          refine iteX rfl ?_
          have eA4 := sm4 _ _ eA
          refine ⟨.ref D2, rfl, D2, rs.flatten, rfl, SqL.of eA4, by unfold scanBound; omega, fun p c hc np => ?_⟩
          refine ⟨p, _, c, rfl, upd_same, by omega, fun ⟨ks, kn, km, kl⟩ => ?_⟩
          have few := set_few kn km
          have sp := same_new (o := SetO w p (fun j => decide (j ∈ rs.flatten)) c) np
          refine ⟨.ref D2, rfl, D2, _, rfl, .inl (SqL.of (sp _ _ eA4)), _, _, rfl, rfl, _, rfl, ?_⟩
          by_cases hnd : rs.flatten.Nodup
          · refine iteX (decide_eq_false ?_) ?_
            · rw [List.length_map, ← kl, few.1 hnd]
              exact Int.lt_irrefl _
            · exact ⟨_, rfl, qy rs ⟨hne, hsm2, fallB_all ha, hnd⟩ hl2 _ D ts (s5.trans sp) (((hR.same (s3.trans sm4)).same sp).weaken fun z hz => sW.free hz)⟩
          · refine iteTx (decide_eq_true ?_) ?_
            · rw [List.length_map, ← kl]
              have := few.2 hnd
              omega
            · refine ⟨.str (S l), rfl, .str (S l), rfl, rd _, fun d' nd' => qn (fun rs' h e => ?_) _ d' ((s5.trans sp).trans (same_new nd')) upd_same⟩
              have e2 := hone rs' h e
              subst e2
              exact hnd h.nd
end
end El
namespace El
open PySem PySem.Spec PyProof.Rows L2 SX
theorem pick_sign {z : Str} {r : Int} (h : z.cps.toList.all (fun x => decide (x < 128)) = true) (h0 : 0 ≤ r) (h1 : r < (z.length : Int)) : ∃ c, atI z.cps.toList r = some c ∧ c < 128 := by
  obtain ⟨k, rfl⟩ : ∃ k : Nat, r = k := ⟨r.toNat, by omega⟩
  rw [TL.len_tl] at h1
  obtain ⟨c, e⟩ := at_some (l := z.cps.toList) (i := k) (by show k < (TL.tl z).length; omega)
  exact ⟨c, atI_nat e, of_decide_eq_true (List.all_eq_true.mp h c (List.mem_of_getElem? e))⟩
section
variable {P : Program} {w : World} {K : PySem.W.Frag} {mg : Str → Option Value} {base : Heap}
abbrev s__law_sign : Stmt := topS 39
abbrev N__law_sign : List Str := ["tray", "some"]
abbrev P__law_sign : List Str := ["tray"]
theorem sc__law_sign : FnScope N__law_sign P__law_sign (defScope s__law_sign) := ⟨rfl, rfl, rfl, by decide +kernel, rfl, by decide +kernel, by decide +kernel⟩
def sp__law_sign : Sp := fun vs H Q _ => ∃ (t g : Addr) (n : Nat), vs = [.ref t] ∧ Tray H t g n ∧ n ≤ 900000000 ∧ ∀ H' c, Kp (Off t g) H H' → Tray H' t g (n + 2) → c < 128 → Q (.str (S [c])) H'
theorem ok__law_sign (A : At K mg "_law_sign" P__law_sign s__law_sign) (B : Bi mg) (D__law_draw : Df P w K mg base 1 "_law_draw" P__law_draw s__law_draw sp__law_draw) : Df P w K mg base 2 "_law_sign" P__law_sign s__law_sign sp__law_sign := by
  refine A.df fun f fd F => F.ok sc__law_sign (fun vs H Q E h => ?_) (fun cdv AA outer s H vs Q E hr h => ?_)
  · obtain ⟨_, _, _, rfl, _⟩ := h
    rfl
  · obtain ⟨t, g, n, rfl, hT, hn, q⟩ := h
    have nd := sc__law_sign.nd
    refine ⟨_, (pss_cons (ps_if (pt_cmpR op_eq (pe_df D__law_draw (hr.mono (by decide)) (by rfl) (pa_cons (pv 0) (pa_cons pe_int pa_nil))) pe_int (nomark _)) (pss_cons (ps_set (i := 1) nd rfl (.inl rfl) pe_str) (pss_one (ps_ret (pe_ix ix_str (pv 1) (pe_df D__law_draw (hr.mono (by decide)) (by rfl) (pa_cons (pv 0) (pa_cons (pe_callB call_len_str (by rfl) B.len PySem.boot_len (pa_cons (pv 1) pa_nil)) pa_nil))) (fun _ _ => rfl))))) pss_nil)
    (pss_cons (ps_set (i := 1) nd rfl (.inl rfl) pe_str)
    (pss_cons (ps_set (i := 1) nd rfl (.inl rfl) (pe_op op_add_str (pv 1) pe_str))
    (pss_one (ps_ret (pe_ix ix_str (pv 1) (pe_df D__law_draw (hr.mono (by decide)) (by rfl) (pa_cons (pv 0) (pa_cons (pe_callB call_len_str (by rfl) B.len PySem.boot_len (pa_cons (pv 1) pa_nil)) pa_nil))) (fun _ _ => rfl))))))), ?_⟩
    refine ⟨.ref t, rfl, t, g, _, 2, rfl, hT, by omega, by decide, by decide, fun H1 r1 k1 T1 a1 b1 => ⟨rfl, _, rfl, ?_⟩⟩
    by_cases h1 : r1 = 0
    · refine ifY (by rw [h1]; rfl) ?_
      dsimp only [gName]
      refine ⟨_, rfl, .ref t, rfl, _, rfl, _, rfl, (by decide +kernel), t, g, _, _, rfl, T1, by omega, (by decide +kernel), (by decide +kernel), fun H2 r2 k2 T2 a2 b2 => ?_⟩
      obtain ⟨c, ec, hc⟩ := pick_sign (by decide +kernel) a2 b2
      exact ⟨_, r2, c, rfl, rfl, (by decide +kernel), ec, q H2 c (k1.trans k2) T2 hc⟩
    · refine ifN (by show decide (V.int r1 = V.int 0) = false; simp [h1]) ?_
      refine ⟨_, rfl, _, _, rfl, rfl, (by decide +kernel), ?_⟩
      dsimp only [gName]
      refine ⟨_, rfl, .ref t, rfl, _, rfl, _, rfl, (by decide +kernel), t, g, _, _, rfl, T1, by omega, (by decide +kernel), (by decide +kernel), fun H2 r2 k2 T2 a2 b2 => ?_⟩
      obtain ⟨c, ec, hc⟩ := pick_sign (by decide +kernel) a2 b2
      exact ⟨_, r2, c, rfl, rfl, (by decide +kernel), ec, q H2 c (k1.trans k2) T2 hc⟩
end
end El
namespace El
open PySem PySem.Spec PyProof.Rows L2 SX
section
variable {P : Program} {w : World} {K : PySem.W.Frag} {mg : Str → Option Value} {base : Heap}
abbrev s__law_parts_spoilt : Stmt := topS 40
abbrev N__law_parts_spoilt : List Str := ["tray", "line", "odd", "joint", "parts", "at", "spot", "lot"]
abbrev P__law_parts_spoilt : List Str := ["tray", "line", "odd"]
theorem sc__law_parts_spoilt : FnScope N__law_parts_spoilt P__law_parts_spoilt (defScope s__law_parts_spoilt) := ⟨rfl, rfl, rfl, by decide +kernel, rfl, by decide +kernel, by decide +kernel⟩
/-- the odd ones -/
def OddAt (H : Hp) (o : Addr) (os : List (List Nat)) : Prop := H o = some (.lst (txs os)) ∧ Lows os ∧ (∀ p ∈ os, p.length ≤ 70) ∧ 0 < os.length ∧ os.length ≤ 100
def sp__law_parts_spoilt : Sp := fun vs H Q _ => ∃ (t g o : Addr) (n : Nat) (l : List Nat) (os : List (List Nat)), vs = [.ref t, .str (S l), .ref o] ∧ Tray H t g n ∧ n ≤ 900000000 ∧ Low l ∧ l.length ≤ 30000 ∧ OddAt H o os ∧ Off t g o ∧
  ∀ H' l', Kp (Off t g) H H' → Tray H' t g (n + 10) → Low l' → l'.length ≤ 3 * l.length + 100 → Q (.str (S l')) H'
theorem ok__law_parts_spoilt (A : At K mg "_law_parts_spoilt" P__law_parts_spoilt s__law_parts_spoilt) (B : Bi mg) (D__law_draw : Df P w K mg base 1 "_law_draw" P__law_draw s__law_draw sp__law_draw) : Df P w K mg base 2 "_law_parts_spoilt" P__law_parts_spoilt s__law_parts_spoilt sp__law_parts_spoilt := by
  refine A.df fun f fd F => F.ok sc__law_parts_spoilt (fun vs H Q E h => ?_) (fun cdv AA outer s H vs Q E hr h => ?_)
  · obtain ⟨_, _, _, _, _, _, rfl, _⟩ := h
    rfl
  · obtain ⟨t, g, o, n, l, os, rfl, hT, hn, hlow, hl, hO, oo, q⟩ := h
    have nd := sc__law_parts_spoilt.nd
    refine ⟨_, (pss_cons (ps_set (i := 3) nd rfl (.inl rfl) (pe_ix ix_list (pe_lst (pa_cons pe_str (pa_cons pe_str (pa_cons pe_str (pa_cons pe_str (pa_cons pe_str pa_nil)))))) (pe_df D__law_draw (hr.mono (by decide)) (by rfl) (pa_cons (pv 0) (pa_cons pe_int pa_nil))) (fun _ _ => rfl)))
    (pss_cons (ps_set (i := 4) nd rfl (.inl rfl) (pe_bm PySem.F.plainAttrs_str PySem.F.slot_str_split PySem.F.type_str_split mt_split (pv 1) (pa_cons (pv 3) pa_nil)))
    (pss_cons (ps_set (i := 5) nd rfl (.inl rfl) (pe_df D__law_draw (hr.mono (by decide)) (by rfl) (pa_cons (pv 0) (pa_cons (pe_callB call_len_seq (by rfl) B.len PySem.boot_len (pa_cons (pv 4) pa_nil)) pa_nil))))
    (pss_cons (ps_set (i := 6) nd rfl (.inl rfl) (pe_df D__law_draw (hr.mono (by decide)) (by rfl) (pa_cons (pv 0) (pa_cons (pe_callB call_len_seq (by rfl) B.len PySem.boot_len (pa_cons (pv 4) pa_nil)) pa_nil))))
    (pss_cons (ps_set (i := 7) nd rfl (.inl rfl) (pe_df D__law_draw (hr.mono (by decide)) (by rfl) (pa_cons (pv 0) (pa_cons pe_int pa_nil))))
    (pss_cons (ps_if (pt_cmpR op_eq (pv 7) pe_int (nomark _)) (pss_one (ps_set (i := 4) nd rfl (.inl rfl) (pe_op op_cat (pe_slice sl_list (pv 4) po_none (po_some (pv 5))) (pe_slice sl_list (pv 4) (po_some (pe_op op_add (pv 5) pe_int)) po_none)))) (pss_one (ps_if (pt_cmpR op_eq (pv 7) pe_int (nomark _)) (pss_one (ps_set (i := 4) nd rfl (.inl rfl) (pe_op op_cat (pe_op op_cat (pe_slice sl_list (pv 4) po_none (po_some (pv 5))) (pe_slice sl_list (pv 4) (po_some (pv 5)) (po_some (pe_op op_add (pv 5) pe_int)))) (pe_slice sl_list (pv 4) (po_some (pv 5)) po_none)))) (pss_one (ps_if (pt_cmpR op_eq (pv 7) pe_int (nomark _)) (pss_one (ps_asg (pe_tup (pa_cons (pe_ix ix_list (pv 4) (pv 6) (fun _ _ => rfl)) (pa_cons (pe_ix ix_list (pv 4) (pv 5) (fun _ _ => rfl)) pa_nil))) (pg_tup (by rfl) (pgs_cons (pg_sub (pv 4) (pv 5) set_list) (pgs_cons (pg_sub (pv 4) (pv 6) set_list) pgs_nil))))) (pss_one (ps_asg (pe_ix ix_list (pv 2) (pe_df D__law_draw (hr.mono (by decide)) (by rfl) (pa_cons (pv 0) (pa_cons (pe_callB call_len_seq (by rfl) B.len PySem.boot_len (pa_cons (pv 2) pa_nil)) pa_nil))) (fun _ _ => rfl)) (pg_sub (pv 4) (pv 5) set_list))))))))
    (pss_one (ps_ret (pe_bm PySem.F.plainAttrs_str PySem.F.slot_str_join PySem.F.type_str_join mt_join (pv 3) (pa_cons (pv 4) pa_nil)))))))))), ?_⟩
    refine ⟨(by show 5 ≤ sizeLine; decide), fun p np => ?_⟩
    have op : Off t g p := hT.off np
    refine ⟨.ref t, rfl, t, g, _, 5, rfl, hT.mut op, by omega, by decide, by decide, fun H1 r1 k1 T1 a1 b1 => ?_⟩
    obtain ⟨v, hv, mv⟩ := at_pick (xs := [V.str " ", .str ":", .str "x", .str ",", .str " | "]) a1 b1
    have hv' : ∃ sep, v = .str (S sep) ∧ sep ≠ [] ∧ Low sep ∧ sep.length ≤ 3 := by
      rcases List.mem_cons.mp mv with rfl | mv
      · exact ⟨[32], by rw [one_S.2.2.1], by simp, low_of (by decide), by decide⟩
      rcases List.mem_cons.mp mv with rfl | mv
      · exact ⟨[58], by rw [one_S.2.1], by simp, low_of (by decide), by decide⟩
      rcases List.mem_cons.mp mv with rfl | mv
      · exact ⟨[120], by rw [one_S.1], by simp, low_of (by decide), by decide⟩
      rcases List.mem_cons.mp mv with rfl | mv
      · exact ⟨[44], by rw [one_S.2.2.2.1], by simp, low_of (by decide), by decide⟩
      rw [List.mem_singleton.mp mv]
      exact ⟨[32, 124, 32], by rw [one_S.2.2.2.2.2], by simp, low_of (by decide), by decide⟩
    obtain ⟨sep, rfl, hsep, lsep, nsep⟩ := hv'
    refine ⟨p, _, _, _, rfl, rfl, SqL.of (k1 _ _ op upd_same), hv, ?_⟩
    have hO1 := k1 _ _ oo (same_new (o := .lst [V.str " ", .str ":", .str "x", .str ",", .str " | "]) np _ _ hO.1)
    have k01 : Kp (Off t g) H H1 := (Kp.of (same_new np)).trans k1
    clear k1
    dsimp only [gName]
    refine ⟨.str (S l), rfl, rfl, .str (S sep), rfl, S l, S sep, rfl, rfl, ?_, by rw [S_len]; exact ils (by omega), ?_⟩
    · rw [S_len]
      cases sep with
      | nil => exact absurd rfl hsep
      | cons _ _ => rfl
    rw [split_S hsep (by rw [List.all_eq_true]; intro x m; exact decide_eq_true (Nat.lt_trans (lsep x m) (by decide)))]
    have hbig := big_spl sep hsep l 0 [] (Nat.zero_le _)
    have hlows : Lows (TL.spl sep 0 [] l) := spl_low sep l 0 [] (fun x m => absurd m List.not_mem_nil) hlow
    have hmany := spl_many sep l 0 []
    have hne := List.length_pos_iff.mpr (spl_ne sep l 0 [])
    revert hbig hlows hmany hne
    generalize TL.spl sep 0 [] l = ps
    intro hbig hlows hmany hne D nD
    rw [List.length_nil] at hbig
    have eD : upd H1 D (.lst (txs ps)) D = some (.lst (txs ps)) := upd_same
    have sD := same_new (o := .lst (txs ps)) nD
    have oD : Off t g D := T1.off nD
    have T2 := T1.keep sD
    have hO2 := sD _ _ hO1
    have k02 := k01.trans (.of sD)
    have hD0 : H D = none := by
      cases e : H D with
      | none => rfl
      | some u =>
        have := k01 _ _ oD e
        rw [nD] at this
        cases this
    show (fun H2 => _) (upd H1 D (.lst (txs ps)))
    revert eD T2 hO2 k02
    generalize upd H1 D (.lst (txs ps)) = H2
    clear k01 hO1 sD T1
    intro eD T2 hO2 k02
    dsimp only [gName]
    -- at
    refine ⟨.ref t, rfl, .ref D, rfl, D, _, rfl, .inl (SqL.of eD), t, g, _, _, rfl, T2, by omega, ?_, ?_, fun H3 r3 k3 T3 a3 b3 => ?_⟩
    · rw [txs_len]
      omega
    · rw [txs_len]
      exact Int.lt_of_lt_of_le (show (ps.length : Int) < 100001 by omega) (by decide)
    rw [txs_len] at b3
    have eD3 := k3 _ _ oD eD
    obtain ⟨i, rfl⟩ : ∃ i : Nat, r3 = i := ⟨r3.toNat, by omega⟩
    dsimp only [gName]
    -- spot
    refine ⟨.ref t, rfl, .ref D, rfl, D, _, rfl, .inl (SqL.of eD3), t, g, _, _, rfl, T3, by omega, ?_, ?_, fun H4 r4 k4 T4 a4 b4 => ?_⟩
    · rw [txs_len]
      omega
    · rw [txs_len]
      exact Int.lt_of_lt_of_le (show (ps.length : Int) < 100001 by omega) (by decide)
    rw [txs_len] at b4
    have eD4 := k4 _ _ oD eD3
    obtain ⟨j, rfl⟩ : ∃ j : Nat, r4 = j := ⟨r4.toNat, by omega⟩
    dsimp only [gName]
    -- lot
    refine ⟨.ref t, rfl, t, g, _, 5, rfl, T4, by omega, by decide, by decide, fun H5 r5 k5 T5 a5 b5 => ?_⟩
    have eD5 := k5 _ _ oD eD4
    have hO5 := k5 _ _ oo (k4 _ _ oo (k3 _ _ oo hO2))
    have k05 := k02.trans (k3.trans (k4.trans k5))
    clear k02 k3 k4 k5 eD eD3 eD4 T2 T3 T4 hO2
    dsimp only [gName]
    refine seq_to (fun σ H6 => ∃ (p6 : Addr) (qs : List (List Nat)) (y5 y6 y7 : Option V), σ = [some (.ref t), some (.str (S l)), some (.ref o), some (.str (S sep)), some (.ref p6), y5, y6, y7] ∧ Kp (Off t g) H H6 ∧ Tray H6 t g (n + 6) ∧ H6 p6 = some (.lst (txs qs)) ∧ Lows qs ∧ big sep qs ≤ 3 * l.length + 100) (fun Y hY => ?_) (fun σ H6 hE => ?_)
    · refine ⟨_, rfl, rfl, _, rfl, ?_⟩
      have hi : i < ps.length := by omega
      have hj : j < ps.length := by omega
      have i1 : ((i : Int) + 1) = ((i + 1 : Nat) : Int) := rfl
      by_cases h0 : r5 = 0
      · refine ifY (by rw [h0]; rfl) ?_
        refine ⟨.ref D, rfl, .int i, rfl, _, rfl, D, _, rfl, SqL.of eD5, fun p7 n7 => ?_⟩
        rw [cut_to, txs_take]
        have s7 := same_new (o := .lst (txs (ps.take i))) n7
        refine ⟨.ref D, rfl, .int i, rfl, _, _, rfl, rfl, _, rfl, D, _, rfl, SqL.of (s7 _ _ eD5), fun p8 n8 => ?_⟩
        rw [i1, cut_from, txs_drop]
        have s8 := same_new (o := .lst (txs (ps.drop (i + 1)))) n8
        refine ⟨p7, p8, _, _, rfl, rfl, s8 _ _ upd_same, upd_same, ?_, fun p9 n9 => ?_⟩
        · rw [txs_len, txs_len, List.length_take, List.length_drop]
          exact Nat.le_trans (show min i ps.length + (ps.length - (i + 1)) ≤ 100000 by omega) (by decide)
        rw [txs_cat]
        have s9 := same_new (o := .lst (txs (ps.take i ++ ps.drop (i + 1)))) n9
        have sA := s7.trans (s8.trans s9)
        dsimp only [gName]
        refine hY _ _ ⟨p9, ps.take i ++ ps.drop (i + 1), _, _, _, rfl, k05.trans (.of sA), (T5.keep sA).more (by omega), upd_same, (hlows.take i).cat (hlows.drop (i + 1)), ?_⟩
        have h1 := big_cut sep ps i
        have h2 := big_cut sep (ps.drop i) 1
        rw [List.drop_drop] at h2
        rw [big_cat]
        omega
      · refine ifN (by show decide (V.int r5 = V.int 0) = false; simp [h0]) ?_
        refine ⟨_, rfl, rfl, _, rfl, ?_⟩
        by_cases h1 : r5 = 1
        · refine ifY (by rw [h1]; rfl) ?_
          refine ⟨.ref D, rfl, .int i, rfl, _, rfl, D, _, rfl, SqL.of eD5, fun p7 n7 => ?_⟩
          rw [cut_to, txs_take]
          have s7 := same_new (o := .lst (txs (ps.take i))) n7
          refine ⟨.ref D, rfl, .int i, rfl, _, rfl, .int i, rfl, _, _, rfl, rfl, _, rfl, D, _, rfl, SqL.of (s7 _ _ eD5), fun p8 n8 => ?_⟩
          rw [cut_at, txs_drop, txs_take]
          have s8 := same_new (o := .lst (txs ((ps.drop i).take 1))) n8
          refine ⟨p7, p8, _, _, rfl, rfl, s8 _ _ upd_same, upd_same, ?_, fun p9 n9 => ?_⟩
          · rw [txs_len, txs_len, List.length_take, List.length_take, List.length_drop]
            exact Nat.le_trans (show min i ps.length + min 1 (ps.length - i) ≤ 100000 by omega) (by decide)
          rw [txs_cat]
          have s9 := same_new (o := .lst (txs (ps.take i ++ (ps.drop i).take 1))) n9
          refine ⟨.ref D, rfl, .int i, rfl, _, rfl, D, _, rfl, SqL.of (s9 _ _ (s8 _ _ (s7 _ _ eD5))), fun p10 n10 => ?_⟩
          rw [cut_from, txs_drop]
          have s10 := same_new (o := .lst (txs (ps.drop i))) n10
          refine ⟨p9, p10, _, _, rfl, rfl, s10 _ _ upd_same, upd_same, ?_, fun p11 n11 => ?_⟩
          · rw [txs_len, txs_len, List.length_append, List.length_take, List.length_take, List.length_drop]
            exact Nat.le_trans (show min i ps.length + min 1 (ps.length - i) + (ps.length - i) ≤ 100000 by omega) (by decide)
          rw [txs_cat]
          have s11 := same_new (o := .lst (txs (ps.take i ++ (ps.drop i).take 1 ++ ps.drop i))) n11
          have sA := s7.trans (s8.trans (s9.trans (s10.trans s11)))
          dsimp only [gName]
          refine hY _ _ ⟨p11, ps.take i ++ (ps.drop i).take 1 ++ ps.drop i, _, _, _, rfl, k05.trans (.of sA), (T5.keep sA).more (by omega), upd_same, ((hlows.take i).cat ((hlows.drop i).take 1)).cat (hlows.drop i), ?_⟩
          have h3 := big_cut sep ps i
          have h4 := big_cut sep (ps.drop i) 1
          rw [big_cat, big_cat]
          omega
        · refine ifN (by show decide (V.int r5 = V.int 1) = false; simp [h1]) ?_
          refine ⟨_, rfl, rfl, _, rfl, ?_⟩
          by_cases h2 : r5 = 2
          · refine ifY (by rw [h2]; rfl) ?_
            obtain ⟨pi, epi⟩ := at_some hi
            obtain ⟨pj, epj⟩ := at_some hj
            refine ⟨.ref D, rfl, .int j, rfl, D, _, _, _, rfl, rfl, SqL.of eD5, atI_nat (txs_at epj), .ref D, rfl, .int i, rfl, D, _, _, _, rfl, rfl, SqL.of eD5, atI_nat (txs_at epi), (by show 2 ≤ sizeLine; decide), fun p7 n7 => ?_⟩
            have s7 := same_new (o := .tup [V.str (S pj), .str (S pi)]) n7
            refine ⟨p7, _, rfl, SqT.of upd_same, rfl, _, _, rfl, .ref D, rfl, .int i, rfl, D, _, _, i, rfl, rfl, s7 _ _ eD5, ixN_of (by rw [txs_len]; exact hi), ?_⟩
            rw [txs_set]
            refine ⟨_, _, rfl, .ref D, rfl, .int j, rfl, D, _, _, j, rfl, rfl, upd_same, ixN_of (by rw [txs_len, List.length_set]; exact hj), ?_⟩
            rw [txs_set]
            refine ⟨rfl, hY _ _ ⟨D, (ps.set i pj).set j pi, _, _, _, rfl, ?_, ?_, upd_same, (hlows.set (hlows pj (List.mem_of_getElem? epj)) i).set (hlows pi (List.mem_of_getElem? epi)) j, ?_⟩⟩
            · exact Kp.mutF (Kp.mutF (k05.trans (.of s7)) hD0) hD0
            · exact (((T5.keep s7).mut oD).mut oD).more (by omega)
            · have g1 := big_set (sep := sep) (p := pj) hi
              have g2 := big_set (sep := sep) (a := ps.set i pj) (p := pi) (i := j) (by rw [List.length_set]; exact hj)
              have g3 := big_mem (sep := sep) epi
              have g4 := big_mem (sep := sep) epj
              omega
          · refine ifN (by show decide (V.int r5 = V.int 2) = false; simp [h2]) ?_
            refine ⟨.ref o, rfl, .ref t, rfl, .ref o, rfl, o, _, rfl, .inl (SqL.of hO5), t, g, _, _, rfl, T5, by omega, ?_, ?_, fun H6 r6 k6 T6 a6 b6 => ?_⟩
            · rw [txs_len]
              have := hO.2.2.2.1
              omega
            · rw [txs_len]
              exact Int.lt_of_lt_of_le (show (os.length : Int) < 101 by have := hO.2.2.2.2; omega) (by decide)
            rw [txs_len] at b6
            obtain ⟨m, rfl⟩ : ∃ m : Nat, r6 = m := ⟨r6.toNat, by omega⟩
            obtain ⟨po, epo⟩ := at_some (l := os) (i := m) (by omega)
            have eD6 := k6 _ _ oD eD5
            have hO6 := k6 _ _ oo hO5
            refine ⟨o, _, _, _, rfl, rfl, SqL.of hO6, atI_nat (txs_at epo), .ref D, rfl, .int i, rfl, D, _, _, i, rfl, rfl, eD6, ixN_of (by rw [txs_len]; exact hi), ?_⟩
            rw [txs_set]
            refine hY _ _ ⟨D, ps.set i po, _, _, _, rfl, ?_, ?_, upd_same, hlows.set (hO.2.1 po (List.mem_of_getElem? epo)) i, ?_⟩
            · exact Kp.mutF (k05.trans k6) hD0
            · exact (T6.mut oD).more (by omega)
            · have g1 := big_set (sep := sep) (p := po) hi
              have g2 := hO.2.2.1 po (List.mem_of_getElem? epo)
              omega
    · obtain ⟨p6, qs, y5, y6, y7, rfl, k06, T6, e6, hq, hb⟩ := hE
      refine ⟨.str (S sep), rfl, rfl, .ref p6, rfl, S sep, p6, qs.map S, rfl, rfl, .inl (SqL.of e6), ?_, ?_⟩
      · rw [len_sum]
        omega
      · rw [join_S]
        exact q _ _ k06 (T6.more (by omega)) (joined_low lsep hq) (Nat.le_trans (joinL_big sep qs) hb)
end
end El
namespace El
open PySem PySem.Spec PyProof.Rows L2 SX
section
variable {P : Program} {w : World} {K : PySem.W.Frag} {mg : Str → Option Value} {base : Heap}
abbrev s__law_spoilt : Stmt := topS 41
abbrev N__law_spoilt : List Str := ["tray", "line", "odd", "lot", "at"]
abbrev P__law_spoilt : List Str := ["tray", "line", "odd"]
theorem sc__law_spoilt : FnScope N__law_spoilt P__law_spoilt (defScope s__law_spoilt) := ⟨rfl, rfl, rfl, by decide +kernel, rfl, by decide +kernel, by decide +kernel⟩
def sp__law_spoilt : Sp := fun vs H Q _ => ∃ (t g o : Addr) (n : Nat) (l : List Nat) (os : List (List Nat)), vs = [.ref t, .str (S l), .ref o] ∧ Tray H t g n ∧ n ≤ 800000000 ∧ Low l ∧ l.length ≤ 30000 ∧ OddAt H o os ∧ Off t g o ∧
  ∀ H' l', Kp (Off t g) H H' → Tray H' t g (n + 15) → Low l' → l'.length ≤ 3 * l.length + 100 → Q (.str (S l')) H'
theorem ok__law_spoilt (A : At K mg "_law_spoilt" P__law_spoilt s__law_spoilt) (B : Bi mg) (D__law_draw : Df P w K mg base 1 "_law_draw" P__law_draw s__law_draw sp__law_draw) (D__law_sign : Df P w K mg base 2 "_law_sign" P__law_sign s__law_sign sp__law_sign)
    (D__law_parts_spoilt : Df P w K mg base 2 "_law_parts_spoilt" P__law_parts_spoilt s__law_parts_spoilt sp__law_parts_spoilt) : Df P w K mg base 3 "_law_spoilt" P__law_spoilt s__law_spoilt sp__law_spoilt := by
  refine A.df fun f fd F => F.ok sc__law_spoilt (fun vs H Q E h => ?_) (fun cdv AA outer s H vs Q E hr h => ?_)
  · obtain ⟨_, _, _, _, _, _, rfl, _⟩ := h
    rfl
  · obtain ⟨t, g, o, n, l, os, rfl, hT, hn, hlow, hl, hO, oo, q⟩ := h
    have nd := sc__law_spoilt.nd
    refine ⟨_, (pss_cons (ps_set (i := 3) nd rfl (.inl rfl) (pe_df D__law_draw (hr.mono (by decide)) (by rfl) (pa_cons (pv 0) (pa_cons pe_int pa_nil))))
    (pss_cons (ps_set (i := 4) nd rfl (.inl rfl) (pe_df D__law_draw (hr.mono (by decide)) (by rfl) (pa_cons (pv 0) (pa_cons (pe_op op_add (pe_callB call_len_str (by rfl) B.len PySem.boot_len (pa_cons (pv 1) pa_nil)) pe_int) pa_nil))))
    (pss_cons (ps_if (pt_cmpR op_eq (pv 3) pe_int (nomark _)) (pss_one (ps_ret (pe_op op_add_str (pe_op op_add_str (pe_slice C8.sl_txt (pv 1) po_none (po_some (pv 4))) (pe_df D__law_sign (hr.mono (by decide)) (by rfl) (pa_cons (pv 0) pa_nil))) (pe_slice C8.sl_txt (pv 1) (po_some (pv 4)) po_none)))) pss_nil)
    (pss_cons (ps_if (pt_cmpR op_eq (pv 3) pe_int (nomark _)) (pss_one (ps_ret (pe_op op_add_str (pe_slice C8.sl_txt (pv 1) po_none (po_some (pv 4))) (pe_slice C8.sl_txt (pv 1) (po_some (pe_op op_add (pv 4) pe_int)) po_none)))) pss_nil)
    (pss_cons (ps_if (pt_cmpR op_eq (pv 3) pe_int (nomark _)) (pss_one (ps_ret (pe_op op_add_str (pe_op op_add_str (pe_slice C8.sl_txt (pv 1) po_none (po_some (pv 4))) (pe_df D__law_sign (hr.mono (by decide)) (by rfl) (pa_cons (pv 0) pa_nil))) (pe_slice C8.sl_txt (pv 1) (po_some (pe_op op_add (pv 4) pe_int)) po_none)))) pss_nil)
    (pss_one (ps_ret (pe_df D__law_parts_spoilt (hr.mono (by decide)) (by rfl) (pa_cons (pv 0) (pa_cons (pv 1) (pa_cons (pv 2) pa_nil))))))))))), ?_⟩
    refine ⟨.ref t, rfl, t, g, _, 6, rfl, hT, by omega, by decide, by decide, fun H1 r1 k1 T1 a1 b1 => ?_⟩
    dsimp only [gName]
    have small : (S l).length ≤ sizeLine := by rw [S_len]; exact ile (by omega)
    refine ⟨.ref t, rfl, .str (S l), rfl, S l, rfl, small, _, _, rfl, rfl, t, g, _, _, rfl, T1, by omega, ?_, ?_, fun H2 r2 k2 T2 a2 b2 => ?_⟩
    · rw [S_len]
      omega
    · rw [S_len]
      exact Int.lt_of_lt_of_le (show (l.length : Int) + 1 < 100001 by omega) (by decide)
    rw [S_len] at b2
    obtain ⟨i, rfl⟩ : ∃ i : Nat, r2 = i := ⟨r2.toNat, by omega⟩
    have hi : i ≤ l.length := by omega
    have i1 : ((i : Int) + 1) = ((i + 1 : Nat) : Int) := rfl
    have k02 := k1.trans k2
    dsimp only [gName]
    have put : ∀ (c : Nat) (m : Nat) (H3 : Hp) (n3 : Nat), c < 128 → i ≤ m → m ≤ i + 1 → Kp (Off t g) H H3 → Tray H3 t g n3 → n3 ≤ n + 15 → Q (.str (S (l.take i ++ [c] ++ l.drop m))) H3 := fun c m H3 n3 hc h1 h2 k3 T3 h3 => by
      refine q _ _ k3 (T3.more h3) (low_cat (low_cat (low_take hlow i) fun x mx => by rw [List.mem_singleton.mp mx]; exact hc) (low_drop hlow m)) ?_
      simp only [List.length_append, List.length_take, List.length_drop, List.length_singleton]
      omega
    refine ⟨_, rfl, rfl, _, rfl, ?_⟩
    by_cases h0 : r1 = 0
    · refine ifY (by rw [h0]; rfl) ?_
      refine ⟨.str (S l), rfl, .int i, rfl, _, rfl, S l, rfl, small, .ref t, rfl, t, g, _, rfl, T2, by omega, fun H3 c k3 T3 hc => ?_⟩
      rw [slice_to (by omega), Int.toNat_natCast]
      refine ⟨_, _, rfl, rfl, ?_, .str (S l), rfl, .int i, rfl, _, rfl, S l, rfl, small, ?_⟩
      · rw [S_len, S_len, List.length_take]
        exact Nat.le_trans (show min i l.length + 1 ≤ 100000 by omega) (by decide)
      rw [slice_from (by omega), Int.toNat_natCast, S_cat]
      refine ⟨_, _, rfl, rfl, ?_, ?_⟩
      · rw [S_len, S_len, List.length_append, List.length_take, List.length_drop]
        exact Nat.le_trans (show min i l.length + 1 + (l.length - i) ≤ 100000 by omega) (by decide)
      · rw [S_cat]
        exact put c i H3 _ hc (Nat.le_refl _) (Nat.le_succ _) (k02.trans k3) T3 (by omega)
    · refine ifN (by show decide (V.int r1 = V.int 0) = false; simp [h0]) ?_
      dsimp only [tNext]
      refine ⟨_, rfl, rfl, _, rfl, ?_⟩
      by_cases h1 : r1 = 1
      · refine ifY (by rw [h1]; rfl) ?_
        refine ⟨.str (S l), rfl, .int i, rfl, _, rfl, S l, rfl, small, .str (S l), rfl, .int i, rfl, _, _, rfl, rfl, _, rfl, S l, rfl, small, ?_⟩
        rw [slice_to (by omega), Int.toNat_natCast, i1, slice_from (by omega), Int.toNat_natCast]
        refine ⟨_, _, rfl, rfl, ?_, ?_⟩
        · rw [S_len, S_len, List.length_take, List.length_drop]
          exact Nat.le_trans (show min i l.length + (l.length - (i + 1)) ≤ 100000 by omega) (by decide)
        · rw [S_cat]
          refine q _ _ k02 (T2.more (by omega)) (low_cat (low_take hlow i) (low_drop hlow (i + 1))) ?_
          simp only [List.length_append, List.length_take, List.length_drop]
          omega
      · refine ifN (by show decide (V.int r1 = V.int 1) = false; simp [h1]) ?_
        dsimp only [tNext]
        refine ⟨_, rfl, rfl, _, rfl, ?_⟩
        by_cases h2 : r1 = 2
        · refine ifY (by rw [h2]; rfl) ?_
          refine ⟨.str (S l), rfl, .int i, rfl, _, rfl, S l, rfl, small, .ref t, rfl, t, g, _, rfl, T2, by omega, fun H3 c k3 T3 hc => ?_⟩
          rw [slice_to (by omega), Int.toNat_natCast]
          refine ⟨_, _, rfl, rfl, ?_, .str (S l), rfl, .int i, rfl, _, _, rfl, rfl, _, rfl, S l, rfl, small, ?_⟩
          · rw [S_len, S_len, List.length_take]
            exact Nat.le_trans (show min i l.length + 1 ≤ 100000 by omega) (by decide)
          rw [i1, slice_from (by omega), Int.toNat_natCast, S_cat]
          refine ⟨_, _, rfl, rfl, ?_, ?_⟩
          · rw [S_len, S_len, List.length_append, List.length_take, List.length_drop]
            exact Nat.le_trans (show min i l.length + 1 + (l.length - (i + 1)) ≤ 100000 by omega) (by decide)
          · rw [S_cat]
            exact put c (i + 1) H3 _ hc (Nat.le_succ _) (Nat.le_refl _) (k02.trans k3) T3 (by omega)
        · refine ifN (by show decide (V.int r1 = V.int 2) = false; simp [h2]) ?_
          dsimp only [tNext]
          exact ⟨.ref t, rfl, .str (S l), rfl, .ref o, rfl, t, g, o, _, l, os, rfl, T2, by omega, hlow, hl, ⟨k02 _ _ oo hO.1, hO.2⟩, oo, fun H3 l' k3 T3 h1 h2 => q H3 l' (k02.trans k3) (T3.more (by omega)) h1 h2⟩
end
end El
namespace El
open PySem PySem.Spec PyProof.Rows L2 SX
theorem mo30 : MulOk (Str.ofString "9") 30 := ⟨by decide +kernel, by decide +kernel, by decide +kernel⟩
theorem mo31 : MulOk (Str.ofString "9") 31 := ⟨by decide +kernel, by decide +kernel, by decide +kernel⟩
def okV : V → Bool
  | .str s => s.cps.toList.all (fun x => decide (x < 128)) && decide (s.cps.toList.length ≤ 70)
  | _ => false
theorem odd_list : ∀ {xs : List V}, xs.all okV = true → ∃ os, xs = txs os ∧ Lows os ∧ ∀ p ∈ os, p.length ≤ 70
  | [], _ => ⟨[], rfl, fun p m => absurd m List.not_mem_nil, fun p m => absurd m List.not_mem_nil⟩
  | v :: xs, h => by
    rw [List.all_cons, Bool.and_eq_true] at h
    obtain ⟨os, rfl, h1, h2⟩ := odd_list h.2
    match v, h.1 with
    | .str s, hs =>
      have hs' : (s.cps.toList.all (fun x => decide (x < 128)) && decide (s.cps.toList.length ≤ 70)) = true := hs
      rw [Bool.and_eq_true, decide_eq_true_iff] at hs'
      refine ⟨s.cps.toList :: os, rfl, fun p m => ?_, fun p m => ?_⟩
      · rcases List.mem_cons.mp m with rfl | m
        · exact low_of hs'.1
        · exact h1 p m
      · rcases List.mem_cons.mp m with rfl | m
        · exact hs'.2
        · exact h2 p m
theorem odd_at {H : Hp} {o : Addr} {xs : List V} (e : H o = some (.lst xs)) (h : xs.all okV = true) (h0 : 0 < xs.length) (h1 : xs.length ≤ 100) : ∃ os, OddAt H o os := by
  obtain ⟨os, rfl, a, b⟩ := odd_list h
  rw [txs_len] at h0 h1
  exact ⟨os, e, a, b, h0, h1⟩
section
variable {P : Program} {w : World} {K : PySem.W.Frag} {mg : Str → Option Value} {base : Heap}
abbrev s__law_odd : Stmt := topS 42
abbrev N__law_odd : List Str := ["some"]
abbrev P__law_odd : List Str := []
theorem sc__law_odd : FnScope N__law_odd P__law_odd (defScope s__law_odd) := ⟨rfl, rfl, rfl, by decide +kernel, rfl, by decide +kernel, by decide +kernel⟩
def sp__law_odd : Sp := fun vs H Q _ => vs = [] ∧ ∀ H' o os, Same H H' → H o = none → OddAt H' o os → Q (.ref o) H'
theorem ok__law_odd (A : At K mg "_law_odd" P__law_odd s__law_odd) (B : Bi mg) : Df P w K mg base 1 "_law_odd" P__law_odd s__law_odd sp__law_odd := by
  refine A.df fun f fd F => F.ok sc__law_odd (fun vs H Q E h => ?_) (fun cdv AA outer s H vs Q E hr h => ?_)
  · obtain ⟨rfl, _⟩ := h
    rfl
  · obtain ⟨rfl, q⟩ := h
    have nd := sc__law_odd.nd
    refine ⟨_, (pss_cons (ps_set (i := 0) nd rfl (.inl rfl) (pe_lst (pa_cons pe_str (pa_cons pe_str (pa_cons pe_str (pa_cons pe_str (pa_cons pe_str (pa_cons pe_str (pa_cons pe_str (pa_cons pe_str (pa_cons pe_str (pa_cons pe_str (pa_cons pe_str (pa_cons pe_str (pa_cons pe_str (pa_cons pe_str (pa_cons pe_str pa_nil)))))))))))))))))
    (pss_cons (ps_set (i := 0) nd rfl (.inl rfl) (pe_op op_cat (pv 0) (pe_lst (pa_cons pe_str (pa_cons pe_str (pa_cons pe_str (pa_cons pe_str (pa_cons pe_str (pa_cons pe_str (pa_cons pe_str (pa_cons pe_str (pa_cons pe_str (pa_cons pe_str (pa_cons pe_str (pa_cons pe_str pa_nil)))))))))))))))
    (pss_cons (ps_set (i := 0) nd rfl (.inl rfl) (pe_op op_cat (pv 0) (pe_lst (pa_cons pe_str (pa_cons pe_str (pa_cons pe_str (pa_cons (pe_op op_add_str (pe_op op_mulS pe_str pe_int) pe_str) (pa_cons (pe_op op_add_str (pe_op op_mulS pe_str pe_int) pe_str) (pa_cons (pe_op op_add_str pe_str (pe_op op_mulS pe_str pe_int)) (pa_cons (pe_op op_add_str (pe_op op_mulS pe_str pe_int) pe_str) pa_nil))))))))))
    (pss_one (ps_ret (pe_op op_cat (pv 0) (pe_lst (pa_cons (pe_op op_add_str pe_str (pe_op op_mulS pe_str pe_int)) (pa_cons pe_str (pa_cons pe_str (pa_cons pe_str (pa_cons pe_str (pa_cons pe_str (pa_cons pe_str (pa_cons pe_str pa_nil))))))))))))))), ?_⟩
    let I : Nat → L2.St → Hp → Prop := fun m σ H' => ∃ p xs, σ = [some (.ref p)] ∧ Same H H' ∧ H p = none ∧ H' p = some (.lst xs) ∧ xs.all okV = true ∧ 0 < xs.length ∧ xs.length ≤ m
    have step : ∀ {m k : Nat} {H1 H2 H3 : Hp} {p p3 : Addr} {xs ys : List V}, Same H H1 → H p = none → H1 p = some (.lst xs) → xs.all okV = true → 0 < xs.length → xs.length ≤ m → Same H1 H2 → H2 p3 = none → H3 = upd H2 p3 (.lst (xs ++ ys)) → ys.all okV = true → ys.length ≤ k → I (m + k) [some (.ref p3)] H3 := by
      intro m k H1 H2 H3 p p3 xs ys s1 np e ok pos few s2 n3 e3 ok2 few2
      subst e3
      refine ⟨p3, xs ++ ys, rfl, (s1.trans s2).trans (same_new n3), (s1.trans s2).free n3, upd_same, by rw [List.all_append, ok, ok2]; rfl, by rw [List.length_append]; omega, by rw [List.length_append]; omega⟩
    refine seq_to (I 15) (fun Y hY => ⟨by decide, fun p1 n1 => hY _ _ ⟨p1, _, rfl, same_new n1, n1, upd_same, by decide +kernel, by decide, by decide⟩⟩) (fun σ H1 hE => ?_)
    obtain ⟨p, xs, rfl, s1, np, e, ok, pos, few⟩ := hE
    refine seq_to (I (15 + 12)) (fun Y hY => ⟨.ref p, rfl, by decide, fun p2 n2 => ⟨p, p2, _, _, rfl, rfl, same_new n2 _ _ e, upd_same, Nat.le_trans (Nat.add_le_add few (show _ ≤ 12 by decide)) (by decide), fun p3 n3 => hY _ _ (step s1 np e ok pos few (same_new n2) n3 rfl (by decide +kernel) (by decide))⟩⟩) (fun σ H1 hE => ?_)
    clear s1 np e ok pos few
    obtain ⟨p, xs, rfl, s1, np, e, ok, pos, few⟩ := hE
    refine seq_to (I (15 + 12 + 7)) (fun Y hY => ?_) (fun σ H1 hE => ?_)
    · refine ⟨.ref p, rfl, _, _, rfl, rfl, mo30, _, _, rfl, rfl, by decide +kernel, _, _, rfl, rfl, mo31, _, _, rfl, rfl, by decide +kernel, _, _, rfl, rfl, mo31, _, _, rfl, rfl, by decide +kernel, _, _, rfl, rfl, mo31, _, _, rfl, rfl, by decide +kernel, by decide, fun p2 n2 => ?_⟩
      exact ⟨p, p2, _, _, rfl, rfl, same_new n2 _ _ e, upd_same, Nat.le_trans (Nat.add_le_add few (show _ ≤ 7 by decide)) (by decide), fun p3 n3 => hY _ _ (step s1 np e ok pos few (same_new n2) n3 rfl (by decide +kernel) (by decide))⟩
    · clear s1 np e ok pos few
      obtain ⟨p, xs, rfl, s1, np, e, ok, pos, few⟩ := hE
      refine ⟨.ref p, rfl, _, _, rfl, rfl, mo30, _, _, rfl, rfl, by decide +kernel, by decide, fun p2 n2 => ?_⟩
      have fin : ∀ {p3 : Addr} {H3 : Hp}, I (15 + 12 + 7 + 8) [some (.ref p3)] H3 → Q (.ref p3) H3 := fun {p3 H3} h => by
        obtain ⟨p4, xs4, e1, s4, n4, e4, ok4, pos4, few4⟩ := h
        obtain rfl : p3 = p4 := by
          injection e1 with e1
          injection e1 with e1
          injection e1
        obtain ⟨os, h⟩ := odd_at e4 ok4 pos4 (by omega)
        exact q _ _ os s4 n4 h
      exact ⟨p, p2, _, _, rfl, rfl, same_new n2 _ _ e, upd_same, Nat.le_trans (Nat.add_le_add few (show _ ≤ 8 by decide)) (by decide), fun p3 n3 => fin (step s1 np e ok pos few (same_new n2) n3 rfl (by decide +kernel) (by decide))⟩
end
end El
namespace El
open PySem PySem.Spec PyProof.Rows L2 SX
section
variable {P : Program} {w : World} {K : PySem.W.Frag} {mg : Str → Option Value} {base : Heap}
abbrev s__law_rooms_written : Stmt := topS 38
abbrev N__law_rooms_written : List Str := ["line", "words", "room", "age"]
abbrev P__law_rooms_written : List Str := ["line"]
theorem sc__law_rooms_written : FnScope N__law_rooms_written P__law_rooms_written (defScope s__law_rooms_written) := ⟨rfl, rfl, rfl, by decide +kernel, rfl, by decide +kernel, by decide +kernel⟩
def sp__law_rooms_written : Sp := fun vs H Q _ => ∃ (BB : Addr → Prop) (a : Addr) (ts : List Addr) (rs : List (List Int)), vs = [.ref a] ∧ RmsAt H BB a ts rs ∧ Rml rs ∧ ∀ H', Same H H' → Q (.str (S (roomsT rs))) H'
theorem ok__law_rooms_written (A : At K mg "_law_rooms_written" P__law_rooms_written s__law_rooms_written) (B : Bi mg) : Df P w K mg base 1 "_law_rooms_written" P__law_rooms_written s__law_rooms_written sp__law_rooms_written := by
  refine A.df fun f fd F => F.ok sc__law_rooms_written (fun vs H Q E h => ?_) (fun cdv AA outer s H vs Q E hr h => ?_)
  · obtain ⟨_, _, _, _, rfl, _⟩ := h
    rfl
  · obtain ⟨BB, a, ts, rs, rfl, hR, hm, q⟩ := h
    have nd := sc__law_rooms_written.nd
    refine ⟨_, (pss_cons (ps_set (i := 1) nd rfl (.inl rfl) (pe_lst pa_nil))
    (pss_cons (ps_for PassesOwn.never rfl (pi_list (pv 0)) (pg_name (i := 2) nd rfl (.inl rfl)) (pss_one (ps_expr (pe_bm PySem.F.plainAttrs_list PySem.F.slot_list_append PySem.F.type_list_append mt_append (pv 1) (pa_cons (pe_bm PySem.F.plainAttrs_str PySem.F.slot_str_join PySem.F.type_str_join mt_join pe_str (pa_cons (pe_lc (own := [("age", 3)]) (tt := tYes) rfl nd (pi_list (pv 2)) (blkOk_by (N := N__law_rooms_written) (sc := defScope s__law_rooms_written) (by decide +kernel)) (fun _ _ _ _ _ => (pg_name (i := 3) nd rfl (.inl rfl))) (fun _ _ _ _ _ => pts_nil) (fun _ _ _ _ _ => (pe_callTy call_str_int (by rfl) B.str_ (by decide +kernel) (pa_cons (pv 3) pa_nil)))) pa_nil)) pa_nil)))))
    (pss_one (ps_ret (pe_ifExp (pt_cmpR (op_neD hr.units) (pv 1) (pe_lst pa_nil) (nomark _)) (pe_bm PySem.F.plainAttrs_str PySem.F.slot_str_join PySem.F.type_str_join mt_join pe_str (pa_cons (pv 1) pa_nil)) pe_str))))), ?_⟩
    have hl := hm.rooms
    refine ⟨Nat.zero_le _, fun o no => ?_⟩
    have s1 : Same H (upd H o (.lst [])) := same_new no
    have eo : (upd H o (.lst [])) o = some (.lst []) := upd_same
    generalize upd H o (.lst []) = H1 at s1 eo ⊢
    have hR1 := hR.same s1
    refine ⟨.ref a, rfl, a, rfl, ⟨_, hR1.seq⟩, ?_⟩
    refine for_it (walk_list (xs := ts.map V.ref)) (fun k σ H2 => ∃ y2 y3, σ = [some (.ref a), some (.ref o), y2, y3] ∧ Same H H2 ∧ H2 o = some (.lst (((rs.take k).map fun r => S (roomW r)).map V.str))) ⟨none, none, rfl, s1, eo⟩ (fun k σ H2 _ hW => ?_) (fun k x σ H2 H3 hk hW hY => ?_) (fun σ H2 hW => ?_)
    · obtain ⟨_, _, _, sm, _⟩ := hW
      exact (hR.same sm).seq
    · obtain ⟨y2, y3, rfl, sm, e⟩ := hW
      obtain ⟨rfl, hx⟩ := hY
      obtain ⟨t, r, rfl, _, er, et⟩ := (hR.same sm).get hx
      have mr := List.mem_of_getElem? er
      refine ⟨.ref o, rfl, .inl ⟨rfl, _, SqL.of e⟩, rfl, .ref t, rfl, t, rfl, ⟨_, SqL.of et⟩, fun D2 nD2 => ?_⟩
      refine lc_sints (SqL.of et) nD2 (hm.room mr) (fun z H' mz Q h => ⟨.int z, rfl, z, rfl, (hm.sm r mr z mz).log, by rw [← text_S] at h; exact h⟩) (fun _ => rfl) (fun H4 s4 e4 => ?_)
      refine ⟨",", D2, r.map (fun z => S (numI z)), rfl, rfl, .inl (SqL.of e4), nums_sum (hm.sm r mr) (hm.room mr), ?_⟩
      rw [join_nums]
      have e' := s4 _ _ e
      refine ⟨o, _, _, rfl, rfl, e', ils (by rw [List.length_map, List.length_map, List.length_take]; omega), ?_⟩
      refine ⟨_, _, rfl, Same.mut (sm.trans s4) no, ?_⟩
      rw [upd_same, take_snoc er, List.map_append, List.map_append]
      rfl
    · obtain ⟨y2, y3, rfl, sm, e⟩ := hW
      rw [List.length_map, hR.len, take_full] at e
      refine ⟨.ref o, rfl, Nat.zero_le _, fun z nz => ?_⟩
      have s3 : Same H2 (upd H2 z (.lst [])) := same_new nz
      refine ⟨dStrs (rs.map fun r => S (roomW r)), dStrs [], Dp.strs (s3 _ _ e), Dp.strs (ws := []) upd_same, (Oks.strs _ fun w m => by
        obtain ⟨r, mr, rfl⟩ := List.mem_map.mp m
        exact strOk_S (roomW_low r)).shaped, (Oks.strs _ fun w m => by simp at m).shaped, _, rfl, ?_⟩
      rw [eqv_strs_nil]
      have q' := q _ (sm.trans s3)
      unfold roomsT at q'
      by_cases hn : rs = []
      · subst hn
        refine iteX rfl ?_
        rw [if_pos rfl, ← none_S] at q'
        exact q'
      · have he : (rs.map fun r => S (roomW r)).isEmpty = false := by
          cases rs with
          | nil => exact absurd rfl hn
          | cons c r => rfl
        rw [he]
        rw [if_neg hn] at q'
        refine iteTx rfl ?_
        refine ⟨rfl, .ref o, rfl, " | ", o, rs.map (fun r => S (roomW r)), rfl, rfl, .inl (SqL.of (s3 _ _ e)), rooms_sum' hm, ?_⟩
        rw [join_rooms]
        exact q'
end
end El
namespace El
open PySem PySem.Spec PyProof.Rows L2
/-! ### a def out of a list of defs, called -/
section
variable {X : Cx} {f f1 f2 f3 : Addr} {x : Str} {p pos : Pos} {fe e : Expr} {es : List Expr} {tf : TE} {t : TA} {E : L2.St → XK} {sp1 sp2 sp3 : Sp} {k1 k2 k3 : Nat} {fd1 fd2 fd3 : FuncData} {ps1 ps2 ps3 : List Str}
/-- the def itself, as a value -/
theorem pe_gv (hm : X.mg x = some (.ref f)) (hg : Gl X x) (hdb : (x == ("__debug__" : Str)) = false := by decide) : PE X (.Name x p) (fun _ H Q => Q (.ref f) H) :=
  ⟨fun _ _ _ H _ I h => ld_glob I hg hm ⟨.ref f, H, I, rfl, h⟩ hdb⟩
def tCallL (f1 f2 f3 : Addr) (sp1 sp2 sp3 : Sp) (E : L2.St → XK) (tf : TE) (t : TA) : TE := fun σ H Q => tf σ H fun v H1 =>
  (v = .ref f1 ∧ t σ H1 fun vs H2 => sp1 vs H2 Q (E σ)) ∨ (v = .ref f2 ∧ t σ H1 fun vs H2 => sp2 vs H2 Q (E σ)) ∨ (v = .ref f3 ∧ t σ H1 fun vs H2 => sp3 vs H2 Q (E σ))
theorem pe_callL (G1 : FnOk X.prog X.w X.K X.mg X.base (L2N.CX X.prog X.w) k1 f1 fd1 ps1 sp1) (kp1 : PySem.W.keepIn X.K (.ref f1) = true) (b1 : Binds X.K fd1 ps1 []) (r1 : Room k1 X.A)
    (G2 : FnOk X.prog X.w X.K X.mg X.base (L2N.CX X.prog X.w) k2 f2 fd2 ps2 sp2) (kp2 : PySem.W.keepIn X.K (.ref f2) = true) (b2 : Binds X.K fd2 ps2 []) (r2 : Room k2 X.A)
    (G3 : FnOk X.prog X.w X.K X.mg X.base (L2N.CX X.prog X.w) k3 f3 fd3 ps3 sp3) (kp3 : PySem.W.keepIn X.K (.ref f3) = true) (b3 : Binds X.K fd3 ps3 []) (r3 : Room k3 X.A)
    (hx : ∀ σ, PassesAt (L2N.CX X.prog X.w) X σ (E σ)) (hf : PE X fe tf) (ha : PA X (e :: es) t)
    (hev : eval (.Call fe (e :: es) [] pos) X.env = (do callWith pos (← eval fe X.env) [] (backTo pos (starEach (e :: es) X.env)) (backToKw pos (keywordEach [] X.env))) := by rfl)
    (he : starEach (e :: es) X.env = (false, eval e X.env) :: starEach es X.env := by rfl) (hpl : (backTo pos (starEach es X.env)).any (·.1) = false := by rfl) : PE X (.Call fe (e :: es) [] pos) (tCallL f1 f2 f3 sp1 sp2 sp3 E tf t) := by
  constructor
  intro pins s σ H Q I h
  refine Call_ (wpAny_mono (hf.run pins s σ H _ I h) (fun u s1 got => ?_) fun _ _ z => z) hev
  obtain ⟨v, H1, I1, rv, q⟩ := got
  have one : ∀ {g : Addr} {fd : FuncData} {ps : List Str} {sp : Sp} {k : Nat}, FnOk X.prog X.w X.K X.mg X.base (L2N.CX X.prog X.w) k g fd ps sp → PySem.W.keepIn X.K (.ref g) = true → Binds X.K fd ps [] → Room k X.A → v = .ref g → (t σ H1 fun vs H2 => sp vs H2 Q (E σ)) →
      wpAny (model X.prog X.w) X.A (callWith pos u [] (backTo pos (starEach (e :: es) X.env)) []) (EP X pins σ Q) X.xe s1 := by
    intro g fd ps sp k G kp b r ev told
    subst ev
    obtain rfl : u = Value.ref g := rv
    refine PySem.W.callWith_K (h₀ := X.base) I1.ok.mod.kin kp (wpAny_mono (ha.run pos pins s1 σ H1 _ I1 told) (fun us s2 got => ?_) fun _ _ z => z) he hpl
    obtain ⟨vs, H2, I2, r2, q2⟩ := got
    exact ⟨I2.kIn, run_fnS G r b (hx σ) I2 r2 q2⟩
  rcases q with ⟨ev, told⟩ | ⟨ev, told⟩ | ⟨ev, told⟩
  · exact one G1 kp1 b1 r1 ev told
  · exact one G2 kp2 b2 r2 ev told
  · exact one G3 kp3 b3 r3 ev told
end
end El
namespace El
open PySem PySem.Spec PyProof.Rows L2 SX
/-- what is told of a text of guests; of crowds; of rooms: None where it is none such -/
def TldG (H : Hp) (Z : Addr → Prop) (l : List Nat) (v : V) : Prop := (∃ gs u ts, v = .ref u ∧ Gst gs ∧ Sms gs ∧ l = textOf 58 gs ∧ GsAt H Z u ts gs) ∨ (v = .non ∧ ∀ gs, Gst gs → Sms gs → l ≠ textOf 58 gs)
def TldC (H : Hp) (Z : Addr → Prop) (l : List Nat) (v : V) : Prop := (∃ gs u ts, v = .ref u ∧ Crw gs ∧ Sms gs ∧ l = textOf 120 gs ∧ GsAt H Z u ts gs) ∨ (v = .non ∧ ∀ gs, Crw gs → Sms gs → l ≠ textOf 120 gs)
def TldR (H : Hp) (Z : Addr → Prop) (l : List Nat) (v : V) : Prop := (∃ rs u ts, v = .ref u ∧ Rms rs ∧ l = roomsT rs ∧ RmsAt H Z u ts rs) ∨ (v = .non ∧ ∀ rs, Rms rs → l ≠ roomsT rs)
def TldD (H : Hp) (Z : Addr → Prop) (l : List Nat) (door : Int) (v : V) : Prop := (door = 0 ∧ TldG H Z l v) ∨ (door = 1 ∧ TldC H Z l v) ∨ (door = 2 ∧ TldR H Z l v)
section
variable {P : Program} {w : World} {K : PySem.W.Frag} {mg : Str → Option Value} {base : Heap}
abbrev s__law_told : Stmt := topS 43
abbrev N__law_told : List Str := ["door", "line", "e"]
abbrev P__law_told : List Str := ["door", "line"]
theorem sc__law_told : FnScope N__law_told P__law_told (defScope s__law_told) := ⟨rfl, rfl, rfl, by decide +kernel, rfl, by decide +kernel, by decide +kernel⟩
def sp__law_told : Sp := fun vs H Q _ => ∃ (door : Int) (l : List Nat), vs = [.int door, .str (S l)] ∧ 0 ≤ door ∧ door ≤ 2 ∧ Low l ∧ l.length ≤ 4000 ∧ ∀ H' v, Same H H' → TldD H' (fun a => H a = none) l door v → Q v H'
theorem ok__law_told {CT : Addr} (A : At K mg "_law_told" P__law_told s__law_told) (B : Bi mg) (G_NoText : mg "NoText" = some (.ref CT)) (OT : ∃ x fI, Own K mg x CT fI) (teT : PySem.W.exmOne K (.ref CT) (.ref CT) = some true)
    (XD_read_guests : DfX P w K mg base 5 "read_guests" P_read_guests s_read_guests (sp_read_guests_x CT)) (XD_read_crowds : DfX P w K mg base 5 "read_crowds" P_read_crowds s_read_crowds (sp_read_crowds_x CT))
    (XD_read_rooms : DfX P w K mg base 4 "read_rooms" P_read_rooms s_read_rooms (sp_read_rooms_x CT)) : Df P w K mg base 6 "_law_told" P__law_told s__law_told sp__law_told := by
  refine A.df fun f fd F => F.ok sc__law_told (fun vs H Q E h => ?_) (fun cdv AA outer s H vs Q E hr h => ?_)
  · obtain ⟨_, _, rfl, _⟩ := h
    rfl
  · obtain ⟨door, l, rfl, hd0, hd2, hlow, hlen, q⟩ := h
    have nd := sc__law_told.nd
    obtain ⟨f1, fd1, F1, m1, G1, b1⟩ := XD_read_guests.ex
    obtain ⟨f2, fd2, F2, m2, G2, b2⟩ := XD_read_crowds.ex
    obtain ⟨f3, fd3, F3, m3, G3, b3⟩ := XD_read_rooms.ex
    refine ⟨_, (pss_one (L2N.ps_try_as (i := 2) (Wout := fun _ _ _ _ => False) rfl rfl nd rfl rfl ⟨rfl, by decide, .inl G_NoText⟩ takes0N (fun W pn xe tk po => (pss_one (ps_ret (pe_callL G1 F1.kp b1 (hr.mono (by decide)) G2 F2.kp b2 (hr.mono (by decide)) G3 F3.kp b3 (hr.mono (by decide)) (fun σ => L2N.passAt tk σ) (pe_ix (ixlK K) (pe_lst (pa_cons (pe_gv m1 (by rfl)) (pa_cons (pe_gv m2 (by rfl)) (pa_cons (pe_gv m3 (by rfl)) pa_nil)))) (pv 0) (fun _ _ => rfl)) (pa_cons (pv 1) pa_nil))))) (fun a oe cls d pn hz hf => (pss_one (ps_ret (pe_ifExp (pt_cmpR op_eq (pe_xfA K hz.zc hf (pv 2)) (pv 1) (nomark _)) pe_non pe_str)))))), ?_⟩
    refine ⟨(by show 3 ≤ sizeLine; decide), fun p np => ?_⟩
    have sp := same_new (o := .lst [.ref f1, .ref f2, .ref f3]) np
    have hdd : door = 0 ∨ door = 1 ∨ door = 2 := by omega
    rcases hdd with rfl | rfl | rfl
    · refine ⟨.int 0, rfl, p, _, 0, .ref f1, rfl, rfl, SqL.of upd_same, atI_nat (j := 0) rfl, .inl ⟨rfl, .str (S l), rfl, ?_⟩⟩
      by_cases yes : ∃ gs, Gst gs ∧ Sms gs ∧ l = textOf 58 gs
      · obtain ⟨gs, h1, h2, e⟩ := yes
        have h4 := text_four 58 gs
        rw [← e] at h4
        exact .inl ⟨gs, by rw [e], h1.1, h1.2, h2, by omega, fun H' u ts s' G' _ => q _ _ (sp.trans s') (.inl ⟨rfl, .inl ⟨gs, u, ts, rfl, h1, h2, e, G'.weaken fun z hz => sp.free hz⟩⟩)⟩
      · have no : ∀ gs, Gst gs → Sms gs → l ≠ textOf 58 gs := fun gs h1 h2 e => yes ⟨gs, h1, h2, e⟩
        refine .inr ⟨l, rfl, hlow, hlen, no, fun H3 d s3 ed => ?_⟩
        obtain ⟨xn, fI, hO⟩ := OT
        refine ⟨true, teT, fun _ a0 na => ?_, fun z => Bool.noConfusion z⟩
        refine ⟨CT, hO.xf, hO.no, .ref a0, rfl, rfl, rfl, d, _, .str (S l), rfl, ed, rfl, .str (S l), rfl, rfl, _, rfl, ifY (decide_eq_true rfl) ?_⟩
        exact q _ _ (sp.trans s3) (.inl ⟨rfl, .inr ⟨rfl, no⟩⟩)
    · refine ⟨.int 1, rfl, p, _, 1, .ref f2, rfl, rfl, SqL.of upd_same, atI_nat (j := 1) rfl, .inr (.inl ⟨rfl, .str (S l), rfl, ?_⟩)⟩
      by_cases yes : ∃ gs, Crw gs ∧ Sms gs ∧ l = textOf 120 gs
      · obtain ⟨gs, h1, h2, e⟩ := yes
        have h4 := text_four 120 gs
        rw [← e] at h4
        exact .inl ⟨gs, by rw [e], h1, h2, by omega, fun H' u ts s' G' _ => q _ _ (sp.trans s') (.inr (.inl ⟨rfl, .inl ⟨gs, u, ts, rfl, h1, h2, e, G'.weaken fun z hz => sp.free hz⟩⟩))⟩
      · have no : ∀ gs, Crw gs → Sms gs → l ≠ textOf 120 gs := fun gs h1 h2 e => yes ⟨gs, h1, h2, e⟩
        refine .inr ⟨l, rfl, hlow, hlen, no, fun H3 d s3 ed => ?_⟩
        obtain ⟨xn, fI, hO⟩ := OT
        refine ⟨true, teT, fun _ a0 na => ?_, fun z => Bool.noConfusion z⟩
        refine ⟨CT, hO.xf, hO.no, .ref a0, rfl, rfl, rfl, d, _, .str (S l), rfl, ed, rfl, .str (S l), rfl, rfl, _, rfl, ifY (decide_eq_true rfl) ?_⟩
        exact q _ _ (sp.trans s3) (.inr <| .inl ⟨rfl, .inr ⟨rfl, no⟩⟩)
    · refine ⟨.int 2, rfl, p, _, 2, .ref f3, rfl, rfl, SqL.of upd_same, atI_nat (j := 2) rfl, .inr (.inr ⟨rfl, .str (S l), rfl, l, rfl, hlow, hlen, fun rs hR e H' u ts s' G' => ?_, fun no H3 d s3 ed => ?_⟩)⟩
      · exact q _ _ (sp.trans s') (.inr (.inr ⟨rfl, .inl ⟨rs, u, ts, rfl, hR, e, G'.weaken fun z hz => sp.free hz⟩⟩))
      · obtain ⟨xn, fI, hO⟩ := OT
        refine ⟨true, teT, fun _ a0 na => ?_, fun z => Bool.noConfusion z⟩
        refine ⟨CT, hO.xf, hO.no, .ref a0, rfl, rfl, rfl, d, _, .str (S l), rfl, ed, rfl, .str (S l), rfl, rfl, _, rfl, ifY (decide_eq_true rfl) ?_⟩
        exact q _ _ (sp.trans s3) (.inr <| .inr ⟨rfl, .inr ⟨rfl, no⟩⟩)
end
end El
namespace El
open PySem PySem.Spec PyProof.Rows L2 SX
/-! ### texts: low signs, and of which kind a text is -/
theorem numI_low128 (i : Int) : Low (numI i) := by
  have d : ∀ n : Nat, Low (TL.numL n) := fun n x m => by
    have := TL.numL_digits n x m
    have := this.2
    omega
  by_cases h : 0 ≤ i
  · obtain ⟨n, rfl⟩ : ∃ n : Nat, i = n := ⟨i.toNat, by omega⟩
    rw [numI_nat]
    exact d n
  · rw [numI_neg (by omega)]
    intro x m
    rcases List.mem_cons.mp m with rfl | m
    · decide
    · exact d _ x m
theorem textOf_low {c : Nat} (hc : c < 128) (gs : List (Int × Int)) : Low (textOf c gs) := by
  unfold textOf
  split
  · exact low_of (by decide)
  · refine joined_low (low_of (by decide)) fun w m => ?_
    obtain ⟨g, _, rfl⟩ := List.mem_map.mp m
    exact low_cat (numI_low128 _) (low_cat (fun x mx => by rw [List.mem_singleton.mp mx]; exact hc) (numI_low128 _))
theorem roomW_low128 (r : List Int) : Low (roomW r) := joined_low (low_of (by decide)) fun w m => by
  obtain ⟨i, _, rfl⟩ := List.mem_map.mp m
  exact numI_low128 i
theorem roomsT_low (rs : List (List Int)) : Low (roomsT rs) := by
  unfold roomsT
  split
  · exact low_of (by decide)
  · refine joined_low (low_of (by decide)) fun w m => ?_
    obtain ⟨r, _, rfl⟩ := List.mem_map.mp m
    exact roomW_low128 r
theorem rooms_tiny {rs : List (List Int)} (h : Rml rs) {k : Nat} (hk : rs.flatten.length ≤ k) : (roomsT rs).length ≤ k * 35 + 4 := by
  unfold roomsT
  split
  · show 4 ≤ _
    omega
  · have h1 := joinL_sum barL (rs.map roomW)
    have h2 := rooms_sum h.sm
    have h3 := len_flat h.ne
    rw [List.length_map] at h1
    have : barL.length = 3 := rfl
    rw [this] at h1
    omega
theorem joinL_has {c : Nat} {sep w : List Nat} (h : c ∈ w) : ∀ (ps : List (List Nat)), c ∈ TL.joinL sep (w :: ps)
  | [] => h
  | _ :: _ => List.mem_append_left _ h
/-- a text of twos holds the sign between them -/
theorem text_has {c : Nat} {gs : List (Int × Int)} (h : gs ≠ []) : c ∈ textOf c gs := by
  unfold textOf
  rw [if_neg h]
  cases gs with
  | nil => exact absurd rfl h
  | cons g r => exact joinL_has (List.mem_append_right _ (List.mem_append_left _ List.mem_cons_self)) _
/-- and no other such sign -/
theorem text_free {c b : Nat} (hb : 57 < b) (hc : b ≠ c) (hn : b ∉ noneL) (gs : List (Int × Int)) : b ∉ textOf c gs := by
  unfold textOf
  split
  · exact hn
  · refine joinL_free [32] (by simp; omega) _ fun w m => ?_
    obtain ⟨g, _, rfl⟩ := List.mem_map.mp m
    intro z
    have z' : b ∈ numI g.1 ++ ([c] ++ numI g.2) := z
    rcases List.mem_append.mp z' with z | z
    · exact numI_free g.1 (by omega) (.inr hb) z
    · rcases List.mem_append.mp z with z | z
      · exact hc (List.mem_singleton.mp z)
      · exact numI_free g.2 (by omega) (.inr hb) z
theorem rooms_free {b : Nat} (hb : 57 < b) (h1 : b ≠ 124) (hn : b ∉ noneL) (rs : List (List Int)) : b ∉ roomsT rs := by
  unfold roomsT
  split
  · exact hn
  · refine joinL_free barL (by unfold barL; simp; omega) _ fun w m => ?_
    obtain ⟨r, _, rfl⟩ := List.mem_map.mp m
    refine joinL_free [44] (by simp; omega) _ fun v mv => ?_
    obtain ⟨i, _, rfl⟩ := List.mem_map.mp mv
    exact numI_free i (by omega) (.inr hb)
/-- guests as they are written stand by age already -/
theorem Gst.fit {gs : List (Int × Int)} (h : Gst gs) : Fit gs := ⟨h.1.imp fun e => by have e : _ > _ := e; omega, h.2⟩
theorem Gst.byAge {gs : List (Int × Int)} (h : Gst gs) : El.byAge gs = gs := by
  refine (byAge_of h.fit (.refl _) ?_).symm
  have := h.1
  rw [List.pairwise_map] at this
  exact this.imp fun e => by have e : _ > _ := e; omega
/-- the rooms of guests, as they are written -/
theorem settle_rms {gs : List (Int × Int)} (h : Fit gs) (hs : Sms gs) : Rms (settle gs) := by
  have hpf := settle_flat gs
  have nd : (settle gs).flatten.Nodup := hpf.nodup_iff.mpr h.nd
  refine ⟨settleL_ne _, fun r mr x mx => ?_, fun r mr => ?_, nd⟩
  · have := hpf.mem_iff.mp (List.mem_flatten.mpr ⟨r, mr, mx⟩)
    obtain ⟨g', mg', rfl⟩ := List.mem_map.mp this
    exact (hs g' mg').1
  · have h1 := (settle_fine h mr).1
    have h2 := room_nodup nd r mr
    refine (List.pairwise_and_iff.mpr ⟨h1, h2⟩).imp fun {a b} h => ?_
    have h1 := h.1
    have h2 := h.2
    show b < a
    omega
end El
namespace El
open PySem PySem.Spec PyProof.Rows L2 SX
theorem units65 {k : Nat} {A : Around} (r : Room k A) : A.units + 65 < cLine := by
  have := r.un
  omega
theorem TldG.keep {H H' : Hp} {Z : Addr → Prop} (k : ∀ b u, Z b → H b = some u → H' b = some u) {l : List Nat} {v : V} (h : TldG H Z l v) : TldG H' Z l v := h.imp (fun ⟨gs, u, ts, a, b, c, d, g⟩ => ⟨gs, u, ts, a, b, c, d, g.keep fun b u z e => k b u z e⟩) id
theorem TldC.keep {H H' : Hp} {Z : Addr → Prop} (k : ∀ b u, Z b → H b = some u → H' b = some u) {l : List Nat} {v : V} (h : TldC H Z l v) : TldC H' Z l v := h.imp (fun ⟨gs, u, ts, a, b, c, d, g⟩ => ⟨gs, u, ts, a, b, c, d, g.keep fun b u z e => k b u z e⟩) id
theorem TldR.keep {H H' : Hp} {Z : Addr → Prop} (k : ∀ b u, Z b → H b = some u → H' b = some u) {l : List Nat} {v : V} (h : TldR H Z l v) : TldR H' Z l v := h.imp (fun ⟨rs, u, ts, a, b, c, g⟩ => ⟨rs, u, ts, a, b, c, g.keep fun b u z e => k b u z e⟩) id
theorem TldD.keep {H H' : Hp} {Z : Addr → Prop} (k : ∀ b u, Z b → H b = some u → H' b = some u) {l : List Nat} {d : Int} {v : V} (h : TldD H Z l d v) : TldD H' Z l d v := h.imp (fun h => ⟨h.1, h.2.keep k⟩) fun h => h.imp (fun h => ⟨h.1, h.2.keep k⟩) fun h => ⟨h.1, h.2.keep k⟩
theorem TldD.weaken {H : Hp} {Z Z' : Addr → Prop} (k : ∀ b, Z b → Z' b) {l : List Nat} {d : Int} {v : V} (h : TldD H Z l d v) : TldD H Z' l d v := by
  rcases h with ⟨e, ⟨gs, u, ts, a, b, c, d, g⟩ | h⟩ | ⟨e, ⟨gs, u, ts, a, b, c, d, g⟩ | h⟩ | ⟨e, ⟨rs, u, ts, a, b, c, g⟩ | h⟩
  · exact .inl ⟨e, .inl ⟨gs, u, ts, a, b, c, d, g.weaken k⟩⟩
  · exact .inl ⟨e, .inr h⟩
  · exact .inr (.inl ⟨e, .inl ⟨gs, u, ts, a, b, c, d, g.weaken k⟩⟩)
  · exact .inr (.inl ⟨e, .inr h⟩)
  · exact .inr (.inr ⟨e, .inl ⟨rs, u, ts, a, b, c, g.weaken k⟩⟩)
  · exact .inr (.inr ⟨e, .inr h⟩)
/-- as data, and it is no text -/
theorem TldD.dp {K : PySem.W.Frag} {H : Hp} {Z : Addr → Prop} {l : List Nat} {d : Int} {v : V} (h : TldD H Z l d v) : ∃ z, Dp K H v z ∧ Oks 2 z ∧ ∀ s : Str, PyData.eqv z (.str s) = false := by
  rcases h with ⟨_, ⟨gs, u, ts, rfl, _, _, _, G⟩ | ⟨rfl, _⟩⟩ | ⟨_, ⟨gs, u, ts, rfl, _, _, _, G⟩ | ⟨rfl, _⟩⟩ | ⟨_, ⟨rs, u, ts, rfl, _, _, R⟩ | ⟨rfl, _⟩⟩
  · exact ⟨_, G.dp, Oks.gs gs, fun s => rfl⟩
  · exact ⟨.none, .non, ⟨by simp [PyData.canLay0], by simp [PyData.depth]⟩, fun s => rfl⟩
  · exact ⟨_, G.dp, Oks.gs gs, fun s => rfl⟩
  · exact ⟨.none, .non, ⟨by simp [PyData.canLay0], by simp [PyData.depth]⟩, fun s => rfl⟩
  · exact ⟨_, R.dp, Oks.rows rs, fun s => rfl⟩
  · exact ⟨.none, .non, ⟨by simp [PyData.canLay0], by simp [PyData.depth]⟩, fun s => rfl⟩
/-- what is told, and not None -/
def toldV (v : V) : Bool := !decide (v = V.non)
theorem rooms_one {rs ks : List (List Int)} (h : Rms rs) (k : Rms ks) (e : roomsT rs = roomsT ks) : rs = ks := by
  by_cases hn : roomsT rs = noneL
  · have h1 : rs = [] := Classical.byContradiction fun z => rooms_none z h.ne hn
    have h2 : ks = [] := Classical.byContradiction fun z => rooms_none z k.ne (e ▸ hn)
    rw [h1, h2]
  · have e1 := (rooms_cut hn rfl).2
    have e2 := (rooms_cut hn e).2
    have := first_rooms (n := ks.length) h.ne k.ne (by rw [← e1, e2]; exact List.take_of_length_le (by rw [List.length_map]; exact Nat.le_refl _))
    rw [← this, List.take_length]
theorem rooms_rml {rs : List (List Int)} (h : Rms rs) {l : List Nat} (e : l = roomsT rs) (hl : l.length ≤ 4000) : Rml rs := ⟨h.sm, h.ne, by
  have := rooms_half h.ne
  rw [← e] at this
  omega⟩
section
variable {P : Program} {w : World} {K : PySem.W.Frag} {mg : Str → Option Value} {base : Heap}
abbrev s__law_kept : Stmt := topS 44
abbrev N__law_kept : List Str := ["line", "found", "door", "told"]
abbrev P__law_kept : List Str := ["line"]
theorem sc__law_kept : FnScope N__law_kept P__law_kept (defScope s__law_kept) := ⟨rfl, rfl, rfl, by decide +kernel, rfl, by decide +kernel, by decide +kernel⟩
def sp__law_kept : Sp := fun vs H Q _ => ∃ l : List Nat, vs = [.str (S l)] ∧ Low l ∧ l.length ≤ 4000 ∧ ∀ H', Same H H' → Q (.bl true) H'
theorem ok__law_kept {CT : Addr} (A : At K mg "_law_kept" P__law_kept s__law_kept) (B : Bi mg) (D__law_told : Df P w K mg base 6 "_law_told" P__law_told s__law_told sp__law_told) (D_show_guests : Df P w K mg base 1 "show_guests" P_show_guests s_show_guests sp_show_guests)
    (D_show_crowds : Df P w K mg base 1 "show_crowds" P_show_crowds s_show_crowds sp_show_crowds) (D_show_rooms : Df P w K mg base 1 "show_rooms" P_show_rooms s_show_rooms sp_show_rooms) (D_rooms : Df P w K mg base 2 "rooms" P_rooms s_rooms sp_rooms)
    (D_upset : Df P w K mg base 2 "upset" P_upset s_upset sp_upset) (XD_read_rooms : DfX P w K mg base 4 "read_rooms" P_read_rooms s_read_rooms (sp_read_rooms_x CT)) : Df P w K mg base 7 "_law_kept" P__law_kept s__law_kept sp__law_kept := by
  refine A.df fun f fd F => F.ok sc__law_kept (fun vs H Q E h => ?_) (fun cdv AA outer s H vs Q E hr h => ?_)
  · obtain ⟨_, rfl, _⟩ := h
    rfl
  · obtain ⟨l, rfl, hlow, hlen, q⟩ := h
    have nd := sc__law_kept.nd
    refine ⟨_, (pss_cons (ps_setLc (i := 1) (own := [("door", 2)]) (tt := tYes) rfl nd rfl rfl (sw_true rfl rfl rfl (by decide +kernel)) (pi_range1 (by rfl) B.range (pa_cons pe_int pa_nil)) (blkOk_by (N := N__law_kept) (sc := defScope s__law_kept) (by decide +kernel)) (fun _ _ _ _ _ => (pg_name (i := 2) nd rfl (.inl rfl))) (fun _ _ _ _ _ => pts_nil) (fun _ _ _ _ _ => (pe_df D__law_told (hr.mono (by decide)) (by rfl) (pa_cons (pv 2) (pa_cons (pv 0) pa_nil)))))
    (pss_cons (ps_if (pt_cmpR (op_inD (units65 hr)) pe_str (pv 1) (by rfl)) (pss_one (ps_ret pe_bl)) pss_nil)
    (pss_cons (ps_if (PW.pt (pw_and (pt_cmpR op_notN (pe_ix ix_list (pv 1) pe_int (fun _ _ => rfl)) pe_non (nomark _)) (pw_and1 (pt_cmpR op_ne (pe_df D_show_guests (hr.mono (by decide)) (by rfl) (pa_cons (pe_ix ix_list (pv 1) pe_int (fun _ _ => rfl)) pa_nil)) (pv 0) (nomark _))))) (pss_one (ps_ret pe_bl)) pss_nil)
    (pss_cons (ps_if (PW.pt (pw_or (PW.pt (pw_and (pt_cmpR op_notN (pe_ix ix_list (pv 1) pe_int (fun _ _ => rfl)) pe_non (nomark _)) (pw_and1 (pt_cmpR op_ne (pe_df D_show_crowds (hr.mono (by decide)) (by rfl) (pa_cons (pe_ix ix_list (pv 1) pe_int (fun _ _ => rfl)) pa_nil)) (pv 0) (nomark _))))) (pw_or1 (PW.pt (pw_and (pt_cmpR op_notN (pe_ix ix_list (pv 1) pe_int (fun _ _ => rfl)) pe_non (nomark _)) (pw_and1 (pt_cmpR op_ne (pe_df D_show_rooms (hr.mono (by decide)) (by rfl) (pa_cons (pe_ix ix_list (pv 1) pe_int (fun _ _ => rfl)) pa_nil)) (pv 0) (nomark _)))))))) (pss_one (ps_ret pe_bl)) pss_nil)
    (pss_cons (ps_if (pt_cmpR op_eq (pv 0) pe_str (nomark _)) (pss_one (ps_ret (pe_cmpR (op_eqD hr.units) (pv 1) (pe_lst (pa_cons (pe_lst pa_nil) (pa_cons (pe_lst pa_nil) (pa_cons (pe_lst pa_nil) pa_nil)))) (nomark _)))) pss_nil)
    (pss_cons (ps_if (pt_cmpR op_gt (pe_callB call_len_seq (by rfl) B.len PySem.boot_len (pa_cons (pe_lc (own := [("told", 3)]) rfl nd (pi_list (pv 1)) (blkOk_by (N := N__law_kept) (sc := defScope s__law_kept) (by decide +kernel)) (fun _ _ _ _ _ => (pg_name (i := 3) nd rfl (.inl rfl))) (fun _ _ _ _ _ => (pts_one (pt_cmpR op_notN (pv 3) pe_non (nomark _)))) (fun _ _ _ _ _ => (pv 3))) pa_nil)) pe_int (nomark _)) (pss_one (ps_ret pe_bl)) pss_nil)
    (pss_cons (ps_if (PW.pt (pw_and (pt_cmpR op_notN (pe_ix ix_list (pv 1) pe_int (fun _ _ => rfl)) pe_non (nomark _)) (pw_and1 (pt_cmpR op_lt (pe_callB call_len_seq (by rfl) B.len PySem.boot_len (pa_cons (pe_ix ix_list (pv 1) pe_int (fun _ _ => rfl)) pa_nil)) pe_int (nomark _))))) (pss_one (ps_ret (pe_cmpR op_isN (pe_df D_upset (hr.mono (by decide)) (by rfl) (pa_cons (pe_ix ix_list (pv 1) pe_int (fun _ _ => rfl)) (pa_cons (pe_dfN XD_read_rooms (hr.mono (by decide)) (by rfl) (pa_cons (pe_df D_show_rooms (hr.mono (by decide)) (by rfl) (pa_cons (pe_df D_rooms (hr.mono (by decide)) (by rfl) (pa_cons (pe_ix ix_list (pv 1) pe_int (fun _ _ => rfl)) pa_nil)) pa_nil)) pa_nil)) pa_nil))) pe_non (nomark _)))) pss_nil)
    (pss_one (ps_ret pe_bl))))))))), ?_⟩
    refine ⟨_, rfl, by omega, by omega, fun F nF => ?_⟩
    refine lc_it walk_range (fun k Hx => ∃ vs : List V, Same H Hx ∧ Hx F = some (.lst vs) ∧ vs.length = k ∧ ∀ (i : Nat) v, vs[i]? = some v → TldD Hx (fun a => a ≠ F) l (i : Int) v) ⟨[], same_new nF, upd_same, rfl, fun i v e => by simp at e⟩ (fun _ _ _ _ => trivial) (fun j x Hq Hx hj hW hY => ?_) (fun H2 hW => ?_)
    · obtain ⟨vs, sm, eF, hl, hv⟩ := hW
      obtain ⟨rfl, rfl⟩ := hY
      have ej : (0 : Int) + (j : Int) = (j : Int) := by omega
      refine ⟨rfl, .int (0 + (j : Int)), rfl, .str (S l), rfl, _, l, rfl, by omega, by omega, hlow, hlen, fun H4 v s4 hv4 => ?_⟩
      rw [ej] at hv4
      have eF4 := s4 _ _ eF
      have k4 : ∀ b u, b ≠ F → H4 b = some u → upd H4 F (.lst (vs ++ [v])) b = some u := fun b u nb e => (upd_ne nb).trans e
      refine ⟨vs, eF4, ils (by omega), vs ++ [v], Same.mut (sm.trans s4) nF, upd_same, by rw [List.length_append, hl]; rfl, fun i w e => ?_⟩
      by_cases hi : i < vs.length
      · rw [List.getElem?_append_left hi] at e
        exact ((hv i w e).keep fun b u _ e => s4 b u e).keep k4
      · have hi2 := at_lt e
        rw [List.length_append, List.length_singleton] at hi2
        have : i = vs.length := by omega
        subst this
        rw [List.getElem?_append_right (Nat.le_refl _), Nat.sub_self] at e
        obtain rfl := Option.some.inj e
        rw [hl]
        exact (hv4.weaken fun b nb => (ne_of_none eF nb).symm).keep k4
    · obtain ⟨vs, s2, eF, hl, hv⟩ := hW
      obtain ⟨v0, v1, v2, rfl⟩ : ∃ v0 v1 v2, vs = [v0, v1, v2] := by
        match vs, hl with
        | [a, b, c], _ => exact ⟨a, b, c, rfl⟩
      have h0 : TldG H2 (fun a => a ≠ F) l v0 := by
        rcases hv 0 v0 rfl with h | h | h
        · exact h.2
        · exact absurd h.1 (by decide)
        · exact absurd h.1 (by decide)
      have h1 : TldC H2 (fun a => a ≠ F) l v1 := by
        rcases hv 1 v1 rfl with h | h | h
        · exact absurd h.1 (by decide)
        · exact h.2
        · exact absurd h.1 (by decide)
      have h2 : TldR H2 (fun a => a ≠ F) l v2 := by
        rcases hv 2 v2 rfl with h | h | h
        · exact absurd h.1 (by decide)
        · exact absurd h.1 (by decide)
        · exact h.2
      obtain ⟨z0, d0, o0, n0⟩ := (hv 0 v0 rfl).dp (K := K)
      obtain ⟨z1, d1, o1, n1⟩ := (hv 1 v1 rfl).dp (K := K)
      obtain ⟨z2, d2, o2, n2⟩ := (hv 2 v2 rfl).dp (K := K)
      clear hv hl
      dsimp only [gName]
      have oz : Oks 3 (.list [z0, z1, z2]) := .lst fun x m => by
        simp only [List.mem_cons, List.not_mem_nil, or_false] at m
        rcases m with rfl | rfl | rfl
        · exact o0
        · exact o1
        · exact o2
      have dz : Dp K H2 (.ref F) (.list [z0, z1, z2]) := .lst (SqL.of eF) (.cons d0 (.cons d1 (.cons d2 .nil)))
      -- 'other' in found
      refine seq_to (fun σ Hx => σ = [some (.str (S l)), some (.ref F), none, none] ∧ Same H2 Hx) (fun Y hY => ?_) (fun σ H3 hE => ?_)
      · refine ⟨.ref F, rfl, .str (Str.ofString "other"), [z0, z1, z2], .str _, dz, (show SeqAt.shaped (.str (Str.ofString "other")) = true by decide +kernel), oz.shaped, _, rfl, ifN ?_ ?_⟩
        · show ((PyData.eqv z0 _) || ((PyData.eqv z1 _) || ((PyData.eqv z2 _) || false))) = false
          rw [n0, n1, n2]
          rfl
        · exact hY _ _ ⟨rfl, Same.refl _⟩
      obtain ⟨rfl, s3⟩ := hE
      -- guests, written again
      refine seq_to (fun σ Hx => σ = [some (.str (S l)), some (.ref F), none, none] ∧ Same H2 Hx) (fun Y hY => ?_) (fun σ H4 hE => ?_)
      · rcases h0 with ⟨gs, u, ts, rfl, hg, hs, e, G⟩ | ⟨rfl, no⟩
        · have h4 := text_four 58 gs
          rw [← e] at h4
          refine ⟨.ref F, rfl, F, _, 0, .ref u, rfl, rfl, SqL.of (s3 _ _ eF), atI_nat (j := 0) rfl, rfl, _, rfl, ifY (by simp) ?_⟩
          refine ⟨.ref F, rfl, F, _, 0, .ref u, rfl, rfl, SqL.of (s3 _ _ eF), atI_nat (j := 0) rfl, _, u, ts, gs, rfl, G.same s3, hg.fit, hs, by omega, fun H5 s5 => ⟨.str (S l), rfl, rfl, _, rfl, ifN (by rw [hg.byAge, e]; simp) (hY _ _ ⟨rfl, s3.trans s5⟩)⟩⟩
        · exact ⟨.ref F, rfl, F, _, 0, .non, rfl, rfl, SqL.of (s3 _ _ eF), atI_nat (j := 0) rfl, rfl, _, rfl, ifN (by simp) (ifN rfl (hY _ _ ⟨rfl, s3⟩))⟩
      obtain ⟨rfl, s4⟩ := hE
      -- crowds and rooms
      refine seq_to (fun σ Hx => σ = [some (.str (S l)), some (.ref F), none, none] ∧ Same H2 Hx) (fun Y hY => ?_) (fun σ H5 hE => ?_)
      · rcases h1 with ⟨cs, u, ts, rfl, hg, hs, e, G⟩ | ⟨rfl, no⟩
        · have h4 := text_four 120 cs
          rw [← e] at h4
          refine ⟨.ref F, rfl, F, _, 1, .ref u, rfl, rfl, SqL.of (s4 _ _ eF), atI_nat (j := 1) rfl, rfl, _, rfl, ifY (by simp) ?_⟩
          refine ⟨.ref F, rfl, F, _, 1, .ref u, rfl, rfl, SqL.of (s4 _ _ eF), atI_nat (j := 1) rfl, _, u, ts, cs, rfl, G.same s4, hs, by omega, fun H5 s5 => ⟨.str (S l), rfl, rfl, _, rfl, ifN (by rw [e]; simp) ?_⟩⟩
          have s45 := s4.trans s5
          rcases h2 with ⟨rs, u2, us, rfl, hR, e2, R⟩ | ⟨rfl, no2⟩
          · refine ⟨.ref F, rfl, F, _, 2, .ref u2, rfl, rfl, SqL.of (s45 _ _ eF), atI_nat (j := 2) rfl, rfl, _, rfl, ifY (by simp) ?_⟩
            refine ⟨.ref F, rfl, F, _, 2, .ref u2, rfl, rfl, SqL.of (s45 _ _ eF), atI_nat (j := 2) rfl, _, u2, us, rs, rfl, R.same s45, rooms_rml hR e2 hlen, fun H6 s6 => ⟨.str (S l), rfl, rfl, _, rfl, ifN (by rw [e2]; simp) (hY _ _ ⟨rfl, s45.trans s6⟩)⟩⟩
          · exact ⟨.ref F, rfl, F, _, 2, .non, rfl, rfl, SqL.of (s45 _ _ eF), atI_nat (j := 2) rfl, rfl, _, rfl, ifN (by simp) (ifN rfl (hY _ _ ⟨rfl, s45⟩))⟩

        · refine ⟨.ref F, rfl, F, _, 1, .non, rfl, rfl, SqL.of (s4 _ _ eF), atI_nat (j := 1) rfl, rfl, _, rfl, ifN (by simp) (ifN rfl ?_)⟩
          rcases h2 with ⟨rs, u2, us, rfl, hR, e2, R⟩ | ⟨rfl, no2⟩
          · refine ⟨.ref F, rfl, F, _, 2, .ref u2, rfl, rfl, SqL.of (s4 _ _ eF), atI_nat (j := 2) rfl, rfl, _, rfl, ifY (by simp) ?_⟩
            refine ⟨.ref F, rfl, F, _, 2, .ref u2, rfl, rfl, SqL.of (s4 _ _ eF), atI_nat (j := 2) rfl, _, u2, us, rs, rfl, R.same s4, rooms_rml hR e2 hlen, fun H6 s6 => ⟨.str (S l), rfl, rfl, _, rfl, ifN (by rw [e2]; simp) (hY _ _ ⟨rfl, s4.trans s6⟩)⟩⟩
          · exact ⟨.ref F, rfl, F, _, 2, .non, rfl, rfl, SqL.of (s4 _ _ eF), atI_nat (j := 2) rfl, rfl, _, rfl, ifN (by simp) (ifN rfl (hY _ _ ⟨rfl, s4⟩))⟩

      obtain ⟨rfl, s5⟩ := hE
      -- none
      refine seq_to (fun σ Hx => σ = [some (.str (S l)), some (.ref F), none, none] ∧ Same H2 Hx ∧ l ≠ noneL) (fun Y hY => ?_) (fun σ H6 hE => ?_)
      · refine ⟨.str (S l), rfl, rfl, _, rfl, ?_⟩
        by_cases hn : l = noneL
        · refine ifY (by rw [hn, none_S]; exact decide_eq_true rfl) ?_
          have g0 : ∃ u ts, v0 = .ref u ∧ GsAt H2 (fun a => a ≠ F) u ts [] := by
            rcases h0 with ⟨gs, u, ts, e0, hg, hs, e, G⟩ | ⟨_, no⟩
            · have : gs = [] := Classical.byContradiction fun z => text_none z (by rw [← e, hn])
              subst this
              exact ⟨u, ts, e0, G⟩
            · exact absurd hn (no [] ⟨.nil, fun g m => absurd m List.not_mem_nil⟩ fun g m => absurd m List.not_mem_nil)
          have g1 : ∃ u ts, v1 = .ref u ∧ GsAt H2 (fun a => a ≠ F) u ts [] := by
            rcases h1 with ⟨gs, u, ts, e0, hg, hs, e, G⟩ | ⟨_, no⟩
            · have : gs = [] := Classical.byContradiction fun z => text_none z (by rw [← e, hn])
              subst this
              exact ⟨u, ts, e0, G⟩
            · exact absurd hn (no [] (fun g m => absurd m List.not_mem_nil) fun g m => absurd m List.not_mem_nil)
          have g2 : ∃ u ts, v2 = .ref u ∧ RmsAt H2 (fun a => a ≠ F) u ts [] := by
            rcases h2 with ⟨rs, u, ts, e0, hg, e, R⟩ | ⟨_, no⟩
            · have : rs = [] := Classical.byContradiction fun z => rooms_none z hg.ne (by rw [← e, hn])
              subst this
              exact ⟨u, ts, e0, R⟩
            · exact absurd hn (no [] Rms.nil)
          obtain ⟨u0, t0, rfl, G0⟩ := g0
          obtain ⟨u1, t1, rfl, G1⟩ := g1
          obtain ⟨u2, t2, rfl, G2⟩ := g2
          have e5 := s5 _ _ eF
          refine ⟨.ref F, rfl, Nat.zero_le _, fun p0 np0 => ⟨Nat.zero_le _, fun p1 np1 => ⟨Nat.zero_le _, fun p2 np2 => ⟨(by show 3 ≤ sizeLine; decide), fun p3 np3 => ?_⟩⟩⟩⟩
          have k0 := same_new (o := .lst []) np0
          have k1 := same_new (o := .lst []) np1
          have k2 := same_new (o := .lst []) np2
          have k3 := same_new (o := .lst [.ref p0, .ref p1, .ref p2]) np3
          have k23 := k2.trans k3
          have k13 := k1.trans k23
          have k03 := k0.trans k13
          have k := s5.trans k03
          refine ⟨.list [.list [], .list [], .list []], .list [.list [], .list [], .list []], ?_, ?_, rfl, rfl, ?_⟩
          · exact .lst (SqL.of (k03 _ _ e5)) (.cons (G0.same k).dp (.cons (G1.same k).dp (.cons (G2.same k).dp .nil)))
          · exact .lst (SqL.of upd_same) (.cons (Dp.ints (ns := []) (k13 _ _ upd_same)) (.cons (Dp.ints (ns := []) (k23 _ _ upd_same)) (.cons (Dp.ints (ns := []) (k3 _ _ upd_same)) .nil)))
          · exact q _ (s2.trans k)
        · exact ifN (by rw [none_S]; exact decide_eq_false fun z => hn (S_inj (V.str.inj z))) (hY _ _ ⟨rfl, s5, hn⟩)
      obtain ⟨rfl, s6, hn⟩ := hE
      -- one kind alone
      have k0 : v0 = .non ∨ (58 ∈ l ∧ 120 ∉ l) := by
        rcases h0 with ⟨gs, u, ts, _, _, _, e, _⟩ | ⟨e, _⟩
        · have : gs ≠ [] := fun z => hn (by rw [e, z]; rfl)
          exact .inr ⟨by rw [e]; exact text_has this, by rw [e]; exact text_free (by decide) (by decide) (by decide) gs⟩
        · exact .inl e
      have k1 : v1 = .non ∨ (120 ∈ l ∧ 58 ∉ l) := by
        rcases h1 with ⟨gs, u, ts, _, _, _, e, _⟩ | ⟨e, _⟩
        · have : gs ≠ [] := fun z => hn (by rw [e, z]; rfl)
          exact .inr ⟨by rw [e]; exact text_has this, by rw [e]; exact text_free (by decide) (by decide) (by decide) gs⟩
        · exact .inl e
      have k2 : v2 = .non ∨ (58 ∉ l ∧ 120 ∉ l) := by
        rcases h2 with ⟨rs, u, ts, _, _, e, _⟩ | ⟨e, _⟩
        · exact .inr ⟨by rw [e]; exact rooms_free (by decide) (by decide) (by decide) rs, by rw [e]; exact rooms_free (by decide) (by decide) (by decide) rs⟩
        · exact .inl e
      have few : ([v0, v1, v2].filter toldV).length ≤ 1 := by
        rcases k0 with rfl | k0
        · rcases k1 with rfl | k1
          · exact Nat.le_trans (List.length_filter_le _ [v2]) (Nat.le_refl _)
          · rcases k2 with rfl | k2
            · refine Nat.le_trans (Nat.le_of_eq ?_) (List.length_filter_le toldV [v1])
              show (([v1] ++ [V.non]).filter toldV).length = _
              rw [List.filter_append, List.length_append]
              rfl
            · exact absurd k1.1 k2.2
        · rcases k1 with rfl | k1
          · rcases k2 with rfl | k2
            · refine Nat.le_trans (Nat.le_of_eq ?_) (List.length_filter_le toldV [v0])
              show (([v0] ++ [V.non, V.non]).filter toldV).length = _
              rw [List.filter_append, List.length_append]
              rfl
            · exact absurd k0.1 k2.1
          · exact absurd k0.1 k1.2
      refine seq_to (fun σ Hx => σ = [some (.str (S l)), some (.ref F), none, none] ∧ Same H2 Hx) (fun Y hY => ?_) (fun σ H7 hE => ?_)
      · refine ⟨.ref F, rfl, F, rfl, ⟨_, SqL.of (s6 _ _ eF)⟩, fun D nD => ?_⟩
        have e6 := s6 _ _ eF
        refine lc_it (walk_list (xs := [v0, v1, v2])) (fun k Hx => Same H6 Hx ∧ Hx D = some (.lst (([v0, v1, v2].take k).filter toldV))) ⟨same_new nD, upd_same⟩ (fun k Hx _ hW => SqL.of (hW.1 _ _ e6)) (fun k x Hq Hx hk hW hY2 => ?_) (fun Hx hW => ?_)
        · obtain ⟨sx, eD⟩ := hW
          obtain ⟨rfl, hx⟩ := hY2
          refine ⟨rfl, x, rfl, rfl, _, rfl, ?_⟩
          have hk3 : k ≤ 2 := by
            have := at_lt hx
            simp only [List.length_cons, List.length_nil] at this
            omega
          by_cases hxn : x = .non
          · refine ifN (by simp [hxn]) ⟨sx, ?_⟩
            rw [eD, take_snoc hx, List.filter_append, hxn]
            show _ = some (HO.lst (_ ++ []))
            rw [List.append_nil]
          · refine ifY (by simp [hxn]) ⟨x, rfl, _, eD, ?_, Same.mut sx nD, ?_⟩
            · have := List.length_filter_le toldV ([v0, v1, v2].take k)
              rw [List.length_take] at this
              exact ils (by omega)
            · rw [upd_same, take_snoc hx, List.filter_append]
              have : [x].filter toldV = [x] := by
                simp [toldV, hxn]
              rw [this]
        · obtain ⟨sx, eD⟩ := hW
          rw [show [v0, v1, v2].length = 3 from rfl, show [v0, v1, v2].take 3 = [v0, v1, v2] from rfl] at eD
          refine ⟨D, _, rfl, .inl (SqL.of eD), _, _, rfl, rfl, _, rfl, ifN (decide_eq_false (by omega)) (hY _ _ ⟨rfl, s6.trans sx⟩)⟩
      obtain ⟨rfl, s7⟩ := hE
      -- the rooms of guests, written and read again
      have last : ∀ H8, Same H2 H8 → Q (.bl true) H8 := fun H8 s8 => q _ (s2.trans s8)
      have e7 := s7 _ _ eF
      rcases h0 with ⟨gs, u, ts, rfl, hg, hs, e, G⟩ | ⟨rfl, no⟩
      · have G7 := G.same s7
        have h4 := text_four 58 gs
        rw [← e] at h4
        have hl1 : gs.length ≤ 1000 := by omega
        refine ⟨.ref F, rfl, F, _, 0, .ref u, rfl, rfl, SqL.of e7, atI_nat (j := 0) rfl, rfl, _, rfl, ifY (by simp) ?_⟩
        refine ⟨.ref F, rfl, F, _, 0, .ref u, rfl, rfl, SqL.of e7, atI_nat (j := 0) rfl, u, _, rfl, .inl G7.seq, _, _, rfl, rfl, _, rfl, ?_⟩
        rw [List.length_map, G.len]
        by_cases h61 : gs.length < 61
        · refine ifY (decide_eq_true (by omega)) ?_
          have hR := settle_rms hg.fit hs
          have hpf := settle_flat gs
          have hfl : (settle gs).flatten.length ≤ 60 := by
            rw [hpf.length_eq, List.length_map]
            omega
          have hm : Rml (settle gs) := ⟨hR.sm, hR.ne, by omega⟩
          have tiny := rooms_tiny hm hfl
          refine ⟨.ref F, rfl, F, _, 0, .ref u, rfl, rfl, SqL.of e7, atI_nat (j := 0) rfl, ?_⟩
          refine ⟨.ref F, rfl, F, _, 0, .ref u, rfl, rfl, SqL.of e7, atI_nat (j := 0) rfl, _, u, ts, gs, rfl, G7, hg.fit, hl1, fun H8 o us s8 R8 => ?_⟩
          refine ⟨_, o, us, settle gs, rfl, R8, hm, fun H9 s9 => ?_⟩
          refine ⟨roomsT (settle gs), rfl, roomsT_low _, by omega, fun rs hR2 e2 H10 u2 ts2 s10 R10 => ?_, fun nope => absurd rfl (nope _ hR)⟩
          have e3 := rooms_one hR2 hR e2.symm
          subst e3
          have s810 := s8.trans (s9.trans s10)
          refine ⟨_, u, u2, ts, ts2, gs, settle gs, rfl, G7.same s810, hg.fit, hl1, R10.rd, hpf, fun _ H11 s11 => ⟨rfl, last _ (s7.trans (s810.trans s11))⟩, fun i x z => ?_⟩
          rw [upsetOf_none fun r m => settle_calm hg.fit m] at z
          cases z
        · exact ifN (decide_eq_false (by omega)) (last _ s7)
      · exact ⟨.ref F, rfl, F, _, 0, .non, rfl, rfl, SqL.of e7, atI_nat (j := 0) rfl, rfl, _, rfl, ifN (by simp) (ifN rfl (last _ s7))⟩
end
end El
namespace El
open PySem PySem.Spec PyProof.Rows L2 SX
section
variable {P : Program} {w : World} {K : PySem.W.Frag} {mg : Str → Option Value} {base : Heap}
abbrev s_law : Stmt := topS 45
abbrev N_law : List Str := ["script", "tray", "odd", "k", "some", "menu", "line", "turn"]
abbrev P_law : List Str := ["script"]
theorem sc_law : FnScope N_law P_law (defScope s_law) := ⟨rfl, rfl, rfl, by decide +kernel, rfl, by decide +kernel, by decide +kernel⟩
def sp_law (K : PySem.W.Frag) : Sp := fun vs H Q _ => ∃ (a : Addr) (ns : List Int), vs = [.ref a] ∧ SqL K H a (ns.map V.int) ∧ ns.length ≤ 63 ∧ ∀ H', Q (.bl true) H'
theorem ok_law (A : At K mg "law" P_law s_law) (B : Bi mg) (D__law_tray : Df P w K mg base 1 "_law_tray" P__law_tray s__law_tray (sp__law_tray K)) (D__law_draw : Df P w K mg base 1 "_law_draw" P__law_draw s__law_draw sp__law_draw)
    (D__law_odd : Df P w K mg base 1 "_law_odd" P__law_odd s__law_odd sp__law_odd) (D__law_guests : Df P w K mg base 4 "_law_guests" P__law_guests s__law_guests sp__law_guests)
    (D__law_guests_written : Df P w K mg base 1 "_law_guests_written" P__law_guests_written s__law_guests_written sp__law_guests_written) (D__law_crowds : Df P w K mg base 2 "_law_crowds" P__law_crowds s__law_crowds sp__law_crowds)
    (D__law_crowds_written : Df P w K mg base 1 "_law_crowds_written" P__law_crowds_written s__law_crowds_written sp__law_crowds_written) (D_rooms : Df P w K mg base 2 "rooms" P_rooms s_rooms sp_rooms)
    (D__law_rooms_written : Df P w K mg base 1 "_law_rooms_written" P__law_rooms_written s__law_rooms_written sp__law_rooms_written) (D__law_spoilt : Df P w K mg base 3 "_law_spoilt" P__law_spoilt s__law_spoilt sp__law_spoilt)
    (D__law_kept : Df P w K mg base 7 "_law_kept" P__law_kept s__law_kept sp__law_kept) : Df P w K mg base 8 "law" P_law s_law (sp_law K) := by
  refine A.df fun f fd F => F.ok sc_law (fun vs H Q E h => ?_) (fun cdv AA outer s H vs Q E hr h => ?_)
  · obtain ⟨_, _, rfl, _⟩ := h
    rfl
  · obtain ⟨a, ns, rfl, hS, hl, q⟩ := h
    have nd := sc_law.nd
    refine ⟨_, (pss_cons (ps_set (i := 1) nd rfl (.inl rfl) (pe_df D__law_tray (hr.mono (by decide)) (by rfl) (pa_cons (pv 0) pa_nil)))
    (pss_cons (ps_set (i := 2) nd rfl (.inl rfl) (pe_df0 D__law_odd (hr.mono (by decide)) (by rfl)))
    (pss_cons (ps_for PassesOwn.never rfl (pi_range1 (by rfl) B.range (pa_cons (pe_op op_add pe_int (pe_op op_mul pe_int (pe_callB call_len_seq (by rfl) B.len PySem.boot_len (pa_cons (pe_slice sl_list (pv 0) po_none (po_some pe_int)) pa_nil)))) pa_nil)) (pg_name (i := 3) nd rfl (.inl rfl)) (pss_cons (ps_set (i := 4) nd rfl (.inl rfl) (pe_df D__law_guests (hr.mono (by decide)) (by rfl) (pa_cons (pv 1) (pa_cons pe_int pa_nil)))) (pss_cons (ps_set (i := 5) nd rfl (.inl rfl) (pe_lst (pa_cons (pe_df D__law_guests_written (hr.mono (by decide)) (by rfl) (pa_cons (pv 4) pa_nil)) (pa_cons (pe_df D__law_crowds_written (hr.mono (by decide)) (by rfl) (pa_cons (pe_df D__law_crowds (hr.mono (by decide)) (by rfl) (pa_cons (pv 1) (pa_cons pe_int pa_nil))) pa_nil)) (pa_cons (pe_df D__law_rooms_written (hr.mono (by decide)) (by rfl) (pa_cons (pe_df D_rooms (hr.mono (by decide)) (by rfl) (pa_cons (pv 4) pa_nil)) pa_nil)) pa_nil))))) (pss_cons (ps_set (i := 6) nd rfl (.inl rfl) (pe_ix ix_list (pv 5) (pe_df D__law_draw (hr.mono (by decide)) (by rfl) (pa_cons (pv 1) (pa_cons pe_int pa_nil))) (fun _ _ => rfl))) (pss_cons (ps_if (pt_cmpR op_eq (pe_df D__law_draw (hr.mono (by decide)) (by rfl) (pa_cons (pv 1) (pa_cons pe_int pa_nil))) pe_int (nomark _)) (pss_one (ps_set (i := 6) nd rfl (.inl rfl) (pe_ix ix_list (pv 2) (pe_df D__law_draw (hr.mono (by decide)) (by rfl) (pa_cons (pv 1) (pa_cons (pe_callB call_len_seq (by rfl) B.len PySem.boot_len (pa_cons (pv 2) pa_nil)) pa_nil))) (fun _ _ => rfl)))) pss_nil) (pss_cons (ps_for PassesOwn.never rfl (pi_range1 (by rfl) B.range (pa_cons (pe_ix ix_list (pe_lst (pa_cons pe_int (pa_cons pe_int (pa_cons pe_int (pa_cons pe_int (pa_cons pe_int pa_nil)))))) (pe_df D__law_draw (hr.mono (by decide)) (by rfl) (pa_cons (pv 1) (pa_cons pe_int pa_nil))) (fun _ _ => rfl)) pa_nil)) (pg_name (i := 7) nd rfl (.inl rfl)) (pss_one (ps_set (i := 6) nd rfl (.inl rfl) (pe_df D__law_spoilt (hr.mono (by decide)) (by rfl) (pa_cons (pv 1) (pa_cons (pv 6) (pa_cons (pv 2) pa_nil))))))) (pss_one (ps_if (pt_not (pt_val (pe_df D__law_kept (hr.mono (by decide)) (by rfl) (pa_cons (pe_slice C8.sl_txt (pv 6) po_none (po_some pe_int)) pa_nil)))) (pss_one (ps_ret pe_bl)) pss_nil))))))))
    (pss_one (ps_ret pe_bl))))), ?_⟩
    refine ⟨.ref a, rfl, a, ns, rfl, hS, hl, fun H1 t g s1 nt ng hT => ?_⟩
    dsimp only [gName]
    refine ⟨rfl, fun H2 o os s2 no2 hO => ?_⟩
    have hT2 := hT.keep s2
    have oo : Off t g o := hT.off no2
    dsimp only [gName]
    have hS2 := s2.seq (s1.seq hS)
    refine ⟨.ref a, rfl, 12, rfl, a, _, rfl, hS2, fun c nc => ?_⟩
    rw [show cutV (ns.map V.int) none (some 12) = (ns.map V.int).take 12 from cut_to _ 12, ← List.map_take]
    have hT3 : Tray (upd H2 c (.lst ((ns.take 12).map V.int))) t g 0 := hT2.keep (same_new nc)
    have hO3 := same_new (o := .lst ((ns.take 12).map V.int)) nc _ _ hO.1
    refine ⟨c, _, rfl, .inl (SqL.of upd_same), _, _, rfl, rfl, .inr (by rw [List.length_map, List.length_take]; omega), _, _, rfl, rfl, _, rfl, by omega, by rw [List.length_map, List.length_take]; omega, ?_⟩
    have hlaps : ((6 : Int) + 2 * (((ns.take 12).map V.int).length : Int)).toNat ≤ 30 := by
      rw [List.length_map, List.length_take]
      omega
    generalize upd H2 c (.lst ((ns.take 12).map V.int)) = H3 at hT3 hO3 ⊢
    refine for_it walk_range (fun i σ H2 => ∃ y3 y4 y5 y6 y7, σ = [some (.ref a), some (.ref t), some (.ref o), y3, y4, y5, y6, y7] ∧ Tray H2 t g (2000 * i) ∧ H2 o = some (.lst (txs os))) ⟨_, _, _, _, _, rfl, hT3, hO3⟩ (fun _ _ _ _ _ => trivial) (fun i x σ Hq H4 hi hW hY => ?_) (fun σ H2 hW => ?_)
    · obtain ⟨y3, y4, y5, y6, y7, rfl, T4, eo4⟩ := hW
      obtain ⟨rfl, rfl⟩ := hY
      have hi44 : i ≤ 29 := by omega
      dsimp only [gName]
      -- some
      refine ⟨.ref t, rfl, t, g, _, 20, rfl, T4, by omega, by omega, fun H5 fo ts cs k5 T5 hG5 hno hF hcl hb => ?_⟩
      have hG5 : GsAt H5 (Off t g) fo ts cs := hG5.weaken fun b hb => T4.off hb
      have eo5 := k5 _ _ oo eo4
      dsimp only [gName]
      -- menu, and a line of it
      refine seq_to (fun σ H6 => ∃ (p : Addr) (w0 w1 w2 : List Nat), σ = [some (.ref a), some (.ref t), some (.ref o), some (.int (0 + (i : Int))), some (.ref fo), some (.ref p), y6, y7] ∧ Tray H6 t g (2000 * i + 1200) ∧ H6 o = some (.lst (txs os)) ∧ Off t g p ∧ H6 p = some (.lst (txs [w0, w1, w2])) ∧ (Low w0 ∧ w0.length ≤ 2000) ∧ (Low w1 ∧ w1.length ≤ 2000) ∧ (Low w2 ∧ w2.length ≤ 2000)) (fun Y hY => ?_) (fun σ H6 hE => ?_)
      · refine ⟨.ref fo, rfl, _, fo, ts, cs, rfl, hG5, hF, hb, by omega, fun H6 s6 => ?_⟩
        have T6 := T5.keep s6
        have eo6 := s6 _ _ eo5
        refine ⟨.ref t, rfl, t, g, _, 8, rfl, T6, by omega, by omega, fun H7 co ts2 ds k7 T7 hG7 _ hC hdl hd => ?_⟩
        have eo7 := k7 _ _ oo eo6
        refine ⟨_, co, ts2, ds, rfl, hG7, hd, by omega, fun H8 s8 => ?_⟩
        have hG8 := ((hG5.same s6).keep fun b u z e => k7 b u z e).same s8
        refine ⟨.ref fo, rfl, _, fo, ts, cs, rfl, hG8, hF, by omega, fun H9 o3 us s9 hR9 => ?_⟩
        have hR := settle_rms hF hb
        have hpf := settle_flat cs
        have hfl : (settle cs).flatten.length ≤ 20 := by
          rw [hpf.length_eq, List.length_map]
          omega
        have hm : Rml (settle cs) := ⟨hR.sm, hR.ne, by omega⟩
        have tiny := rooms_tiny hm hfl
        refine ⟨_, o3, us, settle cs, rfl, hR9, hm, fun H10 s10 => ?_⟩
        have s810 := s8.trans (s9.trans s10)
        refine ⟨(by show 3 ≤ sizeLine; decide), fun p np => ?_⟩
        have sp := same_new (o := .lst (txs [textOf 58 (byAge cs), textOf 120 ds, roomsT (settle cs)])) np
        have T10 := (T7.keep s810)
        have l58 := textOf_len (c := 58) (gs := byAge cs) fun x m => hb x ((byAge_perm cs).mem_iff.mp m)
        rw [byAge_length] at l58
        have l120 := textOf_len (c := 120) hd
        exact hY _ _ ⟨p, _, _, _, rfl, (T10.keep sp).more (by omega), sp _ _ (s810 _ _ eo7), T10.off np, upd_same, ⟨textOf_low (by decide) _, by omega⟩, ⟨textOf_low (by decide) _, by omega⟩, ⟨roomsT_low _, by omega⟩⟩
      obtain ⟨p, w0, w1, w2, rfl, T6, eo6, op, ep, hw0, hw1, hw2⟩ := hE
      clear hG5 hno hF hcl hb eo5 T5 k5
      refine seq_to (fun σ H8 => ∃ (l : List Nat) (y7 : Option V), σ = [some (.ref a), some (.ref t), some (.ref o), some (.int (0 + (i : Int))), some (.ref fo), some (.ref p), some (.str (S l)), y7] ∧ Tray H8 t g (2000 * i + 1310) ∧ H8 o = some (.lst (txs os)) ∧ Low l ∧ l.length ≤ 2300) (fun Y hY => ?_) (fun σ H8 hE => ?_)
      · refine ⟨.ref p, rfl, .ref t, rfl, t, g, _, 3, rfl, T6, by omega, by decide, by decide, fun H7 r7 k7 T7 a7 b7 => ?_⟩
        obtain ⟨m, rfl⟩ : ∃ m : Nat, r7 = m := ⟨r7.toNat, by omega⟩
        obtain ⟨x, ex⟩ := at_some (l := [w0, w1, w2]) (i := m) (by show m < 3; omega)
        have hx : Low x ∧ x.length ≤ 2000 := by
          have mx := List.mem_of_getElem? ex
          simp only [List.mem_cons, List.not_mem_nil, or_false] at mx
          rcases mx with rfl | rfl | rfl
          · exact hw0
          · exact hw1
          · exact hw2
        refine ⟨p, _, _, _, rfl, rfl, SqL.of (k7 _ _ op ep), atI_nat (txs_at ex), ?_⟩
        exact hY _ _ ⟨x, _, rfl, T7.more (by omega), k7 _ _ oo eo6, hx.1, by omega⟩
      clear T6 eo6 ep hw0 hw1 hw2
      obtain ⟨l, y7, rfl, T8, eo8, hlow, htl⟩ := hE
      -- an odd one
      refine seq_to (fun σ H8 => ∃ (l : List Nat) (y7 : Option V), σ = [some (.ref a), some (.ref t), some (.ref o), some (.int (0 + (i : Int))), some (.ref fo), some (.ref p), some (.str (S l)), y7] ∧ Tray H8 t g (2000 * i + 1320) ∧ H8 o = some (.lst (txs os)) ∧ Low l ∧ l.length ≤ 2300) (fun Y hY => ?_) (fun σ H9 hE => ?_)
      · refine ⟨.ref t, rfl, t, g, _, 10, rfl, T8, by omega, by decide, by decide, fun H9 r9 k9 T9 a9 b9 => ⟨rfl, _, rfl, ?_⟩⟩
        have eo9 := k9 _ _ oo eo8
        by_cases h0 : r9 = 0
        · refine ifY (by rw [h0]; rfl) ?_
          have := hO.2.2.2.1
          have := hO.2.2.2.2
          refine ⟨.ref o, rfl, .ref t, rfl, .ref o, rfl, o, _, rfl, .inl (SqL.of eo9), t, g, _, _, rfl, T9, by omega, ?_, ?_, fun H10 r10 k10 T10 a10 b10 => ?_⟩
          · rw [txs_len]
            omega
          · rw [txs_len]
            exact Int.lt_of_lt_of_le (show (os.length : Int) < 101 by omega) (by decide)
          rw [txs_len] at b10
          obtain ⟨m, rfl⟩ : ∃ m : Nat, r10 = m := ⟨r10.toNat, by omega⟩
          obtain ⟨s, es⟩ := at_some (l := os) (i := m) (by omega)
          have eo10 := k10 _ _ oo eo9
          refine ⟨o, _, _, _, rfl, rfl, SqL.of eo10, atI_nat (txs_at es), ?_⟩
          exact hY _ _ ⟨s, _, rfl, T10.more (by omega), eo10, hO.2.1 s (List.mem_of_getElem? es), by have := hO.2.2.1 s (List.mem_of_getElem? es); omega⟩
        · refine ifN (by show decide (V.int r9 = V.int 0) = false; simp [h0]) ?_
          exact hY _ _ ⟨l, _, rfl, T9.more (by omega), eo9, hlow, by omega⟩
      clear T8 eo8 hlow htl
      obtain ⟨l, y7, rfl, T9, eo9, hlow, htl⟩ := hE
      -- spoilt
      refine seq_to (fun σ H8 => ∃ (l : List Nat) (y7 : Option V), σ = [some (.ref a), some (.ref t), some (.ref o), some (.int (0 + (i : Int))), some (.ref fo), some (.ref p), some (.str (S l)), y7] ∧ Tray H8 t g (2000 * i + 1400) ∧ H8 o = some (.lst (txs os)) ∧ Low l ∧ l.length ≤ 70000) (fun Y hY => ?_) (fun σ H10 hE => ?_)
      · refine ⟨(by show 5 ≤ sizeLine; decide), fun p5 np => ?_⟩
        have op : Off t g p5 := T9.off np
        refine ⟨.ref t, rfl, t, g, _, 5, rfl, T9.mut op, by omega, by decide, by decide, fun H11 r11 k11 T11 a11 b11 => ?_⟩
        have eo11 := k11 _ _ oo (same_new (o := .lst [.int 0, .int 1, .int 1, .int 2, .int 3]) np _ _ eo9)
        obtain ⟨v, hv, mv⟩ := at_pick (xs := [V.int 0, .int 1, .int 1, .int 2, .int 3]) a11 b11
        have ev : ∃ m : Nat, v = .int (m : Int) ∧ m ≤ 3 := by
          rcases List.mem_cons.mp mv with rfl | mv
          · exact ⟨0, rfl, by decide⟩
          rcases List.mem_cons.mp mv with rfl | mv
          · exact ⟨1, rfl, by decide⟩
          rcases List.mem_cons.mp mv with rfl | mv
          · exact ⟨1, rfl, by decide⟩
          rcases List.mem_cons.mp mv with rfl | mv
          · exact ⟨2, rfl, by decide⟩
          rw [List.mem_singleton.mp mv]
          exact ⟨3, rfl, by decide⟩
        obtain ⟨m, rfl, hm⟩ := ev
        refine ⟨p5, _, _, .int m, rfl, rfl, SqL.of (k11 _ _ op upd_same), hv, _, rfl, by omega, by omega, ?_⟩
        refine for_it walk_range (fun j σ Hx => ∃ (l : List Nat) (y7 : Option V), σ = [some (.ref a), some (.ref t), some (.ref o), some (.int (0 + (i : Int))), some (.ref fo), some (.ref p), some (.str (S l)), y7] ∧ Tray Hx t g (2000 * i + 1321 + 15 * j) ∧ Hx o = some (.lst (txs os)) ∧ Low l ∧ l.length + 50 ≤ 2350 * 3 ^ j) ⟨l, _, rfl, T11, eo11, hlow, by omega⟩ (fun _ _ _ _ _ => trivial) (fun j x σ Hq Hx hj hW hY => ?_) (fun σ Hx hW => ?_)
        · obtain ⟨l, y7, rfl, Tx, eox, hlow, hlx⟩ := hW
          obtain ⟨rfl, rfl⟩ := hY
          have hj3 : j = 0 ∨ j = 1 ∨ j = 2 := by omega
          have h9 : 3 ^ j ≤ 9 := by rcases hj3 with rfl | rfl | rfl <;> decide
          dsimp only [gName]
          refine ⟨.ref t, rfl, .str (S l), rfl, .ref o, rfl, t, g, o, _, l, os, rfl, Tx, by omega, hlow, by omega, ⟨eox, hO.2⟩, oo, fun H' l' k T h1 h2 => ?_⟩
          refine ⟨l', _, rfl, T.more (by omega), k _ _ oo eox, h1, ?_⟩
          rw [Nat.pow_succ]
          omega
        · obtain ⟨l, y7, rfl, Tx, eox, hlow, hlx⟩ := hW
          have hm' : ((m : Int)).toNat = 0 ∨ ((m : Int)).toNat = 1 ∨ ((m : Int)).toNat = 2 ∨ ((m : Int)).toNat = 3 := by omega
          have h27 : 3 ^ ((m : Int)).toNat ≤ 27 := by rcases hm' with e | e | e | e <;> rw [e] <;> decide
          exact hY _ _ ⟨l, _, rfl, Tx.more (by omega), eox, hlow, by omega⟩
      obtain ⟨l2, y7, rfl, T10, eo10, hlow2, htl2⟩ := hE
      refine ⟨.str (S l2), rfl, _, rfl, S l2, rfl, by rw [S_len]; exact ile (by omega), ?_⟩
      rw [slice_to (by decide)]
      refine ⟨_, rfl, low_take hlow2 _, by rw [List.length_take]; show min 4000 _ ≤ 4000; omega, fun H12 s12 => ⟨_, rfl, ifN rfl ?_⟩⟩
      exact ⟨_, _, _, _, _, rfl, (T10.keep s12).more (by omega), s12 _ _ eo10⟩
    · exact q _
end
end El
namespace El
open PySem PySem.Spec PyProof.Rows L2
theorem all_mk {l : PySem.W.OpenLaw} {w : World} {K : PySem.W.Frag} {h : Heap} {mg : Str → Option Value} {fa f1 f2 f3 f4 f5 f6 f7 f8 f9 f10 f11 f12 f13 f14 f15 f16 f17 f18 f19 f20 f21 f22 f23 f24 f25 f26 f27 f28 f29 f30 f31 f32 f33 f34 f35 : Addr} (X : K.In h) (G : h.Ns mainGlobals mg) (hfa : mg "law" = some (.ref fa))
    {od1 an1 od2 an2 od3 an3 od4 an4 od5 an5 od6 an6 od7 an7 od8 an8 od9 an9 od10 an10 od11 an11 od12 an12 od13 an13 od14 an14 od15 an15 od16 an16 od17 an17 od18 an18 od19 an19 od20 an20 od21 an21 od22 an22 od23 an23 od24 an24 od25 an25 od26 an26 od27 an27 od28 an28 od29 an29 od30 an30 od31 an31 od32 an32 od33 an33 od34 an34 od35 an35 : Option Addr} {sl1 sl2 sl3 sl4 sl5 sl6 sl7 sl8 sl9 sl10 sl11 sl12 sl13 sl14 sl15 sl16 sl17 sl18 sl19 sl20 sl21 sl22 sl23 sl24 sl25 sl26 sl27 sl28 sl29 sl30 sl31 sl32 sl33 sl34 sl35 : Array (Option Value)} {oc1 kV1 dc1 pm1 cd1 ct1 oc2 kV2 dc2 pm2 cd2 ct2 oc3 kV3 dc3 pm3 cd3 ct3 oc4 kV4 dc4 pm4 cd4 ct4 oc5 kV5 dc5 pm5 cd5 ct5 oc6 kV6 dc6 pm6 cd6 ct6 oc7 kV7 dc7 pm7 cd7 ct7 oc8 kV8 dc8 pm8 cd8 ct8 oc9 kV9 dc9 pm9 cd9 ct9 oc10 kV10 dc10 pm10 cd10 ct10 oc11 kV11 dc11 pm11 cd11 ct11 oc12 kV12 dc12 pm12 cd12 ct12 oc13 kV13 dc13 pm13 cd13 ct13 oc14 kV14 dc14 pm14 cd14 ct14 oc15 kV15 dc15 pm15 cd15 ct15 oc16 kV16 dc16 pm16 cd16 ct16 oc17 kV17 dc17 pm17 cd17 ct17 oc18 kV18 dc18 pm18 cd18 ct18 oc19 kV19 dc19 pm19 cd19 ct19 oc20 kV20 dc20 pm20 cd20 ct20 oc21 kV21 dc21 pm21 cd21 ct21 oc22 kV22 dc22 pm22 cd22 ct22 oc23 kV23 dc23 pm23 cd23 ct23 oc24 kV24 dc24 pm24 cd24 ct24 oc25 kV25 dc25 pm25 cd25 ct25 oc26 kV26 dc26 pm26 cd26 ct26 oc27 kV27 dc27 pm27 cd27 ct27 oc28 kV28 dc28 pm28 cd28 ct28 oc29 kV29 dc29 pm29 cd29 ct29 oc30 kV30 dc30 pm30 cd30 ct30 oc31 kV31 dc31 pm31 cd31 ct31 oc32 kV32 dc32 pm32 cd32 ct32 oc33 kV33 dc33 pm33 cd33 ct33 oc34 kV34 dc34 pm34 cd34 ct34 oc35 kV35 dc35 pm35 cd35 ct35 : Value}
    (a1 : PySem.W.nsIn K mainGlobals "is_number" = some (some (.ref f1))) (l1 : K.lookup f1 = some ⟨oc1, od1, .func (PySem.W.fnOf "is_number" "is_number" (defArgs s_is_number) (defBody s_is_number) (defScope s_is_number) .none kV1 dc1 pm1 an1 cd1 ct1), sl1⟩) (c1 : PySem.W.codeIn K cd1 "is_number" = true) (k1 : PySem.W.keepIn K (.ref f1) = true)
    (a2 : PySem.W.nsIn K mainGlobals "read_numbers" = some (some (.ref f2))) (l2 : K.lookup f2 = some ⟨oc2, od2, .func (PySem.W.fnOf "read_numbers" "read_numbers" (defArgs s_read_numbers) (defBody s_read_numbers) (defScope s_read_numbers) .none kV2 dc2 pm2 an2 cd2 ct2), sl2⟩) (c2 : PySem.W.codeIn K cd2 "read_numbers" = true) (k2 : PySem.W.keepIn K (.ref f2) = true)
    (a3 : PySem.W.nsIn K mainGlobals "parts_of" = some (some (.ref f3))) (l3 : K.lookup f3 = some ⟨oc3, od3, .func (PySem.W.fnOf "parts_of" "parts_of" (defArgs s_parts_of) (defBody s_parts_of) (defScope s_parts_of) .none kV3 dc3 pm3 an3 cd3 ct3), sl3⟩) (c3 : PySem.W.codeIn K cd3 "parts_of" = true) (k3 : PySem.W.keepIn K (.ref f3) = true)
    (a4 : PySem.W.nsIn K mainGlobals "falls" = some (some (.ref f4))) (l4 : K.lookup f4 = some ⟨oc4, od4, .func (PySem.W.fnOf "falls" "falls" (defArgs s_falls) (defBody s_falls) (defScope s_falls) .none kV4 dc4 pm4 an4 cd4 ct4), sl4⟩) (c4 : PySem.W.codeIn K cd4 "falls" = true) (k4 : PySem.W.keepIn K (.ref f4) = true)
    (a5 : PySem.W.nsIn K mainGlobals "read_twos" = some (some (.ref f5))) (l5 : K.lookup f5 = some ⟨oc5, od5, .func (PySem.W.fnOf "read_twos" "read_twos" (defArgs s_read_twos) (defBody s_read_twos) (defScope s_read_twos) .none kV5 dc5 pm5 an5 cd5 ct5), sl5⟩) (c5 : PySem.W.codeIn K cd5 "read_twos" = true) (k5 : PySem.W.keepIn K (.ref f5) = true)
    (a6 : PySem.W.nsIn K mainGlobals "is_crowd" = some (some (.ref f6))) (l6 : K.lookup f6 = some ⟨oc6, od6, .func (PySem.W.fnOf "is_crowd" "is_crowd" (defArgs s_is_crowd) (defBody s_is_crowd) (defScope s_is_crowd) .none kV6 dc6 pm6 an6 cd6 ct6), sl6⟩) (c6 : PySem.W.codeIn K cd6 "is_crowd" = true) (k6 : PySem.W.keepIn K (.ref f6) = true)
    (a7 : PySem.W.nsIn K mainGlobals "read_guests" = some (some (.ref f7))) (l7 : K.lookup f7 = some ⟨oc7, od7, .func (PySem.W.fnOf "read_guests" "read_guests" (defArgs s_read_guests) (defBody s_read_guests) (defScope s_read_guests) .none kV7 dc7 pm7 an7 cd7 ct7), sl7⟩) (c7 : PySem.W.codeIn K cd7 "read_guests" = true) (k7 : PySem.W.keepIn K (.ref f7) = true)
    (a8 : PySem.W.nsIn K mainGlobals "read_crowds" = some (some (.ref f8))) (l8 : K.lookup f8 = some ⟨oc8, od8, .func (PySem.W.fnOf "read_crowds" "read_crowds" (defArgs s_read_crowds) (defBody s_read_crowds) (defScope s_read_crowds) .none kV8 dc8 pm8 an8 cd8 ct8), sl8⟩) (c8 : PySem.W.codeIn K cd8 "read_crowds" = true) (k8 : PySem.W.keepIn K (.ref f8) = true)
    (a9 : PySem.W.nsIn K mainGlobals "read_rooms" = some (some (.ref f9))) (l9 : K.lookup f9 = some ⟨oc9, od9, .func (PySem.W.fnOf "read_rooms" "read_rooms" (defArgs s_read_rooms) (defBody s_read_rooms) (defScope s_read_rooms) .none kV9 dc9 pm9 an9 cd9 ct9), sl9⟩) (c9 : PySem.W.codeIn K cd9 "read_rooms" = true) (k9 : PySem.W.keepIn K (.ref f9) = true)
    (a10 : PySem.W.nsIn K mainGlobals "show_guests" = some (some (.ref f10))) (l10 : K.lookup f10 = some ⟨oc10, od10, .func (PySem.W.fnOf "show_guests" "show_guests" (defArgs s_show_guests) (defBody s_show_guests) (defScope s_show_guests) .none kV10 dc10 pm10 an10 cd10 ct10), sl10⟩) (c10 : PySem.W.codeIn K cd10 "show_guests" = true) (k10 : PySem.W.keepIn K (.ref f10) = true)
    (a11 : PySem.W.nsIn K mainGlobals "show_crowds" = some (some (.ref f11))) (l11 : K.lookup f11 = some ⟨oc11, od11, .func (PySem.W.fnOf "show_crowds" "show_crowds" (defArgs s_show_crowds) (defBody s_show_crowds) (defScope s_show_crowds) .none kV11 dc11 pm11 an11 cd11 ct11), sl11⟩) (c11 : PySem.W.codeIn K cd11 "show_crowds" = true) (k11 : PySem.W.keepIn K (.ref f11) = true)
    (a12 : PySem.W.nsIn K mainGlobals "show_rooms" = some (some (.ref f12))) (l12 : K.lookup f12 = some ⟨oc12, od12, .func (PySem.W.fnOf "show_rooms" "show_rooms" (defArgs s_show_rooms) (defBody s_show_rooms) (defScope s_show_rooms) .none kV12 dc12 pm12 an12 cd12 ct12), sl12⟩) (c12 : PySem.W.codeIn K cd12 "show_rooms" = true) (k12 : PySem.W.keepIn K (.ref f12) = true)
    (a13 : PySem.W.nsIn K mainGlobals "patience_by_age" = some (some (.ref f13))) (l13 : K.lookup f13 = some ⟨oc13, od13, .func (PySem.W.fnOf "patience_by_age" "patience_by_age" (defArgs s_patience_by_age) (defBody s_patience_by_age) (defScope s_patience_by_age) .none kV13 dc13 pm13 an13 cd13 ct13), sl13⟩) (c13 : PySem.W.codeIn K cd13 "patience_by_age" = true) (k13 : PySem.W.keepIn K (.ref f13) = true)
    (a14 : PySem.W.nsIn K mainGlobals "check_arrangement" = some (some (.ref f14))) (l14 : K.lookup f14 = some ⟨oc14, od14, .func (PySem.W.fnOf "check_arrangement" "check_arrangement" (defArgs s_check_arrangement) (defBody s_check_arrangement) (defScope s_check_arrangement) .none kV14 dc14 pm14 an14 cd14 ct14), sl14⟩) (c14 : PySem.W.codeIn K cd14 "check_arrangement" = true) (k14 : PySem.W.keepIn K (.ref f14) = true)
    (a15 : PySem.W.nsIn K mainGlobals "eldest_upset" = some (some (.ref f15))) (l15 : K.lookup f15 = some ⟨oc15, od15, .func (PySem.W.fnOf "eldest_upset" "eldest_upset" (defArgs s_eldest_upset) (defBody s_eldest_upset) (defScope s_eldest_upset) .none kV15 dc15 pm15 an15 cd15 ct15), sl15⟩) (c15 : PySem.W.codeIn K cd15 "eldest_upset" = true) (k15 : PySem.W.keepIn K (.ref f15) = true)
    (a16 : PySem.W.nsIn K mainGlobals "upset" = some (some (.ref f16))) (l16 : K.lookup f16 = some ⟨oc16, od16, .func (PySem.W.fnOf "upset" "upset" (defArgs s_upset) (defBody s_upset) (defScope s_upset) .none kV16 dc16 pm16 an16 cd16 ct16), sl16⟩) (c16 : PySem.W.codeIn K cd16 "upset" = true) (k16 : PySem.W.keepIn K (.ref f16) = true)
    (a17 : PySem.W.nsIn K mainGlobals "first_borne" = some (some (.ref f17))) (l17 : K.lookup f17 = some ⟨oc17, od17, .func (PySem.W.fnOf "first_borne" "first_borne" (defArgs s_first_borne) (defBody s_first_borne) (defScope s_first_borne) .none kV17 dc17 pm17 an17 cd17 ct17), sl17⟩) (c17 : PySem.W.codeIn K cd17 "first_borne" = true) (k17 : PySem.W.keepIn K (.ref f17) = true)
    (a18 : PySem.W.nsIn K mainGlobals "rooms" = some (some (.ref f18))) (l18 : K.lookup f18 = some ⟨oc18, od18, .func (PySem.W.fnOf "rooms" "rooms" (defArgs s_rooms) (defBody s_rooms) (defScope s_rooms) .none kV18 dc18 pm18 an18 cd18 ct18), sl18⟩) (c18 : PySem.W.codeIn K cd18 "rooms" = true) (k18 : PySem.W.keepIn K (.ref f18) = true)
    (a19 : PySem.W.nsIn K mainGlobals "_law_tray" = some (some (.ref f19))) (l19 : K.lookup f19 = some ⟨oc19, od19, .func (PySem.W.fnOf "_law_tray" "_law_tray" (defArgs s__law_tray) (defBody s__law_tray) (defScope s__law_tray) .none kV19 dc19 pm19 an19 cd19 ct19), sl19⟩) (c19 : PySem.W.codeIn K cd19 "_law_tray" = true) (k19 : PySem.W.keepIn K (.ref f19) = true)
    (a20 : PySem.W.nsIn K mainGlobals "_law_draw" = some (some (.ref f20))) (l20 : K.lookup f20 = some ⟨oc20, od20, .func (PySem.W.fnOf "_law_draw" "_law_draw" (defArgs s__law_draw) (defBody s__law_draw) (defScope s__law_draw) .none kV20 dc20 pm20 an20 cd20 ct20), sl20⟩) (c20 : PySem.W.codeIn K cd20 "_law_draw" = true) (k20 : PySem.W.keepIn K (.ref f20) = true)
    (a21 : PySem.W.nsIn K mainGlobals "_law_shuffled" = some (some (.ref f21))) (l21 : K.lookup f21 = some ⟨oc21, od21, .func (PySem.W.fnOf "_law_shuffled" "_law_shuffled" (defArgs s__law_shuffled) (defBody s__law_shuffled) (defScope s__law_shuffled) .none kV21 dc21 pm21 an21 cd21 ct21), sl21⟩) (c21 : PySem.W.codeIn K cd21 "_law_shuffled" = true) (k21 : PySem.W.keepIn K (.ref f21) = true)
    (a22 : PySem.W.nsIn K mainGlobals "_law_ages" = some (some (.ref f22))) (l22 : K.lookup f22 = some ⟨oc22, od22, .func (PySem.W.fnOf "_law_ages" "_law_ages" (defArgs s__law_ages) (defBody s__law_ages) (defScope s__law_ages) .none kV22 dc22 pm22 an22 cd22 ct22), sl22⟩) (c22 : PySem.W.codeIn K cd22 "_law_ages" = true) (k22 : PySem.W.keepIn K (.ref f22) = true)
    (a23 : PySem.W.nsIn K mainGlobals "_law_patience" = some (some (.ref f23))) (l23 : K.lookup f23 = some ⟨oc23, od23, .func (PySem.W.fnOf "_law_patience" "_law_patience" (defArgs s__law_patience) (defBody s__law_patience) (defScope s__law_patience) .none kV23 dc23 pm23 an23 cd23 ct23), sl23⟩) (c23 : PySem.W.codeIn K cd23 "_law_patience" = true) (k23 : PySem.W.keepIn K (.ref f23) = true)
    (a24 : PySem.W.nsIn K mainGlobals "_law_guests" = some (some (.ref f24))) (l24 : K.lookup f24 = some ⟨oc24, od24, .func (PySem.W.fnOf "_law_guests" "_law_guests" (defArgs s__law_guests) (defBody s__law_guests) (defScope s__law_guests) .none kV24 dc24 pm24 an24 cd24 ct24), sl24⟩) (c24 : PySem.W.codeIn K cd24 "_law_guests" = true) (k24 : PySem.W.keepIn K (.ref f24) = true)
    (a25 : PySem.W.nsIn K mainGlobals "_law_guests_written" = some (some (.ref f25))) (l25 : K.lookup f25 = some ⟨oc25, od25, .func (PySem.W.fnOf "_law_guests_written" "_law_guests_written" (defArgs s__law_guests_written) (defBody s__law_guests_written) (defScope s__law_guests_written) .none kV25 dc25 pm25 an25 cd25 ct25), sl25⟩) (c25 : PySem.W.codeIn K cd25 "_law_guests_written" = true) (k25 : PySem.W.keepIn K (.ref f25) = true)
    (a26 : PySem.W.nsIn K mainGlobals "_law_crowds" = some (some (.ref f26))) (l26 : K.lookup f26 = some ⟨oc26, od26, .func (PySem.W.fnOf "_law_crowds" "_law_crowds" (defArgs s__law_crowds) (defBody s__law_crowds) (defScope s__law_crowds) .none kV26 dc26 pm26 an26 cd26 ct26), sl26⟩) (c26 : PySem.W.codeIn K cd26 "_law_crowds" = true) (k26 : PySem.W.keepIn K (.ref f26) = true)
    (a27 : PySem.W.nsIn K mainGlobals "_law_crowds_written" = some (some (.ref f27))) (l27 : K.lookup f27 = some ⟨oc27, od27, .func (PySem.W.fnOf "_law_crowds_written" "_law_crowds_written" (defArgs s__law_crowds_written) (defBody s__law_crowds_written) (defScope s__law_crowds_written) .none kV27 dc27 pm27 an27 cd27 ct27), sl27⟩) (c27 : PySem.W.codeIn K cd27 "_law_crowds_written" = true) (k27 : PySem.W.keepIn K (.ref f27) = true)
    (a28 : PySem.W.nsIn K mainGlobals "_law_rooms_written" = some (some (.ref f28))) (l28 : K.lookup f28 = some ⟨oc28, od28, .func (PySem.W.fnOf "_law_rooms_written" "_law_rooms_written" (defArgs s__law_rooms_written) (defBody s__law_rooms_written) (defScope s__law_rooms_written) .none kV28 dc28 pm28 an28 cd28 ct28), sl28⟩) (c28 : PySem.W.codeIn K cd28 "_law_rooms_written" = true) (k28 : PySem.W.keepIn K (.ref f28) = true)
    (a29 : PySem.W.nsIn K mainGlobals "_law_sign" = some (some (.ref f29))) (l29 : K.lookup f29 = some ⟨oc29, od29, .func (PySem.W.fnOf "_law_sign" "_law_sign" (defArgs s__law_sign) (defBody s__law_sign) (defScope s__law_sign) .none kV29 dc29 pm29 an29 cd29 ct29), sl29⟩) (c29 : PySem.W.codeIn K cd29 "_law_sign" = true) (k29 : PySem.W.keepIn K (.ref f29) = true)
    (a30 : PySem.W.nsIn K mainGlobals "_law_parts_spoilt" = some (some (.ref f30))) (l30 : K.lookup f30 = some ⟨oc30, od30, .func (PySem.W.fnOf "_law_parts_spoilt" "_law_parts_spoilt" (defArgs s__law_parts_spoilt) (defBody s__law_parts_spoilt) (defScope s__law_parts_spoilt) .none kV30 dc30 pm30 an30 cd30 ct30), sl30⟩) (c30 : PySem.W.codeIn K cd30 "_law_parts_spoilt" = true) (k30 : PySem.W.keepIn K (.ref f30) = true)
    (a31 : PySem.W.nsIn K mainGlobals "_law_spoilt" = some (some (.ref f31))) (l31 : K.lookup f31 = some ⟨oc31, od31, .func (PySem.W.fnOf "_law_spoilt" "_law_spoilt" (defArgs s__law_spoilt) (defBody s__law_spoilt) (defScope s__law_spoilt) .none kV31 dc31 pm31 an31 cd31 ct31), sl31⟩) (c31 : PySem.W.codeIn K cd31 "_law_spoilt" = true) (k31 : PySem.W.keepIn K (.ref f31) = true)
    (a32 : PySem.W.nsIn K mainGlobals "_law_odd" = some (some (.ref f32))) (l32 : K.lookup f32 = some ⟨oc32, od32, .func (PySem.W.fnOf "_law_odd" "_law_odd" (defArgs s__law_odd) (defBody s__law_odd) (defScope s__law_odd) .none kV32 dc32 pm32 an32 cd32 ct32), sl32⟩) (c32 : PySem.W.codeIn K cd32 "_law_odd" = true) (k32 : PySem.W.keepIn K (.ref f32) = true)
    (a33 : PySem.W.nsIn K mainGlobals "_law_told" = some (some (.ref f33))) (l33 : K.lookup f33 = some ⟨oc33, od33, .func (PySem.W.fnOf "_law_told" "_law_told" (defArgs s__law_told) (defBody s__law_told) (defScope s__law_told) .none kV33 dc33 pm33 an33 cd33 ct33), sl33⟩) (c33 : PySem.W.codeIn K cd33 "_law_told" = true) (k33 : PySem.W.keepIn K (.ref f33) = true)
    (a34 : PySem.W.nsIn K mainGlobals "_law_kept" = some (some (.ref f34))) (l34 : K.lookup f34 = some ⟨oc34, od34, .func (PySem.W.fnOf "_law_kept" "_law_kept" (defArgs s__law_kept) (defBody s__law_kept) (defScope s__law_kept) .none kV34 dc34 pm34 an34 cd34 ct34), sl34⟩) (c34 : PySem.W.codeIn K cd34 "_law_kept" = true) (k34 : PySem.W.keepIn K (.ref f34) = true)
    (a35 : PySem.W.nsIn K mainGlobals "law" = some (some (.ref f35))) (l35 : K.lookup f35 = some ⟨oc35, od35, .func (PySem.W.fnOf "law" "law" (defArgs s_law) (defBody s_law) (defScope s_law) .none kV35 dc35 pm35 an35 cd35 ct35), sl35⟩) (c35 : PySem.W.codeIn K cd35 "law" = true) (k35 : PySem.W.keepIn K (.ref f35) = true)
    {C0 : Addr} {CNoGuest fNoGuest NNoGuest : Addr} {nmNoGuest qNoGuest : Str} {bsNoGuest subNoGuest : List Value} {snNoGuest : List Str} {abNoGuest : Bool} {colNoGuest : Option Bool} {ddNoGuest odNoGuest anNoGuest : Option Addr} {m0NoGuest m1NoGuest m2NoGuest m3NoGuest m5NoGuest : Option Value} {ocNoGuest kVNoGuest dcNoGuest pmNoGuest cdNoGuest ctNoGuest : Value} {oslNoGuest : Array (Option Value)} {CNoRoom fNoRoom NNoRoom : Addr} {nmNoRoom qNoRoom : Str} {bsNoRoom subNoRoom : List Value} {snNoRoom : List Str} {abNoRoom : Bool} {colNoRoom : Option Bool} {ddNoRoom odNoRoom anNoRoom : Option Addr} {m0NoRoom m1NoRoom m2NoRoom m3NoRoom m5NoRoom : Option Value} {ocNoRoom kVNoRoom dcNoRoom pmNoRoom cdNoRoom ctNoRoom : Value} {oslNoRoom : Array (Option Value)} {CNoText fNoText NNoText : Addr} {nmNoText qNoText : Str} {bsNoText subNoText : List Value} {snNoText : List Str} {abNoText : Bool} {colNoText : Option Bool} {ddNoText odNoText anNoText : Option Addr} {m0NoText m1NoText m2NoText m3NoText m5NoText : Option Value} {ocNoText kVNoText dcNoText pmNoText cdNoText ctNoText : Value} {oslNoText : Array (Option Value)} {tMF : Tok}
    (aC0 : PySem.W.nsIn K mainGlobals "InnError" = some (some (.ref C0)))
    (rd0 : PySem.W.readsIn K C0 (.type "type") = true)
    (sg0 : PySem.W.specialIn K (.ref C0) "__getattribute__" = some (some (.builtin "type.__getattribute__")))
    (fc0 : PySem.W.findCls K (.ref C0) (.type "type") "__init__" = some (.val (.builtin "ValueError.__init__")))
    (eC0 : PySem.W.subIn K (.ref C0) (.type "BaseException") = some true)
    (hC0 : PySem.W.hasDictIn K C0 = true)
    (tC0 : PySem.W.typeIn K (.ref C0) = some (.type "type"))
    (jn : PySem.W.specialIn K (.builtin "object.__class__") "__get__" = some (some (.builtin "getset_descriptor.__get__")))
    (jt : PySem.W.takesIn K (.builtin "object.__class__") = some true)
    (gNoGuest : PySem.W.nsIn K mainGlobals "NoGuest" = some (some (.ref CNoGuest)))
    (xlNoGuest : K.lookup CNoGuest = some (excClassObj nmNoGuest qNoGuest CNoGuest NNoGuest bsNoGuest [.ref C0, .type "ValueError", .type "Exception", .type "BaseException", .type "object"] true snNoGuest subNoGuest abNoGuest colNoGuest ddNoGuest m0NoGuest m1NoGuest m2NoGuest m3NoGuest m5NoGuest "ValueError.__new__"))
    (saNoGuest : PySem.W.findIn K (.ref CNoGuest) "__setattr__" = some (some (.builtin "object.__setattr__")))
    (gaNoGuest : PySem.W.findIn K (.ref CNoGuest) "__getattribute__" = some (some (.builtin "BaseException.__getattribute__")))
    (ggNoGuest : PySem.W.findIn K (.ref CNoGuest) "__getattr__" = some none)
    (nwNoGuest : PySem.W.findIn K (.ref CNoGuest) "what" = some none)
    (aiNoGuest : PySem.W.findIn K (.ref CNoGuest) "__init__" = some (some (.ref fNoGuest)))
    (tiNoGuest : PySem.W.typeIn K (.ref fNoGuest) = some (.type "function"))
    (liNoGuest : K.lookup fNoGuest = some ⟨ocNoGuest, odNoGuest, .func (PySem.W.fnOf "__init__" "NoGuest.__init__" (defArgs sI_NoGuest) (defBody sI_NoGuest) (defScope sI_NoGuest) .none kVNoGuest dcNoGuest pmNoGuest anNoGuest cdNoGuest ctNoGuest), oslNoGuest⟩)
    (ciNoGuest : PySem.W.codeIn K cdNoGuest "NoGuest.__init__" = true)
    (kiNoGuest : PySem.W.keepIn K (.ref fNoGuest) = true)
    (kCNoGuest : PySem.W.keepIn K (.ref CNoGuest) = true)
    (eCNoGuest : PySem.W.subIn K (.ref CNoGuest) (.type "BaseException") = some true)
    (tCNoGuest : PySem.W.typeIn K (.ref CNoGuest) = some (.type "type"))
    (hCNoGuest : PySem.W.hasDictIn K CNoGuest = true)
    (clNoGuest : PySem.W.isClsIn K CNoGuest = true)
    (svNoGuest : PySem.W.subIn K (.ref CNoGuest) (.type "ValueError") = some true)
    (acNoGuest : PySem.W.findIn K (.ref CNoGuest) "__class__" = some (some (.builtin "object.__class__")))
    (moNoGuest : PySem.W.mroIn K CNoGuest (.type "object") = some true)
    (suNoGuest : PySem.W.subIn K (.ref CNoGuest) (.ref C0) = some true)
    (gNoRoom : PySem.W.nsIn K mainGlobals "NoRoom" = some (some (.ref CNoRoom)))
    (xlNoRoom : K.lookup CNoRoom = some (excClassObj nmNoRoom qNoRoom CNoRoom NNoRoom bsNoRoom [.ref C0, .type "ValueError", .type "Exception", .type "BaseException", .type "object"] true snNoRoom subNoRoom abNoRoom colNoRoom ddNoRoom m0NoRoom m1NoRoom m2NoRoom m3NoRoom m5NoRoom "ValueError.__new__"))
    (saNoRoom : PySem.W.findIn K (.ref CNoRoom) "__setattr__" = some (some (.builtin "object.__setattr__")))
    (gaNoRoom : PySem.W.findIn K (.ref CNoRoom) "__getattribute__" = some (some (.builtin "BaseException.__getattribute__")))
    (ggNoRoom : PySem.W.findIn K (.ref CNoRoom) "__getattr__" = some none)
    (nwNoRoom : PySem.W.findIn K (.ref CNoRoom) "what" = some none)
    (aiNoRoom : PySem.W.findIn K (.ref CNoRoom) "__init__" = some (some (.ref fNoRoom)))
    (tiNoRoom : PySem.W.typeIn K (.ref fNoRoom) = some (.type "function"))
    (liNoRoom : K.lookup fNoRoom = some ⟨ocNoRoom, odNoRoom, .func (PySem.W.fnOf "__init__" "NoRoom.__init__" (defArgs sI_NoRoom) (defBody sI_NoRoom) (defScope sI_NoRoom) .none kVNoRoom dcNoRoom pmNoRoom anNoRoom cdNoRoom ctNoRoom), oslNoRoom⟩)
    (ciNoRoom : PySem.W.codeIn K cdNoRoom "NoRoom.__init__" = true)
    (kiNoRoom : PySem.W.keepIn K (.ref fNoRoom) = true)
    (kCNoRoom : PySem.W.keepIn K (.ref CNoRoom) = true)
    (eCNoRoom : PySem.W.subIn K (.ref CNoRoom) (.type "BaseException") = some true)
    (tCNoRoom : PySem.W.typeIn K (.ref CNoRoom) = some (.type "type"))
    (hCNoRoom : PySem.W.hasDictIn K CNoRoom = true)
    (clNoRoom : PySem.W.isClsIn K CNoRoom = true)
    (svNoRoom : PySem.W.subIn K (.ref CNoRoom) (.type "ValueError") = some true)
    (acNoRoom : PySem.W.findIn K (.ref CNoRoom) "__class__" = some (some (.builtin "object.__class__")))
    (moNoRoom : PySem.W.mroIn K CNoRoom (.type "object") = some true)
    (suNoRoom : PySem.W.subIn K (.ref CNoRoom) (.ref C0) = some true)
    (gNoText : PySem.W.nsIn K mainGlobals "NoText" = some (some (.ref CNoText)))
    (xlNoText : K.lookup CNoText = some (excClassObj nmNoText qNoText CNoText NNoText bsNoText [.ref C0, .type "ValueError", .type "Exception", .type "BaseException", .type "object"] true snNoText subNoText abNoText colNoText ddNoText m0NoText m1NoText m2NoText m3NoText m5NoText "ValueError.__new__"))
    (saNoText : PySem.W.findIn K (.ref CNoText) "__setattr__" = some (some (.builtin "object.__setattr__")))
    (gaNoText : PySem.W.findIn K (.ref CNoText) "__getattribute__" = some (some (.builtin "BaseException.__getattribute__")))
    (ggNoText : PySem.W.findIn K (.ref CNoText) "__getattr__" = some none)
    (nwNoText : PySem.W.findIn K (.ref CNoText) "what" = some none)
    (aiNoText : PySem.W.findIn K (.ref CNoText) "__init__" = some (some (.ref fNoText)))
    (tiNoText : PySem.W.typeIn K (.ref fNoText) = some (.type "function"))
    (liNoText : K.lookup fNoText = some ⟨ocNoText, odNoText, .func (PySem.W.fnOf "__init__" "NoText.__init__" (defArgs sI_NoText) (defBody sI_NoText) (defScope sI_NoText) .none kVNoText dcNoText pmNoText anNoText cdNoText ctNoText), oslNoText⟩)
    (ciNoText : PySem.W.codeIn K cdNoText "NoText.__init__" = true)
    (kiNoText : PySem.W.keepIn K (.ref fNoText) = true)
    (kCNoText : PySem.W.keepIn K (.ref CNoText) = true)
    (eCNoText : PySem.W.subIn K (.ref CNoText) (.type "BaseException") = some true)
    (tCNoText : PySem.W.typeIn K (.ref CNoText) = some (.type "type"))
    (hCNoText : PySem.W.hasDictIn K CNoText = true)
    (clNoText : PySem.W.isClsIn K CNoText = true)
    (svNoText : PySem.W.subIn K (.ref CNoText) (.type "ValueError") = some true)
    (acNoText : PySem.W.findIn K (.ref CNoText) "__class__" = some (some (.builtin "object.__class__")))
    (moNoText : PySem.W.mroIn K CNoText (.type "object") = some true)
    (suNoText : PySem.W.subIn K (.ref CNoText) (.ref C0) = some true)
    (suNoGuestNoRoom : PySem.W.subIn K (.ref CNoGuest) (.ref CNoRoom) = some false)
    (neNoGuestNoRoom : CNoGuest ≠ CNoRoom)
    (suNoGuestNoText : PySem.W.subIn K (.ref CNoGuest) (.ref CNoText) = some false)
    (neNoGuestNoText : CNoGuest ≠ CNoText)
    (suNoRoomNoGuest : PySem.W.subIn K (.ref CNoRoom) (.ref CNoGuest) = some false)
    (neNoRoomNoGuest : CNoRoom ≠ CNoGuest)
    (suNoRoomNoText : PySem.W.subIn K (.ref CNoRoom) (.ref CNoText) = some false)
    (neNoRoomNoText : CNoRoom ≠ CNoText)
    (suNoTextNoGuest : PySem.W.subIn K (.ref CNoText) (.ref CNoGuest) = some false)
    (neNoTextNoGuest : CNoText ≠ CNoGuest)
    (suNoTextNoRoom : PySem.W.subIn K (.ref CNoText) (.ref CNoRoom) = some false)
    (neNoTextNoRoom : CNoText ≠ CNoRoom)
    (cl0 : PySem.W.isClsIn K C0 = true)
    (gMF : PySem.W.nsIn K mainGlobals "MOST_FIGURES" = some (some (.int 30 tMF)))
    (ssT : PySem.W.subIn K (.ref CNoText) (.ref CNoText) = some true)
    (z1 : PySem.W.nsIn K mainGlobals "len" = some none) (z2 : PySem.W.nsIn K mainGlobals "range" = some none) (z3 : PySem.W.nsIn K mainGlobals "enumerate" = some none) (z4 : PySem.W.nsIn K mainGlobals "sorted" = some none) (z5 : PySem.W.nsIn K mainGlobals "sum" = some none) (z6 : PySem.W.nsIn K mainGlobals "min" = some none) (z7 : PySem.W.nsIn K mainGlobals "max" = some none) (z8 : PySem.W.nsIn K mainGlobals "isinstance" = some none) (z9 : PySem.W.nsIn K mainGlobals "zip" = some none) (z10 : PySem.W.nsIn K mainGlobals "list" = some none) (z11 : PySem.W.nsIn K mainGlobals "tuple" = some none) (z12 : PySem.W.nsIn K mainGlobals "int" = some none) (z13 : PySem.W.nsIn K mainGlobals "bool" = some none) (z14 : PySem.W.nsIn K mainGlobals "str" = some none) (z15 : PySem.W.nsIn K mainGlobals "abs" = some none) (z16 : PySem.W.nsIn K mainGlobals "repr" = some none) (z17 : PySem.W.nsIn K mainGlobals "dict" = some none) (z18 : PySem.W.nsIn K mainGlobals "any" = some none) (z19 : PySem.W.nsIn K mainGlobals "all" = some none) (z20 : PySem.W.nsIn K mainGlobals "set" = some none) (z21 : PySem.W.nsIn K mainGlobals "reversed" = some none) (z22 : PySem.W.nsIn K mainGlobals "ValueError" = some none) (z23 : PySem.W.nsIn K mainGlobals "divmod" = some none) :
    ∃ fd : FuncData, (∀ (s : Shared) (v : Value), BindsTo s fd ⟨[v], []⟩ [("script", v)]) ∧ ∀ base : Heap, K.In base → base.Ns mainGlobals mg → FnOk l.prog w K mg base CX0 8 fa fd ["script"] (sp_law K) := by
  obtain rfl : f35 = fa := by
    have e := (PySem.W.mg_of X G a35).symm.trans hfa
    injection e with e
    injection e
  have B : Bi mg := ⟨PySem.W.mg_none_of X G z1, PySem.W.mg_none_of X G z2, PySem.W.mg_none_of X G z3, PySem.W.mg_none_of X G z4, PySem.W.mg_none_of X G z5, PySem.W.mg_none_of X G z6, PySem.W.mg_none_of X G z7, PySem.W.mg_none_of X G z8, PySem.W.mg_none_of X G z9, PySem.W.mg_none_of X G z10, PySem.W.mg_none_of X G z11, PySem.W.mg_none_of X G z12, PySem.W.mg_none_of X G z13, PySem.W.mg_none_of X G z14, PySem.W.mg_none_of X G z15, PySem.W.mg_none_of X G z16, PySem.W.mg_none_of X G z17, PySem.W.mg_none_of X G z18, PySem.W.mg_none_of X G z19, PySem.W.mg_none_of X G z20, PySem.W.mg_none_of X G z21, PySem.W.mg_none_of X G z22, PySem.W.mg_none_of X G z23⟩
  have A1 : At K mg "is_number" P_is_number s_is_number := .mk' X G a1 l1 c1 k1 fun _ _ _ _ _ _ us hl => match us, hl with | [_], _ => rfl
  have A2 : At K mg "read_numbers" P_read_numbers s_read_numbers := .mk' X G a2 l2 c2 k2 fun _ _ _ _ _ _ us hl => match us, hl with | [_, _, _], _ => rfl
  have A3 : At K mg "parts_of" P_parts_of s_parts_of := .mk' X G a3 l3 c3 k3 fun _ _ _ _ _ _ us hl => match us, hl with | [_, _], _ => rfl
  have A4 : At K mg "falls" P_falls s_falls := .mk' X G a4 l4 c4 k4 fun _ _ _ _ _ _ us hl => match us, hl with | [_], _ => rfl
  have A5 : At K mg "read_twos" P_read_twos s_read_twos := .mk' X G a5 l5 c5 k5 fun _ _ _ _ _ _ us hl => match us, hl with | [_, _], _ => rfl
  have A6 : At K mg "is_crowd" P_is_crowd s_is_crowd := .mk' X G a6 l6 c6 k6 fun _ _ _ _ _ _ us hl => match us, hl with | [_, _], _ => rfl
  have A7 : At K mg "read_guests" P_read_guests s_read_guests := .mk' X G a7 l7 c7 k7 fun _ _ _ _ _ _ us hl => match us, hl with | [_], _ => rfl
  have A8 : At K mg "read_crowds" P_read_crowds s_read_crowds := .mk' X G a8 l8 c8 k8 fun _ _ _ _ _ _ us hl => match us, hl with | [_], _ => rfl
  have A9 : At K mg "read_rooms" P_read_rooms s_read_rooms := .mk' X G a9 l9 c9 k9 fun _ _ _ _ _ _ us hl => match us, hl with | [_], _ => rfl
  have A10 : At K mg "show_guests" P_show_guests s_show_guests := .mk' X G a10 l10 c10 k10 fun _ _ _ _ _ _ us hl => match us, hl with | [_], _ => rfl
  have A11 : At K mg "show_crowds" P_show_crowds s_show_crowds := .mk' X G a11 l11 c11 k11 fun _ _ _ _ _ _ us hl => match us, hl with | [_], _ => rfl
  have A12 : At K mg "show_rooms" P_show_rooms s_show_rooms := .mk' X G a12 l12 c12 k12 fun _ _ _ _ _ _ us hl => match us, hl with | [_], _ => rfl
  have A13 : At K mg "patience_by_age" P_patience_by_age s_patience_by_age := .mk' X G a13 l13 c13 k13 fun _ _ _ _ _ _ us hl => match us, hl with | [_], _ => rfl
  have A14 : At K mg "check_arrangement" P_check_arrangement s_check_arrangement := .mk' X G a14 l14 c14 k14 fun _ _ _ _ _ _ us hl => match us, hl with | [_, _], _ => rfl
  have A15 : At K mg "eldest_upset" P_eldest_upset s_eldest_upset := .mk' X G a15 l15 c15 k15 fun _ _ _ _ _ _ us hl => match us, hl with | [_, _], _ => rfl
  have A16 : At K mg "upset" P_upset s_upset := .mk' X G a16 l16 c16 k16 fun _ _ _ _ _ _ us hl => match us, hl with | [_, _], _ => rfl
  have A17 : At K mg "first_borne" P_first_borne s_first_borne := .mk' X G a17 l17 c17 k17 fun _ _ _ _ _ _ us hl => match us, hl with | [_, _], _ => rfl
  have A18 : At K mg "rooms" P_rooms s_rooms := .mk' X G a18 l18 c18 k18 fun _ _ _ _ _ _ us hl => match us, hl with | [_], _ => rfl
  have A19 : At K mg "_law_tray" P__law_tray s__law_tray := .mk' X G a19 l19 c19 k19 fun _ _ _ _ _ _ us hl => match us, hl with | [_], _ => rfl
  have A20 : At K mg "_law_draw" P__law_draw s__law_draw := .mk' X G a20 l20 c20 k20 fun _ _ _ _ _ _ us hl => match us, hl with | [_, _], _ => rfl
  have A21 : At K mg "_law_shuffled" P__law_shuffled s__law_shuffled := .mk' X G a21 l21 c21 k21 fun _ _ _ _ _ _ us hl => match us, hl with | [_, _], _ => rfl
  have A22 : At K mg "_law_ages" P__law_ages s__law_ages := .mk' X G a22 l22 c22 k22 fun _ _ _ _ _ _ us hl => match us, hl with | [_, _], _ => rfl
  have A23 : At K mg "_law_patience" P__law_patience s__law_patience := .mk' X G a23 l23 c23 k23 fun _ _ _ _ _ _ us hl => match us, hl with | [_, _, _], _ => rfl
  have A24 : At K mg "_law_guests" P__law_guests s__law_guests := .mk' X G a24 l24 c24 k24 fun _ _ _ _ _ _ us hl => match us, hl with | [_, _], _ => rfl
  have A25 : At K mg "_law_guests_written" P__law_guests_written s__law_guests_written := .mk' X G a25 l25 c25 k25 fun _ _ _ _ _ _ us hl => match us, hl with | [_], _ => rfl
  have A26 : At K mg "_law_crowds" P__law_crowds s__law_crowds := .mk' X G a26 l26 c26 k26 fun _ _ _ _ _ _ us hl => match us, hl with | [_, _], _ => rfl
  have A27 : At K mg "_law_crowds_written" P__law_crowds_written s__law_crowds_written := .mk' X G a27 l27 c27 k27 fun _ _ _ _ _ _ us hl => match us, hl with | [_], _ => rfl
  have A28 : At K mg "_law_rooms_written" P__law_rooms_written s__law_rooms_written := .mk' X G a28 l28 c28 k28 fun _ _ _ _ _ _ us hl => match us, hl with | [_], _ => rfl
  have A29 : At K mg "_law_sign" P__law_sign s__law_sign := .mk' X G a29 l29 c29 k29 fun _ _ _ _ _ _ us hl => match us, hl with | [_], _ => rfl
  have A30 : At K mg "_law_parts_spoilt" P__law_parts_spoilt s__law_parts_spoilt := .mk' X G a30 l30 c30 k30 fun _ _ _ _ _ _ us hl => match us, hl with | [_, _, _], _ => rfl
  have A31 : At K mg "_law_spoilt" P__law_spoilt s__law_spoilt := .mk' X G a31 l31 c31 k31 fun _ _ _ _ _ _ us hl => match us, hl with | [_, _, _], _ => rfl
  have A32 : At K mg "_law_odd" P__law_odd s__law_odd := .mk' X G a32 l32 c32 k32 fun _ _ _ _ _ _ us hl => match us, hl with | [], _ => rfl
  have A33 : At K mg "_law_told" P__law_told s__law_told := .mk' X G a33 l33 c33 k33 fun _ _ _ _ _ _ us hl => match us, hl with | [_, _], _ => rfl
  have A34 : At K mg "_law_kept" P__law_kept s__law_kept := .mk' X G a34 l34 c34 k34 fun _ _ _ _ _ _ us hl => match us, hl with | [_], _ => rfl
  have A35 : At K mg "law" P_law s_law := .mk' X G a35 l35 c35 k35 fun _ _ _ _ _ _ us hl => match us, hl with | [_], _ => rfl
  refine ⟨PySem.W.fnOf "law" "law" (defArgs s_law) (defBody s_law) (defScope s_law) .none kV35 dc35 pm35 an35 cd35 ct35, fun s v => .of_eq rfl, fun base _ _ => ?_⟩
  have T0 : InnC K mg C0 := ⟨PySem.W.mg_of X G aC0, rd0, sg0, fc0⟩
  have JX : IsX K := ⟨jn, jt⟩
  have ONoGuest : Own K mg "NoGuest" CNoGuest fNoGuest := ⟨PySem.W.mg_of X G gNoGuest, ⟨⟨nmNoGuest, qNoGuest, NNoGuest, bsNoGuest, _, snNoGuest, subNoGuest, abNoGuest, colNoGuest, ddNoGuest, m0NoGuest, m1NoGuest, m2NoGuest, m3NoGuest, m5NoGuest, xlNoGuest, own_mro C0⟩, saNoGuest, eCNoGuest, tCNoGuest, kCNoGuest⟩, ⟨gaNoGuest, ggNoGuest, eCNoGuest, hCNoGuest⟩, nwNoGuest, aiNoGuest, tiNoGuest, clNoGuest, acNoGuest, moNoGuest⟩
  have E_NoGuest := own_NoGuest (P := l.prog) (w := w) (base := base) ONoGuest (fun_mk (st := sI_NoGuest) liNoGuest ciNoGuest kiNoGuest) T0
  have kv_NoGuest := kit_ve svNoGuest
  have k_NoGuest_NoGuest := kit_self (K := K) CNoGuest
  have k_NoGuest_NoRoom := kit_no suNoGuestNoRoom clNoRoom tCNoRoom neNoGuestNoRoom
  have k_NoGuest_NoText := kit_no suNoGuestNoText clNoText tCNoText neNoGuestNoText
  have teNoGuest : PySem.W.exmOne K (.ref CNoGuest) (.ref C0) = some true := te_of eC0 hC0 tC0 suNoGuest
  have ONoRoom : Own K mg "NoRoom" CNoRoom fNoRoom := ⟨PySem.W.mg_of X G gNoRoom, ⟨⟨nmNoRoom, qNoRoom, NNoRoom, bsNoRoom, _, snNoRoom, subNoRoom, abNoRoom, colNoRoom, ddNoRoom, m0NoRoom, m1NoRoom, m2NoRoom, m3NoRoom, m5NoRoom, xlNoRoom, own_mro C0⟩, saNoRoom, eCNoRoom, tCNoRoom, kCNoRoom⟩, ⟨gaNoRoom, ggNoRoom, eCNoRoom, hCNoRoom⟩, nwNoRoom, aiNoRoom, tiNoRoom, clNoRoom, acNoRoom, moNoRoom⟩
  have E_NoRoom := own_NoRoom (P := l.prog) (w := w) (base := base) ONoRoom (fun_mk (st := sI_NoRoom) liNoRoom ciNoRoom kiNoRoom) T0
  have kv_NoRoom := kit_ve svNoRoom
  have k_NoRoom_NoGuest := kit_no suNoRoomNoGuest clNoGuest tCNoGuest neNoRoomNoGuest
  have k_NoRoom_NoRoom := kit_self (K := K) CNoRoom
  have k_NoRoom_NoText := kit_no suNoRoomNoText clNoText tCNoText neNoRoomNoText
  have teNoRoom : PySem.W.exmOne K (.ref CNoRoom) (.ref C0) = some true := te_of eC0 hC0 tC0 suNoRoom
  have ONoText : Own K mg "NoText" CNoText fNoText := ⟨PySem.W.mg_of X G gNoText, ⟨⟨nmNoText, qNoText, NNoText, bsNoText, _, snNoText, subNoText, abNoText, colNoText, ddNoText, m0NoText, m1NoText, m2NoText, m3NoText, m5NoText, xlNoText, own_mro C0⟩, saNoText, eCNoText, tCNoText, kCNoText⟩, ⟨gaNoText, ggNoText, eCNoText, hCNoText⟩, nwNoText, aiNoText, tiNoText, clNoText, acNoText, moNoText⟩
  have E_NoText := own_NoText (P := l.prog) (w := w) (base := base) ONoText (fun_mk (st := sI_NoText) liNoText ciNoText kiNoText) T0
  have kv_NoText := kit_ve svNoText
  have k_NoText_NoGuest := kit_no suNoTextNoGuest clNoGuest tCNoGuest neNoTextNoGuest
  have k_NoText_NoRoom := kit_no suNoTextNoRoom clNoRoom tCNoRoom neNoTextNoRoom
  have k_NoText_NoText := kit_self (K := K) CNoText
  have teNoText : PySem.W.exmOne K (.ref CNoText) (.ref C0) = some true := te_of eC0 hC0 tC0 suNoText
  have G_InnError := PySem.W.mg_of X G aC0
  have G_NoGuest := PySem.W.mg_of X G gNoGuest
  have G_NoRoom := PySem.W.mg_of X G gNoRoom
  have G_NoText := PySem.W.mg_of X G gNoText
  have G_MOST_FIGURES := PySem.W.mg_of X G gMF
  have teTT : PySem.W.exmOne K (.ref CNoText) (.ref CNoText) = some true := te_of eCNoText hCNoText tCNoText ssT
  have D_is_number := ok_is_number (P := l.prog) (w := w) (base := base) A1 B G_MOST_FIGURES
  have D_read_numbers := ok_read_numbers (P := l.prog) (w := w) (base := base) A2 B D_is_number
  have XD_read_numbers := okx_read_numbers (P := l.prog) (w := w) (base := base) A2 B E_NoText D_is_number
  have D_parts_of := ok_parts_of (P := l.prog) (w := w) (base := base) A3 B
  have D_falls := ok_falls (P := l.prog) (w := w) (base := base) A4 B
  have D_read_twos := ok_read_twos (P := l.prog) (w := w) (base := base) A5 B D_parts_of D_read_numbers
  have XD_read_twos := okx_read_twos (P := l.prog) (w := w) (base := base) A5 B E_NoText D_parts_of XD_read_numbers D_read_twos
  have D_is_crowd := ok_is_crowd (P := l.prog) (w := w) (base := base) A6 
  have D_read_guests := ok_read_guests (P := l.prog) (w := w) (base := base) A7 B D_read_twos D_falls
  have XD_read_guests := okx_read_guests (P := l.prog) (w := w) (base := base) A7 B E_NoText XD_read_twos D_falls D_read_guests
  have D_read_crowds := ok_read_crowds (P := l.prog) (w := w) (base := base) A8 B D_read_twos D_is_crowd
  have XD_read_crowds := okx_read_crowds (P := l.prog) (w := w) (base := base) A8 B E_NoText XD_read_twos D_is_crowd D_read_crowds
  have XD_read_rooms := okx_read_rooms (P := l.prog) (w := w) (base := base) A9 B E_NoText D_parts_of XD_read_numbers D_falls
  have D_show_guests := ok_show_guests (P := l.prog) (w := w) (base := base) A10 B
  have D_show_crowds := ok_show_crowds (P := l.prog) (w := w) (base := base) A11 B
  have D_show_rooms := ok_show_rooms (P := l.prog) (w := w) (base := base) A12 B
  have D_patience_by_age := ok_patience_by_age (P := l.prog) (w := w) (base := base) A13 B
  have D_check_arrangement := ok_check_arrangement (P := l.prog) (w := w) (base := base) A14 B
  have D_eldest_upset := ok_eldest_upset (P := l.prog) (w := w) (base := base) A15 B
  have D_upset := ok_upset (P := l.prog) (w := w) (base := base) A16 B D_patience_by_age D_check_arrangement D_eldest_upset
  have D_first_borne := ok_first_borne (P := l.prog) (w := w) (base := base) A17 B
  have D_rooms := ok_rooms (P := l.prog) (w := w) (base := base) A18 B D_patience_by_age D_first_borne
  have D__law_tray := ok__law_tray (P := l.prog) (w := w) (base := base) A19 B
  have D__law_draw := ok__law_draw (P := l.prog) (w := w) (base := base) A20 B
  have D__law_shuffled := ok__law_shuffled (P := l.prog) (w := w) (base := base) A21 B D__law_draw
  have D__law_ages := ok__law_ages (P := l.prog) (w := w) (base := base) A22 B D__law_draw D__law_shuffled
  have D__law_patience := ok__law_patience (P := l.prog) (w := w) (base := base) A23 B D__law_draw
  have D__law_guests := ok__law_guests (P := l.prog) (w := w) (base := base) A24 B D__law_draw D__law_ages D__law_patience
  have D__law_guests_written := ok__law_guests_written (P := l.prog) (w := w) (base := base) A25 B
  have D__law_crowds := ok__law_crowds (P := l.prog) (w := w) (base := base) A26 B D__law_draw
  have D__law_crowds_written := ok__law_crowds_written (P := l.prog) (w := w) (base := base) A27 B
  have D__law_rooms_written := ok__law_rooms_written (P := l.prog) (w := w) (base := base) A28 B
  have D__law_sign := ok__law_sign (P := l.prog) (w := w) (base := base) A29 B D__law_draw
  have D__law_parts_spoilt := ok__law_parts_spoilt (P := l.prog) (w := w) (base := base) A30 B D__law_draw
  have D__law_spoilt := ok__law_spoilt (P := l.prog) (w := w) (base := base) A31 B D__law_draw D__law_sign D__law_parts_spoilt
  have D__law_odd := ok__law_odd (P := l.prog) (w := w) (base := base) A32 B
  have D__law_told := ok__law_told (P := l.prog) (w := w) (base := base) A33 B G_NoText ⟨_, _, ONoText⟩ teTT XD_read_guests XD_read_crowds XD_read_rooms
  have D__law_kept := ok__law_kept (P := l.prog) (w := w) (base := base) A34 B D__law_told D_show_guests D_show_crowds D_show_rooms D_rooms D_upset XD_read_rooms
  have D_law := ok_law (P := l.prog) (w := w) (base := base) A35 B D__law_tray D__law_draw D__law_odd D__law_guests D__law_guests_written D__law_crowds D__law_crowds_written D_rooms D__law_rooms_written D__law_spoilt D__law_kept
  exact D_law.at hfa l35
end El
open PySem PySem.W PyProof.Rows
set_option maxRecDepth 100000 in
set_option maxHeartbeats 0 in
theorem PySem.Challenge.cw_elderinn_k56_whole_one_writing_holds : PySem.Challenge.rw_elderinn_k56_whole_one_writing.Holds := by
  w_on; o_law; k_head; (case hw => w_witness2)
  k_fill
  refine L2.walk_of (l := PySem.Challenge.rw_elderinn_k56_whole_one_writing) (n := 63) (k := 8) (x := "script") (CX := fun _ => L2.CX0) (sp := fun w => El.sp_law _) rfl (by decide) rfl ⟨rfl, by decide, by decide⟩ (fun w h Y => PySem.W.kIn_of Y) ?F (fun _ _ a ns hl _ hS => ⟨a, ns, rfl, hS, hl, fun _ => rfl⟩) (fun _ _ _ _ _ h => h)
  case F =>
    intro w mg fa h KX G hmg
    refine' El.all_mk KX G hmg ?a1 ?l1 ?c1 ?k1 ?a2 ?l2 ?c2 ?k2 ?a3 ?l3 ?c3 ?k3 ?a4 ?l4 ?c4 ?k4 ?a5 ?l5 ?c5 ?k5 ?a6 ?l6 ?c6 ?k6 ?a7 ?l7 ?c7 ?k7 ?a8 ?l8 ?c8 ?k8 ?a9 ?l9 ?c9 ?k9 ?a10 ?l10 ?c10 ?k10 ?a11 ?l11 ?c11 ?k11 ?a12 ?l12 ?c12 ?k12 ?a13 ?l13 ?c13 ?k13 ?a14 ?l14 ?c14 ?k14 ?a15 ?l15 ?c15 ?k15 ?a16 ?l16 ?c16 ?k16 ?a17 ?l17 ?c17 ?k17 ?a18 ?l18 ?c18 ?k18 ?a19 ?l19 ?c19 ?k19 ?a20 ?l20 ?c20 ?k20 ?a21 ?l21 ?c21 ?k21 ?a22 ?l22 ?c22 ?k22 ?a23 ?l23 ?c23 ?k23 ?a24 ?l24 ?c24 ?k24 ?a25 ?l25 ?c25 ?k25 ?a26 ?l26 ?c26 ?k26 ?a27 ?l27 ?c27 ?k27 ?a28 ?l28 ?c28 ?k28 ?a29 ?l29 ?c29 ?k29 ?a30 ?l30 ?c30 ?k30 ?a31 ?l31 ?c31 ?k31 ?a32 ?l32 ?c32 ?k32 ?a33 ?l33 ?c33 ?k33 ?a34 ?l34 ?c34 ?k34 ?a35 ?l35 ?c35 ?k35 ?aC0 ?rd0 ?sg0 ?fc0 ?eC0 ?hC0 ?tC0 ?jn ?jt ?gNoGuest ?xlNoGuest ?saNoGuest ?gaNoGuest ?ggNoGuest ?nwNoGuest ?aiNoGuest ?tiNoGuest ?liNoGuest ?ciNoGuest ?kiNoGuest ?kCNoGuest ?eCNoGuest ?tCNoGuest ?hCNoGuest ?clNoGuest ?svNoGuest ?acNoGuest ?moNoGuest ?suNoGuest ?gNoRoom ?xlNoRoom ?saNoRoom ?gaNoRoom ?ggNoRoom ?nwNoRoom ?aiNoRoom ?tiNoRoom ?liNoRoom ?ciNoRoom ?kiNoRoom ?kCNoRoom ?eCNoRoom ?tCNoRoom ?hCNoRoom ?clNoRoom ?svNoRoom ?acNoRoom ?moNoRoom ?suNoRoom ?gNoText ?xlNoText ?saNoText ?gaNoText ?ggNoText ?nwNoText ?aiNoText ?tiNoText ?liNoText ?ciNoText ?kiNoText ?kCNoText ?eCNoText ?tCNoText ?hCNoText ?clNoText ?svNoText ?acNoText ?moNoText ?suNoText ?suNoGuestNoRoom ?neNoGuestNoRoom ?suNoGuestNoText ?neNoGuestNoText ?suNoRoomNoGuest ?neNoRoomNoGuest ?suNoRoomNoText ?neNoRoomNoText ?suNoTextNoGuest ?neNoTextNoGuest ?suNoTextNoRoom ?neNoTextNoRoom ?cl0 ?gMF ?ssT ?z1 ?z2 ?z3 ?z4 ?z5 ?z6 ?z7 ?z8 ?z9 ?z10 ?z11 ?z12 ?z13 ?z14 ?z15 ?z16 ?z17 ?z18 ?z19 ?z20 ?z21 ?z22 ?z23
    (case a1 => k_is)
    (case l1 => k_is)
    (case c1 => k_is)
    (case k1 => k_is)
    (case a2 => k_is)
    (case l2 => k_is)
    (case c2 => k_is)
    (case k2 => k_is)
    (case a3 => k_is)
    (case l3 => k_is)
    (case c3 => k_is)
    (case k3 => k_is)
    (case a4 => k_is)
    (case l4 => k_is)
    (case c4 => k_is)
    (case k4 => k_is)
    (case a5 => k_is)
    (case l5 => k_is)
    (case c5 => k_is)
    (case k5 => k_is)
    (case a6 => k_is)
    (case l6 => k_is)
    (case c6 => k_is)
    (case k6 => k_is)
    (case a7 => k_is)
    (case l7 => k_is)
    (case c7 => k_is)
    (case k7 => k_is)
    (case a8 => k_is)
    (case l8 => k_is)
    (case c8 => k_is)
    (case k8 => k_is)
    (case a9 => k_is)
    (case l9 => k_is)
    (case c9 => k_is)
    (case k9 => k_is)
    (case a10 => k_is)
    (case l10 => k_is)
    (case c10 => k_is)
    (case k10 => k_is)
    (case a11 => k_is)
    (case l11 => k_is)
    (case c11 => k_is)
    (case k11 => k_is)
    (case a12 => k_is)
    (case l12 => k_is)
    (case c12 => k_is)
    (case k12 => k_is)
    (case a13 => k_is)
    (case l13 => k_is)
    (case c13 => k_is)
    (case k13 => k_is)
    (case a14 => k_is)
    (case l14 => k_is)
    (case c14 => k_is)
    (case k14 => k_is)
    (case a15 => k_is)
    (case l15 => k_is)
    (case c15 => k_is)
    (case k15 => k_is)
    (case a16 => k_is)
    (case l16 => k_is)
    (case c16 => k_is)
    (case k16 => k_is)
    (case a17 => k_is)
    (case l17 => k_is)
    (case c17 => k_is)
    (case k17 => k_is)
    (case a18 => k_is)
    (case l18 => k_is)
    (case c18 => k_is)
    (case k18 => k_is)
    (case a19 => k_is)
    (case l19 => k_is)
    (case c19 => k_is)
    (case k19 => k_is)
    (case a20 => k_is)
    (case l20 => k_is)
    (case c20 => k_is)
    (case k20 => k_is)
    (case a21 => k_is)
    (case l21 => k_is)
    (case c21 => k_is)
    (case k21 => k_is)
    (case a22 => k_is)
    (case l22 => k_is)
    (case c22 => k_is)
    (case k22 => k_is)
    (case a23 => k_is)
    (case l23 => k_is)
    (case c23 => k_is)
    (case k23 => k_is)
    (case a24 => k_is)
    (case l24 => k_is)
    (case c24 => k_is)
    (case k24 => k_is)
    (case a25 => k_is)
    (case l25 => k_is)
    (case c25 => k_is)
    (case k25 => k_is)
    (case a26 => k_is)
    (case l26 => k_is)
    (case c26 => k_is)
    (case k26 => k_is)
    (case a27 => k_is)
    (case l27 => k_is)
    (case c27 => k_is)
    (case k27 => k_is)
    (case a28 => k_is)
    (case l28 => k_is)
    (case c28 => k_is)
    (case k28 => k_is)
    (case a29 => k_is)
    (case l29 => k_is)
    (case c29 => k_is)
    (case k29 => k_is)
    (case a30 => k_is)
    (case l30 => k_is)
    (case c30 => k_is)
    (case k30 => k_is)
    (case a31 => k_is)
    (case l31 => k_is)
    (case c31 => k_is)
    (case k31 => k_is)
    (case a32 => k_is)
    (case l32 => k_is)
    (case c32 => k_is)
    (case k32 => k_is)
    (case a33 => k_is)
    (case l33 => k_is)
    (case c33 => k_is)
    (case k33 => k_is)
    (case a34 => k_is)
    (case l34 => k_is)
    (case c34 => k_is)
    (case k34 => k_is)
    (case a35 => k_is)
    (case l35 => k_is)
    (case c35 => k_is)
    (case k35 => k_is)
    (case aC0 => k_is)
    (case rd0 => k_is)
    (case sg0 => k_is)
    (case fc0 => k_is)
    (case eC0 => k_is)
    (case hC0 => k_is)
    (case tC0 => k_is)
    (case jn => k_is)
    (case jt => k_is)
    (case gNoGuest => k_is)
    (case xlNoGuest => k_is)
    (case saNoGuest => k_is)
    (case gaNoGuest => k_is)
    (case ggNoGuest => k_is)
    (case nwNoGuest => k_is)
    (case aiNoGuest => k_is)
    (case tiNoGuest => k_is)
    (case liNoGuest => k_is)
    (case ciNoGuest => k_is)
    (case kiNoGuest => k_is)
    (case kCNoGuest => k_is)
    (case eCNoGuest => k_is)
    (case tCNoGuest => k_is)
    (case hCNoGuest => k_is)
    (case clNoGuest => k_is)
    (case svNoGuest => k_is)
    (case acNoGuest => k_is)
    (case moNoGuest => k_is)
    (case suNoGuest => k_is)
    (case gNoRoom => k_is)
    (case xlNoRoom => k_is)
    (case saNoRoom => k_is)
    (case gaNoRoom => k_is)
    (case ggNoRoom => k_is)
    (case nwNoRoom => k_is)
    (case aiNoRoom => k_is)
    (case tiNoRoom => k_is)
    (case liNoRoom => k_is)
    (case ciNoRoom => k_is)
    (case kiNoRoom => k_is)
    (case kCNoRoom => k_is)
    (case eCNoRoom => k_is)
    (case tCNoRoom => k_is)
    (case hCNoRoom => k_is)
    (case clNoRoom => k_is)
    (case svNoRoom => k_is)
    (case acNoRoom => k_is)
    (case moNoRoom => k_is)
    (case suNoRoom => k_is)
    (case gNoText => k_is)
    (case xlNoText => k_is)
    (case saNoText => k_is)
    (case gaNoText => k_is)
    (case ggNoText => k_is)
    (case nwNoText => k_is)
    (case aiNoText => k_is)
    (case tiNoText => k_is)
    (case liNoText => k_is)
    (case ciNoText => k_is)
    (case kiNoText => k_is)
    (case kCNoText => k_is)
    (case eCNoText => k_is)
    (case tCNoText => k_is)
    (case hCNoText => k_is)
    (case clNoText => k_is)
    (case svNoText => k_is)
    (case acNoText => k_is)
    (case moNoText => k_is)
    (case suNoText => k_is)
    (case suNoGuestNoRoom => k_is)
    (case neNoGuestNoRoom => decide)
    (case suNoGuestNoText => k_is)
    (case neNoGuestNoText => decide)
    (case suNoRoomNoGuest => k_is)
    (case neNoRoomNoGuest => decide)
    (case suNoRoomNoText => k_is)
    (case neNoRoomNoText => decide)
    (case suNoTextNoGuest => k_is)
    (case neNoTextNoGuest => decide)
    (case suNoTextNoRoom => k_is)
    (case neNoTextNoRoom => decide)
    (case cl0 => k_is)
    (case gMF => k_is)
    (case ssT => k_is)
    (case z1 => k_is)
    (case z2 => k_is)
    (case z3 => k_is)
    (case z4 => k_is)
    (case z5 => k_is)
    (case z6 => k_is)
    (case z7 => k_is)
    (case z8 => k_is)
    (case z9 => k_is)
    (case z10 => k_is)
    (case z11 => k_is)
    (case z12 => k_is)
    (case z13 => k_is)
    (case z14 => k_is)
    (case z15 => k_is)
    (case z16 => k_is)
    (case z17 => k_is)
    (case z18 => k_is)
    (case z19 => k_is)
    (case z20 => k_is)
    (case z21 => k_is)
    (case z22 => k_is)
    (case z23 => k_is)
