import PyProof.Rows.All
import Wide.All
import OpenK.AllK
import Wide.FinOn
import HandS.ForMost
import HandS.ForExc
import HandS.Wide
import HandS.SortKw
import HandS.SortRule
import HandS.SortInts
import HandS.Style
import HandS.IsInst
import HandS.Conv
import HandS.Walk
import HandS.Flow
import HandS.More
import HandS.Defaults
import HandS.RaiseMore
import HandS.Remove
import HandS.Star
import HandS.Steps
import PySem.Challenge.RW_elderinn_k31_one_more_told
set_option Elab.async false
set_option linter.all false
set_option maxRecDepth 100000
set_option maxHeartbeats 8000000
namespace El
/-! ### the rule by age, in plain lists -/
def place : List (List Int) → Int → Int → List (List Int)
  | [], a, _ => [[a]]
  | r :: rs, a, p => if (r.length : Int) ≤ p then (r ++ [a]) :: rs else r :: place rs a p
def firstB : List (List Int) → Int → Nat
  | [], _ => 0
  | r :: rs, p => if (r.length : Int) ≤ p then 0 else firstB rs p + 1
theorem firstB_le : ∀ (rs : List (List Int)) (p : Int), firstB rs p ≤ rs.length
  | [], _ => Nat.le_refl _
  | r :: rs, p => by
    unfold firstB
    split
    · exact Nat.zero_le _
    · exact Nat.succ_le_succ (firstB_le rs p)
theorem firstB_out : ∀ (rs : List (List Int)) (p : Int) (i : Nat) (r : List Int), i < firstB rs p → rs[i]? = some r → p < (r.length : Int)
  | [], _, _, _, h, _ => absurd h (Nat.not_lt_zero _)
  | s :: rs, p, i, r, h, e => by
    unfold firstB at h
    split at h
    · exact absurd h (Nat.not_lt_zero _)
    · rename_i hn
      cases i with
      | zero =>
        have e' : s = r := Option.some.inj e
        subst e'
        omega
      | succ i => exact firstB_out rs p i r (Nat.lt_of_succ_lt_succ h) (by simpa using e)
theorem firstB_in : ∀ (rs : List (List Int)) (p : Int), firstB rs p < rs.length → ∃ r, rs[firstB rs p]? = some r ∧ (r.length : Int) ≤ p
  | [], _, h => absurd h (Nat.not_lt_zero _)
  | s :: rs, p, h => by
    unfold firstB at h ⊢
    split
    · rename_i hn
      exact ⟨s, rfl, hn⟩
    · rename_i hn
      rw [if_neg hn] at h
      obtain ⟨r, e, q⟩ := firstB_in rs p (Nat.lt_of_succ_lt_succ h)
      exact ⟨r, by simpa using e, q⟩
theorem firstB_is : ∀ (rs : List (List Int)) (p : Int) (i : Nat), i ≤ rs.length → (∀ j r, j < i → rs[j]? = some r → p < (r.length : Int)) → (∀ r, rs[i]? = some r → (r.length : Int) ≤ p) → firstB rs p = i
  | [], _, i, h, _, _ => by
    have : i = 0 := Nat.le_zero.mp h
    subst this
    rfl
  | s :: rs, p, 0, _, _, h2 => by
    unfold firstB
    rw [if_pos (h2 s rfl)]
  | s :: rs, p, i + 1, h, h1, h2 => by
    have h0 := h1 0 s (Nat.succ_pos _) rfl
    unfold firstB
    rw [if_neg (by omega), firstB_is rs p i (Nat.le_of_succ_le_succ h) (fun j r hj e => h1 (j + 1) r (Nat.succ_lt_succ hj) (by simpa using e)) fun r e => h2 r (by simpa using e)]
theorem place_new : ∀ (rs : List (List Int)) (a p : Int), firstB rs p = rs.length → place rs a p = rs ++ [[a]]
  | [], _, _, _ => rfl
  | r :: rs, a, p, h => by
    unfold firstB at h
    unfold place
    split at h
    · exact absurd h (by rw [List.length_cons]; omega)
    · rename_i hn
      rw [if_neg hn, place_new rs a p (by rw [List.length_cons] at h; omega)]
      rfl
theorem place_at : ∀ (rs : List (List Int)) (a p : Int) (r : List Int), rs[firstB rs p]? = some r → place rs a p = rs.set (firstB rs p) (r ++ [a])
  | [], _, _, _, h => by simp at h
  | s :: rs, a, p, r, h => by
    unfold firstB at h ⊢
    unfold place
    split
    · rename_i hn
      rw [if_pos hn] at h
      have e : s = r := Option.some.inj h
      subst e
      rfl
    · rename_i hn
      rw [if_neg hn] at h
      rw [place_at rs a p r (by simpa using h)]
      rfl
theorem place_len (rs : List (List Int)) (a p : Int) : (place rs a p).length = if firstB rs p = rs.length then rs.length + 1 else rs.length := by
  by_cases h : firstB rs p = rs.length
  · rw [if_pos h, place_new rs a p h, List.length_append]
    rfl
  · have hl := firstB_le rs p
    obtain ⟨r, e, _⟩ := firstB_in rs p (by omega)
    rw [if_neg h, place_at rs a p r e, List.length_set]
/-- all in order -/
def settleL (gs : List (Int × Int)) : List (List Int) := gs.foldl (fun rs g => place rs g.1 g.2) []
theorem settleL_snoc (gs : List (Int × Int)) (g : Int × Int) : settleL (gs ++ [g]) = place (settleL gs) g.1 g.2 := by
  unfold settleL
  rw [List.foldl_append]
  rfl
theorem settleL_take {gs : List (Int × Int)} {i : Nat} {g : Int × Int} (h : gs[i]? = some g) : settleL (gs.take (i + 1)) = place (settleL (gs.take i)) g.1 g.2 := by
  rw [List.take_add_one, h]
  exact settleL_snoc _ _
theorem place_count (rs : List (List Int)) (a p : Int) : (place rs a p).flatten.length = rs.flatten.length + 1 := by
  induction rs with
  | nil => rfl
  | cons r rs ih =>
    unfold place
    split
    · simp only [List.flatten_cons, List.length_append, List.length_cons, List.length_nil]
      omega
    · simp only [List.flatten_cons, List.length_append]
      omega
theorem settleL_count (gs : List (Int × Int)) : (settleL gs).flatten.length = gs.length := by
  suffices h : ∀ (gs : List (Int × Int)) (rs : List (List Int)), (gs.foldl (fun rs g => place rs g.1 g.2) rs).flatten.length = rs.flatten.length + gs.length by
    have q := h gs []
    rw [List.flatten_nil, List.length_nil, Nat.zero_add] at q
    exact q
  intro gs
  induction gs with
  | nil => intro rs; rfl
  | cons g gs ih =>
    intro rs
    rw [List.foldl_cons, ih, place_count, List.length_cons]
    omega
theorem place_ne (rs : List (List Int)) (a p : Int) (h : ∀ r ∈ rs, r ≠ []) : ∀ r ∈ place rs a p, r ≠ [] := by
  induction rs with
  | nil =>
    intro r hr
    rw [List.mem_singleton.mp hr]
    exact List.cons_ne_nil _ _
  | cons s rs ih =>
    unfold place
    split
    · intro r hr
      rcases List.mem_cons.mp hr with e | hr
      · rw [e]
        simp
      · exact h r (List.mem_cons_of_mem _ hr)
    · intro r hr
      rcases List.mem_cons.mp hr with e | hr
      · rw [e]
        exact h s List.mem_cons_self
      · exact ih (fun r hr => h r (List.mem_cons_of_mem _ hr)) r hr
theorem settleL_ne (gs : List (Int × Int)) : ∀ r ∈ settleL gs, r ≠ [] := by
  suffices h : ∀ (gs : List (Int × Int)) (rs : List (List Int)), (∀ r ∈ rs, r ≠ []) → ∀ r ∈ gs.foldl (fun rs g => place rs g.1 g.2) rs, r ≠ [] from h gs [] (fun r hr => absurd hr (by simp))
  intro gs
  induction gs with
  | nil => intro rs h; exact h
  | cons g gs ih =>
    intro rs h
    rw [List.foldl_cons]
    exact ih _ (place_ne rs _ _ h)
theorem len_le_flat : ∀ (rs : List (List Int)), (∀ r ∈ rs, r ≠ []) → rs.length ≤ rs.flatten.length
  | [], _ => Nat.le_refl _
  | r :: rs, h => by
    have h1 := h r List.mem_cons_self
    have h2 := len_le_flat rs fun r hr => h r (List.mem_cons_of_mem _ hr)
    have h3 : 0 < r.length := List.length_pos_iff.mpr h1
    rw [List.flatten_cons, List.length_append, List.length_cons]
    omega
theorem room_le_flat : ∀ (rs : List (List Int)) (r : List Int), r ∈ rs → r.length ≤ rs.flatten.length
  | s :: rs, r, h => by
    rw [List.flatten_cons, List.length_append]
    rcases List.mem_cons.mp h with e | h
    · rw [e]
      omega
    · have := room_le_flat rs r h
      omega
theorem settleL_len (gs : List (Int × Int)) : (settleL gs).length ≤ gs.length := by
  rw [← settleL_count gs]
  exact len_le_flat _ (settleL_ne gs)
theorem settleL_room {gs : List (Int × Int)} {r : List Int} (h : r ∈ settleL gs) : r.length ≤ gs.length := by
  rw [← settleL_count gs]
  exact room_le_flat _ _ h
/-- sizes never rise -/
def Falls (rs : List (List Int)) : Prop := rs.Pairwise fun r s => s.length ≤ r.length
theorem place_mem {rs : List (List Int)} {a p : Int} {r : List Int} (h : r ∈ place rs a p) : r ∈ rs ∨ (∃ s ∈ rs, r = s ++ [a] ∧ (s.length : Int) ≤ p) ∨ r = [a] := by
  induction rs with
  | nil => exact .inr (.inr (List.mem_singleton.mp h))
  | cons s rs ih =>
    unfold place at h
    split at h
    · rename_i hn
      rcases List.mem_cons.mp h with e | h
      · exact .inr (.inl ⟨s, List.mem_cons_self, e, hn⟩)
      · exact .inl (List.mem_cons_of_mem _ h)
    · rcases List.mem_cons.mp h with e | h
      · rw [e]
        exact .inl List.mem_cons_self
      · rcases ih h with q | ⟨t, ht, q⟩ | q
        · exact .inl (List.mem_cons_of_mem _ q)
        · exact .inr (.inl ⟨t, List.mem_cons_of_mem _ ht, q⟩)
        · exact .inr (.inr q)
theorem place_falls (rs : List (List Int)) (a p : Int) (hp : 0 ≤ p) (h : Falls rs) : Falls (place rs a p) := by
  induction rs with
  | nil => exact List.pairwise_singleton _ _
  | cons s rs ih =>
    obtain ⟨h1, h2⟩ := List.pairwise_cons.mp h
    unfold place
    split
    · refine List.pairwise_cons.mpr ⟨fun r hr => ?_, h2⟩
      have := h1 r hr
      rw [List.length_append]
      omega
    · rename_i hn
      refine List.pairwise_cons.mpr ⟨fun r hr => ?_, ih h2⟩
      rcases place_mem hr with q | ⟨t, ht, q, q2⟩ | q
      · exact h1 r q
      · rw [q, List.length_append, List.length_singleton]
        omega
      · rw [q, List.length_singleton]
        omega
theorem settleL_falls (gs : List (Int × Int)) (h : ∀ g ∈ gs, 0 ≤ g.2) : Falls (settleL gs) := by
  suffices q : ∀ (gs : List (Int × Int)) (rs : List (List Int)), (∀ g ∈ gs, 0 ≤ g.2) → Falls rs → Falls (gs.foldl (fun rs g => place rs g.1 g.2) rs) from q gs [] h List.Pairwise.nil
  intro gs
  induction gs with
  | nil => intro rs _ hr; exact hr
  | cons g gs ih =>
    intro rs hg hr
    rw [List.foldl_cons]
    exact ih _ (fun x hx => hg x (List.mem_cons_of_mem _ hx)) (place_falls rs _ _ (hg g List.mem_cons_self) hr)
/-! ### from the eldest on -/
def byAge (gs : List (Int × Int)) : List (Int × Int) := gs.mergeSort fun g h => decide (h.1 ≤ g.1)
theorem byAge_perm (gs : List (Int × Int)) : (byAge gs).Perm gs := List.mergeSort_perm _ _
theorem byAge_sorted (gs : List (Int × Int)) : (byAge gs).Pairwise fun g h => h.1 ≤ g.1 := by
  have q := List.pairwise_mergeSort (le := fun (g h : Int × Int) => decide (h.1 ≤ g.1)) (fun a b c h1 h2 => by
    have h1 := of_decide_eq_true h1
    have h2 := of_decide_eq_true h2
    exact decide_eq_true (by omega)) (fun a b => by
    by_cases h : b.1 ≤ a.1
    · simp [h]
    · have : a.1 ≤ b.1 := by omega
      simp [this]) gs
  exact q.imp fun h => of_decide_eq_true h
theorem byAge_length (gs : List (Int × Int)) : (byAge gs).length = gs.length := (byAge_perm gs).length_eq
theorem sorted_uniq {α : Type} (k : α → Int) : ∀ {l m : List α}, l.Perm m → (l.map k).Nodup → l.Pairwise (fun g h => k h ≤ k g) → m.Pairwise (fun g h => k h ≤ k g) → l = m
  | [], m, p, _, _, _ => by rw [List.nil_perm.mp p]
  | x :: l, [], p, _, _, _ => absurd p.length_eq (by simp)
  | x :: l, y :: m, p, nd, h1, h2 => by
    have nd' : (k x :: l.map k).Nodup := nd
    obtain ⟨n1, n2⟩ := List.nodup_cons.mp nd'
    obtain ⟨a1, a2⟩ := List.pairwise_cons.mp h1
    obtain ⟨b1, b2⟩ := List.pairwise_cons.mp h2
    have e : x = y := by
      rcases List.mem_cons.mp (p.mem_iff.mp List.mem_cons_self) with e | hx
      · exact e
      · have hy : y ∈ x :: l := p.mem_iff.mpr List.mem_cons_self
        rcases List.mem_cons.mp hy with e | hy
        · exact e.symm
        · have c1 := b1 x hx
          have c2 := a1 y hy
          have c3 : k x = k y := by omega
          exact absurd (List.mem_map.mpr ⟨y, hy, c3.symm⟩) n1
    subst e
    rw [sorted_uniq k (List.Perm.cons_inv p) n2 a2 b2]
def settle (gs : List (Int × Int)) : List (List Int) := settleL (byAge gs)
/-- guests that there can be -/
structure Fit (gs : List (Int × Int)) : Prop where
  nd : (gs.map (·.1)).Nodup
  pos : ∀ g ∈ gs, 0 ≤ g.2
theorem Fit.perm {gs hs : List (Int × Int)} (f : Fit gs) (p : hs.Perm gs) : Fit hs := ⟨((p.map (·.1)).nodup_iff).mpr f.nd, fun g hg => f.pos g (p.mem_iff.mp hg)⟩
theorem Fit.byAge {gs : List (Int × Int)} (f : Fit gs) : Fit (byAge gs) := f.perm (byAge_perm gs)
theorem byAge_of {gs hs : List (Int × Int)} (f : Fit gs) (p : hs.Perm gs) (h : hs.Pairwise fun g h => h.1 ≤ g.1) : hs = byAge gs :=
  sorted_uniq (·.1) (p.trans (byAge_perm gs).symm) (f.perm p).nd h (byAge_sorted gs)
theorem byAge_congr {gs hs : List (Int × Int)} (f : Fit gs) (p : hs.Perm gs) : byAge hs = byAge gs :=
  byAge_of f ((byAge_perm hs).trans p) (byAge_sorted hs)
theorem ages_of {gs : List (Int × Int)} (f : Fit gs) {ns : List Int} (p : ns.Perm (gs.map (·.1))) (h : ns.Pairwise (· ≥ ·)) : ns = (byAge gs).map (·.1) := by
  refine sorted_uniq (fun x : Int => x) (p.trans ((byAge_perm gs).map (·.1)).symm) ?_ (h.imp fun q => q) ?_
  · rw [List.map_id']
    exact (p.nodup_iff).mpr f.nd
  · rw [List.pairwise_map]
    exact byAge_sorted gs
theorem settle_congr {gs hs : List (Int × Int)} (f : Fit gs) (p : hs.Perm gs) : settle hs = settle gs := by
  unfold settle
  rw [byAge_congr f p]
end El
namespace El
/-! ### one guest more -/
/-- b is s with one more put in -/
def Plus (s b : List Int) : Prop := ∃ (A : List Int) (m : Int) (B : List Int), s = A ++ B ∧ b = A ++ m :: B
/-- where s has g, b has m ahead -/
def Swap (s b : List Int) : Prop := ∃ (A : List Int) (m : Int) (B : List Int) (g : Int) (C : List Int), s = A ++ B ++ g :: C ∧ b = A ++ m :: B ++ C
def Alike (s b : List Int) : Prop := s = b ∨ Swap s b
theorem Plus.len {s b : List Int} (h : Plus s b) : b.length = s.length + 1 := by
  obtain ⟨A, m, B, rfl, rfl⟩ := h
  rw [List.length_append, List.length_append, List.length_cons]
  omega
theorem Alike.len {s b : List Int} (h : Alike s b) : b.length = s.length := by
  rcases h with rfl | ⟨A, m, B, g, C, rfl, rfl⟩
  · rfl
  · simp only [List.length_append, List.length_cons]
    omega
theorem Plus.snoc {s b : List Int} (h : Plus s b) (a : Int) : Plus (s ++ [a]) (b ++ [a]) := by
  obtain ⟨A, m, B, rfl, rfl⟩ := h
  exact ⟨A, m, B ++ [a], by rw [List.append_assoc], by rw [List.append_assoc]; rfl⟩
theorem Alike.snoc {s b : List Int} (h : Alike s b) (a : Int) : Alike (s ++ [a]) (b ++ [a]) := by
  rcases h with rfl | ⟨A, m, B, g, C, rfl, rfl⟩
  · exact .inl rfl
  · exact .inr ⟨A, m, B, g, C ++ [a], by simp only [List.append_assoc, List.cons_append], by simp only [List.append_assoc, List.cons_append]⟩
inductive Near : List (List Int) → List (List Int) → Prop
  | new (m : Int) : Near [] [[m]]
  | here {s b : List Int} (h : Plus s b) (rest : List (List Int)) : Near (s :: rest) (b :: rest)
  | skip {s b : List Int} {ss bs : List (List Int)} (h : Alike s b) (r : Near ss bs) : Near (s :: ss) (b :: bs)
theorem Near.place (rs : List (List Int)) (a p : Int) : Near rs (El.place rs a p) := by
  induction rs with
  | nil => exact .new a
  | cons r rs ih =>
    unfold El.place
    split
    · exact .here ⟨r, a, [], by simp, rfl⟩ rs
    · exact .skip (.inl rfl) ih
theorem Near.step {s b : List (List Int)} (h : Near s b) (a p : Int) (hp : 0 ≤ p) : Near (El.place s a p) (El.place b a p) := by
  induction h with
  | new m =>
    unfold El.place
    split
    · exact .here (s := [a]) (b := [m] ++ [a]) ⟨[], m, [a], rfl, rfl⟩ []
    · refine .skip (.inr ⟨[], m, [], a, [], rfl, rfl⟩) ?_
      exact .new a
  | @here s b hb rest =>
    have hl := hb.len
    unfold El.place
    by_cases h1 : (s.length : Int) ≤ p
    · rw [if_pos h1]
      by_cases h2 : (b.length : Int) ≤ p
      · rw [if_pos h2]
        exact .here (hb.snoc a) rest
      · rw [if_neg h2]
        obtain ⟨A, m, B, rfl, rfl⟩ := hb
        exact .skip (.inr ⟨A, m, B, a, [], rfl, by simp⟩) (Near.place rest a p)
    · rw [if_neg h1, if_neg (by omega)]
      exact .here hb _
  | @skip s b ss bs hs r ih =>
    have hl := hs.len
    unfold El.place
    by_cases h1 : (s.length : Int) ≤ p
    · rw [if_pos h1, if_pos (by omega)]
      exact .skip (hs.snoc a) r
    · rw [if_neg h1, if_neg (by omega)]
      exact .skip hs ih
theorem Near.fold {s b : List (List Int)} (h : Near s b) : ∀ (gs : List (Int × Int)), (∀ g ∈ gs, 0 ≤ g.2) → Near (gs.foldl (fun rs g => El.place rs g.1 g.2) s) (gs.foldl (fun rs g => El.place rs g.1 g.2) b)
  | [], _ => h
  | g :: gs, hp => by
    rw [List.foldl_cons, List.foldl_cons]
    exact Near.fold (h.step g.1 g.2 (hp g List.mem_cons_self)) gs fun x hx => hp x (List.mem_cons_of_mem _ hx)
/-- the order with one more -/
theorem byAge_split {gs : List (Int × Int)} {x : Int × Int} (f : Fit (x :: gs)) : ∃ pre post, byAge (x :: gs) = pre ++ x :: post ∧ byAge gs = pre ++ post := by
  have hx : x ∈ byAge (x :: gs) := (byAge_perm _).mem_iff.mpr List.mem_cons_self
  obtain ⟨pre, post, e⟩ := List.append_of_mem hx
  refine ⟨pre, post, e, ?_⟩
  have fg : Fit gs := ⟨(List.nodup_cons.mp f.nd).2, fun g hg => f.pos g (List.mem_cons_of_mem _ hg)⟩
  refine (byAge_of fg ?_ ?_).symm
  · have p : (pre ++ x :: post).Perm (x :: gs) := e ▸ byAge_perm (x :: gs)
    exact List.Perm.cons_inv (List.perm_middle.symm.trans p)
  · have s := byAge_sorted (x :: gs)
    rw [e] at s
    rw [List.pairwise_append] at s ⊢
    obtain ⟨s1, s2, s3⟩ := s
    exact ⟨s1, (List.pairwise_cons.mp s2).2, fun a ha b hb => s3 a ha b (List.mem_cons_of_mem _ hb)⟩
theorem settle_near {gs : List (Int × Int)} {x : Int × Int} (f : Fit (x :: gs)) : Near (settle gs) (settle (x :: gs)) := by
  obtain ⟨pre, post, e1, e2⟩ := byAge_split f
  unfold settle settleL
  rw [e1, e2, List.foldl_append, List.foldl_append, List.foldl_cons]
  exact (Near.place _ x.1 x.2).fold post fun g hg => f.pos g ((byAge_perm _).mem_iff.mp (by rw [e1]; exact List.mem_append_right _ (List.mem_cons_of_mem _ hg)))
/-- sizes: one room one fuller -/
def bump (L : List Int) (d : Nat) : List Int := if d < L.length then L.set d (L.getD d 0 + 1) else L ++ [1]
theorem bump_cons (x : Int) (L : List Int) (d : Nat) : bump (x :: L) (d + 1) = x :: bump L d := by
  unfold bump
  by_cases h : d < L.length
  · rw [if_pos h, if_pos (by rw [List.length_cons]; omega)]
    rfl
  · rw [if_neg h, if_neg (by rw [List.length_cons]; omega)]
    rfl
theorem Near.sizes {s b : List (List Int)} (h : Near s b) : ∃ d, d ≤ s.length ∧ b.map (fun r => (r.length : Int)) = bump (s.map fun r => (r.length : Int)) d := by
  induction h with
  | new m => exact ⟨0, Nat.le_refl _, rfl⟩
  | @here s b hb rest =>
    refine ⟨0, Nat.zero_le _, ?_⟩
    have hl := hb.len
    show ((b.length : Int) :: rest.map fun r => (r.length : Int)) = ((s.length : Int) + 1) :: rest.map fun r => (r.length : Int)
    rw [hl]
    rfl
  | @skip s b ss bs hs r ih =>
    obtain ⟨d, hd, e⟩ := ih
    refine ⟨d + 1, by rw [List.length_cons]; omega, ?_⟩
    rw [List.map_cons, List.map_cons, bump_cons, e, hs.len]
theorem bump_length (L : List Int) {d : Nat} : (bump L d).length = if d < L.length then L.length else L.length + 1 := by
  unfold bump
  split
  · rw [List.length_set]
  · rw [List.length_append]
    rfl
theorem bump_at (L : List Int) {d k : Nat} (hd : d ≤ L.length) (hk : k < (bump L d).length) : (bump L d)[k]? = some (L.getD k 0 + if k = d then 1 else 0) := by
  rw [bump_length] at hk
  unfold bump
  by_cases h : d < L.length
  · rw [if_pos h] at hk ⊢
    by_cases e : k = d
    · subst e
      rw [List.getElem?_set_self hk, if_pos rfl]
    · rw [List.getElem?_set_ne (fun z => e z.symm), if_neg e, Int.add_zero, List.getElem?_eq_getElem hk, List.getD_eq_getElem?_getD, List.getElem?_eq_getElem hk]
      rfl
  · rw [if_neg h] at hk ⊢
    have hd' : d = L.length := by omega
    subst hd'
    by_cases e : k = L.length
    · subst e
      rw [List.getElem?_append_right (Nat.le_refl _), Nat.sub_self, if_pos rfl, List.getD_eq_getElem?_getD, List.getElem?_eq_none (Nat.le_refl _)]
      rfl
    · have hk' : k < L.length := by omega
      rw [List.getElem?_append_left hk', if_neg e, Int.add_zero, List.getElem?_eq_getElem hk', List.getD_eq_getElem?_getD, List.getElem?_eq_getElem hk']
      rfl
end El
namespace El
open PySem PySem.Spec PyProof.Rows L2
/-! ### a def of the text as callers see it -/
structure Df (P : Program) (w : World) (K : PySem.W.Frag) (mg : Str → Option Value) (base : Heap) (k : Nat) (x : Str) (ps : List Str) (st : Stmt) (sp : Sp) : Prop where
  ex : ∃ (f : Addr) (fd : FuncData), Fun K x x st f fd ∧ mg x = some (.ref f) ∧ FnOk P w K mg base CX0 k f fd ps sp ∧ Binds K fd ps []
/-- where a def stands -/
structure At (K : PySem.W.Frag) (mg : Str → Option Value) (x : Str) (ps : List Str) (st : Stmt) : Prop where
  ex : ∃ (f : Addr) (fd : FuncData), Fun K x x st f fd ∧ mg x = some (.ref f) ∧ Binds K fd ps []
theorem At.df {P : Program} {w : World} {K : PySem.W.Frag} {mg : Str → Option Value} {base : Heap} {k : Nat} {x : Str} {ps : List Str} {st : Stmt} {sp : Sp} (A : At K mg x ps st)
    (h : ∀ f fd, Fun K x x st f fd → FnOk P w K mg base CX0 k f fd ps sp) : Df P w K mg base k x ps st sp := by
  obtain ⟨f, fd, F, m, b⟩ := A.ex
  exact ⟨f, fd, F, m, h f fd F, b⟩
section
variable {X : Cx} {k : Nat} {x : Str} {ps : List Str} {st : Stmt} {sp : Sp} {p pos : Pos} {e : Expr} {es : List Expr} {kws : List Keyword} {t tk : TA}
theorem pe_df (D : Df X.prog X.w X.K X.mg X.base k x ps st sp) (hr : Room k X.A) (hg : Gl X x) (ha : PA X (e :: es) t) (hdb : (x == ("__debug__" : Str)) = false := by decide)
    (he : starEach (e :: es) X.env = (false, eval e X.env) :: starEach es X.env := by rfl) (hpl : (backTo pos (starEach es X.env)).any (·.1) = false := by rfl) : PE X (.Call (.Name x p) (e :: es) [] pos) (tCall sp [] E0 t) := by
  obtain ⟨f, fd, F, m, G, b⟩ := D.ex
  exact pe_call G hr hg m F.kp b .nil pass0 ha hdb he hpl
theorem pe_df0 (D : Df X.prog X.w X.K X.mg X.base k x ps st sp) (hr : Room k X.A) (hg : Gl X x) (hdb : (x == ("__debug__" : Str)) = false := by decide) : PE X (.Call (.Name x p) [] [] pos) (tCall sp [] E0 tNil) := by
  obtain ⟨f, fd, F, m, G, b⟩ := D.ex
  exact pe_call0 G hr hg m F.kp b .nil pass0 hdb
def tCallW (n : Nat) (sp : Sp) (g : List V → List V) (tk : TA) : TE := fun σ H Q => tk σ H fun zs H2 => zs.length = n ∧ sp (g zs) H2 Q E0
/-- f(k = v, ..): keywords alone -/
theorem pe_dfK (D : Df X.prog X.w X.K X.mg X.base k x ps st sp) (ks : List Str) (g : {α : Type} → List α → List α) (hr : Room k X.A) (hg : Gl X x) (hkw : PK X kws tk)
    (hb : ∀ (kV doc pm : Value) (an : Option Addr) (cdv ct : Value) (ws : List Value), ws.length = ks.length → bindArgs (PySem.W.fnOf x x (defArgs st) (defBody st) (defScope st) .none kV doc pm an cdv ct) ⟨[], ks.zip ws⟩ = pure (ps.zip (g ws)))
    (hrel : ∀ {zs : List V} {ws : List Value}, Vals zs ws → Vals (g zs) (g ws))
    (hall : (backToKw pos (keywordEach kws X.env)).all (·.1.isSome) = true := by rfl) (hks : (backToKw pos (keywordEach kws X.env)).filterMap (·.1) = ks := by rfl) (hdb : (x == ("__debug__" : Str)) = false := by decide)
    (hpl : ((backTo pos (starEach [] X.env)).any (·.1) || (backToKw pos (keywordEach kws X.env)).any (·.1.isNone)) = false := by rfl) :
    PE X (.Call (.Name x p) [] kws pos) (tCallW ks.length sp (fun zs => g zs) tk) := by
  obtain ⟨f, fd, F, m, G, b⟩ := D.ex
  have kp := F.kp
  have KB : KBn X.K fd ps 0 ks (fun us ws => us ++ g ws) (fun vs zs => vs ++ g zs) := by
    obtain ⟨oc, od, kV, doc, pm, an, cdv, ct, osl, rfl, lk, hcd⟩ := F.ex
    refine ⟨fun s us ws hK l1 l2 => ?_, fun {vs us zs ws} r rz => Vals.append r (hrel rz)⟩
    obtain rfl := List.eq_nil_of_length_eq_zero l1
    exact .of_eq (hb kV doc pm an cdv ct ws l2)
  refine ⟨fun pins s σ H Q I h => ?_⟩
  refine wpAny_Call_Name_kw (ld_glob I hg m ?_ hdb)
  refine PySem.W.callWith_KW0 (h₀ := X.base) I.ok.mod.kin kp hall ?_ hpl
  refine thn (hkw.run pos pins s σ H _ I h) fun ws s2 ⟨zs, H2, I2, rz, l2, q2⟩ => ⟨I2.kIn, ?_⟩
  rw [hks]
  exact run_fnN (us := []) (vs := []) G hr KB pass0 I2 .nil rz rfl l2 q2
end
theorem Df.at {P : Program} {w : World} {K : PySem.W.Frag} {mg : Str → Option Value} {base : Heap} {k : Nat} {x : Str} {ps : List Str} {st : Stmt} {sp : Sp} {fa : Addr} {fd : FuncData} {oc : Value} {od : Option Addr} {sl : Array (Option Value)}
    (D : Df P w K mg base k x ps st sp) (hf : mg x = some (.ref fa)) (l : K.lookup fa = some ⟨oc, od, .func fd, sl⟩) : FnOk P w K mg base CX0 k fa fd ps sp := by
  obtain ⟨f, fd', F, m, G, b⟩ := D.ex
  obtain rfl : fa = f := by
    have e := hf.symm.trans m
    injection e with e
    injection e
  obtain ⟨oc', od', kV, doc, pm, an, cdv, ct, osl, e1, lk, hcd⟩ := F.ex
  have e := l.symm.trans lk
  injection e with e
  injection e with _ _ e _
  injection e with e
  rw [e]
  exact G
theorem At.mk' {K : PySem.W.Frag} {mg : Str → Option Value} {h : Heap} {x : Str} {ps : List Str} {st : Stmt} {f : Addr} {oc : Value} {od an : Option Addr} {osl : Array (Option Value)} {kV doc pm cdv ct : Value} (X : K.In h) (G : h.Ns mainGlobals mg)
    (a : PySem.W.nsIn K mainGlobals x = some (some (.ref f))) (l : K.lookup f = some ⟨oc, od, .func (PySem.W.fnOf x x (defArgs st) (defBody st) (defScope st) .none kV doc pm an cdv ct), osl⟩)
    (c : PySem.W.codeIn K cdv x = true) (k : PySem.W.keepIn K (.ref f) = true)
    (b : ∀ (kV doc pm : Value) (an : Option Addr) (cdv ct : Value) (us : List Value), us.length = ps.length → bindArgs (PySem.W.fnOf x x (defArgs st) (defBody st) (defScope st) .none kV doc pm an cdv ct) ⟨us, []⟩ = pure (ps.zip us)) : At K mg x ps st :=
  have F := fun_mk (st := st) l c k
  ⟨f, _, F, PySem.W.mg_of X G a, F.binds b⟩
end El
namespace El
open PySem PySem.Spec PyProof.Rows L2
section
variable {X : Cx}
/-! sorted(..., reverse=b) of anything whose walk is known -/
/-- partners: each pair is something of ours and the value that stands for it -/
abbrev Partners (P : List (V × Value)) : Prop := ∀ p ∈ P, RelV p.1 p.2
theorem partners_of : ∀ {xs : List V} {us : List Value}, Vals xs us → ∃ P, Partners P ∧ P.map Prod.fst = xs ∧ P.map Prod.snd = us
  | _, _, .nil => ⟨[], fun _ m => (List.not_mem_nil m).elim, rfl, rfl⟩
  | _, _, .cons h t =>
    let ⟨P, hP, e1, e2⟩ := partners_of t
    ⟨(_, _) :: P, fun p m => (List.mem_cons.mp m).elim (fun e => e ▸ h) (hP p), congrArg _ e1, congrArg _ e2⟩
theorem Partners.vals : ∀ {P : List (V × Value)}, Partners P → Vals (P.map Prod.fst) (P.map Prod.snd)
  | [], _ => .nil
  | _ :: _, h => .cons (h _ (.head _)) (Partners.vals fun p m => h p (.tail _ m))
/-- the values in another order: the partners go along -/
theorem go_along {α β : Type} {f : α → β} {ys : List β} : ∀ {P : List α}, ys.Perm (P.map f) → ∃ P' : List α, P'.Perm P ∧ P'.map f = ys := by
  suffices key : ∀ {as bs : List β}, as.Perm bs → ∀ P : List α, P.map f = as → ∃ P' : List α, P'.Perm P ∧ P'.map f = bs from
    fun {P} h => key h.symm P rfl
  intro as bs h
  induction h with
  | nil => exact fun P e => ⟨P, .refl _, e⟩
  | cons x _ ih =>
    intro P e
    match P, e with
    | q :: P, e =>
      obtain ⟨P', hp, e'⟩ := ih P (List.cons.inj e).2
      exact ⟨q :: P', hp.cons q, by rw [List.map_cons, e', (List.cons.inj e).1]⟩
  | swap x y l =>
    intro P e
    match P, e with
    | q :: r :: P, e => exact ⟨r :: q :: P, .swap .., by
        have e1 := List.cons.inj e
        have e2 := List.cons.inj e1.2
        rw [List.map_cons, List.map_cons, e1.1, e2.1, e2.2]⟩
  | trans _ _ ih1 ih2 =>
    intro P e
    obtain ⟨P1, h1, e1⟩ := ih1 P e
    obtain ⟨P2, h2, e2⟩ := ih2 P1 e1
    exact ⟨P2, h2.trans h1, e2⟩
/-- forwards or backwards -/
abbrev turn {α : Type} (b : Bool) (l : List α) : List α := if b = true then l.reverse else l
theorem turn_map {α β : Type} (f : α → β) (l : List α) : ∀ b, (turn b l).map f = turn b (l.map f)
  | true => List.map_reverse ..
  | false => rfl
theorem turn_perm {α : Type} (l : List α) : ∀ b, (turn b l).Perm l
  | true => l.reverse_perm
  | false => .refl _
theorem turn_arr {α : Type} (l : List α) : ∀ b : Bool, (if b = true then l.toArray.reverse else l.toArray) = (turn b l).toArray
  | true => List.reverse_toArray ..
  | false => rfl
/-- the walk over v gathers what stands for xs, and nothing that lay there is touched -/
def Gathers (X : Cx) (s : Shared) (v : Value) (xs : List V) : Prop :=
  ∀ R : List Value → Shared → Prop, (∀ us h t, Vals xs us → (∀ b o, s.heap.get? b = some o → h.get? b = some o) → R us { s with heap := h, toks := t }) → wpAny (model X.prog X.w) X.A.in1 (collect v) R X.xe s
theorem sorted_gathered {pins : List (Addr × Obj)} {σ : L2.St} {H : Hp} {s : Shared} {Q : VK} {b : Bool} {v : Value} {xs : List V} {less : Value → Value → Bool}
    (I : Inv X pins σ H s) (few : xs.length ≤ sizeLine) (walk : Gathers X s v xs) (O : SrtO.Swo less)
    (able : ∀ (us : List Value) (s' : Shared) (l : Addr), 2 ≤ us.length → Vals xs us → Inv X pins σ (upd H l (.lst xs)) s' → H l = none → SrtO.SortableO X.prog X.w X.A.in1.in1 s' l us less)
    (q : ∀ (P : List (V × Value)) (l : Addr), Partners P → (P.map Prod.fst).Perm xs → SrtO.Srtd less (P.map Prod.snd) → H l = none → Q (.ref l) (upd H l (.lst (turn b (P.map Prod.fst))))) :
    wpAny (model X.prog X.w) X.A (call (.builtin "sorted") [v] [(Str.ofString "reverse", .bool b)]) (EP X pins σ Q) X.xe s := by
  refine call_function_entry_kw kind_sorted plain_sorted entry_sorted (args_sorted_rev v (.bool b)) ?_
  refine wpAny_bind (m := checkCount "sorted" 1 1 _) (wpAny_pure ?_)
  refine wpAny_bind (walk _ fun us h t for_xs grown => ?_)
  have n2 : us.length ≤ sizeLine := for_xs.length ▸ few
  refine wpAny_bind (wpAny_newList (wpAny_bind (wpAny_holding ?_)) n2)
  -- the new list lies there, and is ours
  generalize hl : ({ s with heap := h, toks := t } : Shared).heap.objs.size = l
  have hl' : h.objs.size = l := hl
  have at_l : (h.push (seqObj "list" us.toArray 0)).get? l = some (seqObj "list" us.toArray 0) := hl' ▸ Heap.get?_push_size _ rfl
  have free : H l = none := hl' ▸ (I.kept (t' := t) grown).hok.fresh (Nat.le_refl _)
  have J : Inv X pins σ (upd H l (.lst xs)) { s with heap := h.push (seqObj "list" us.toArray 0), toks := t } :=
    (I.kept (t' := t) grown).laid (t' := t) (fun _ _ => Heap.get?_push_of_some _) (Nat.le_of_eq hl) ⟨few, _, 0, for_xs, at_l⟩
  -- it is sorted where it lies
  refine PyProof.Rows.wpAny_call_entry_kw slot_list_sort ⟨_, at_l, rfl⟩ entry_list_sort ?_ (args_list_sort_rev _ (.bool b))
  refine SrtR.list_sort_ordR O at_l n2 (fun two => able us _ l two for_xs J free) fun out up same => ⟨_, rfl, wpAny_pure ⟨_, rfl, ?_⟩⟩
  obtain ⟨P0, hP0, rfl, rfl⟩ := partners_of for_xs
  obtain ⟨P, p1, rfl⟩ := go_along (same.perm.trans (turn_perm (P0.map Prod.snd) b))
  rw [turn_arr]
  obtain ⟨e, he⟩ := sortedHeap_at (out := (turn b (P.map Prod.snd)).toArray) at_l
  have hP : Partners P := fun p m => hP0 p (p1.mem_iff.mp m)
  have ends : Partners (turn b P) := fun p m => hP p ((turn_perm P b).mem_iff.mp m)
  have done := J.write (o := .lst (turn b (P.map Prod.fst))) (t' := t) (h' := sortedHeap (h.push (seqObj "list" (P0.map Prod.snd).toArray 0)) l (P0.map Prod.snd) (turn b (P.map Prod.snd)).toArray)
    (by rw [upd_same]; trivial) (.inl rfl) (fun c u away there => (sortedHeap_old away (Heap.lt_size there)).trans there) ⟨_, he⟩
    ⟨by rw [((turn_perm _ b).trans (p1.map _)).length_eq]; exact few, _, e, by rw [← turn_map, ← turn_map]; exact ends.vals, he⟩
  rw [upd_upd] at done
  exact ⟨.ref l, _, done, rfl, q P l hP (p1.map _) up free⟩
/-- the walk over a dict: its keys -/
theorem gathers_dict {pins : List (Addr × Obj)} {σ : L2.St} {H : Hp} {s : Shared} {a : Addr} {kvs : List (L2.Key × V)} (calm : X.calm = true) (I : Inv X pins σ H s) (d : Rd H a (.dK kvs)) :
    kvs.length ≤ sizeLine ∧ Gathers X s (.ref a) (kvs.map fun e => kV e.1) := by
  have ⟨few, own, es, same, lies⟩ := dk_rd I.hok d
  have ⟨ep, lies⟩ := lies.dictAt
  have keys : (kvs.map fun e => kV e.1) = es.map fun e => kV e.1 := by
    have h := congrArg (List.map kV) same.keys
    rw [List.map_map, List.map_map] at h
    exact h
  refine ⟨few, fun R go => ?_⟩
  rw [keys] at go
  exact PySem.W.kdu_collect (PySem.W.kdl_dict (knd := mixKind X.prog X.w) own) (I.ok.hd calm) lies (same.length ▸ few)
    fun h t got grown is => go _ h t (keys_at (by simpa using is.1) fun j v at_j => is.2 j v (by simpa using at_j)) grown
theorem ints_back {us : List Value} {ns : List Int} (h : IntsAre us ns) : us.map SrtO.iv = ns := by
  induction h with
  | nil => rfl
  | cons n t _ ih => exact congrArg (n :: ·) ih
/-- sorted(d, reverse=b) of a dict whose keys are ints -/
def rSortedRevD (b : Bool) : List V → List V → Hp → VK → Prop := fun vs zs H Q => ∃ (a : Addr) (kvs : List (L2.Key × V)) (ks : List Int), vs = [V.ref a] ∧ zs = [.bl b] ∧ Rd H a (.dK kvs) ∧ kvs.map (·.1) = ks.map Sum.inl ∧
  ∀ (ns' : List Int) (p : Addr), ns'.Perm ks → OrdB b ns' → H p = none → Q (.ref p) (upd H p (.lst (ns'.map V.int)))
theorem cr_sortedRevD {b : Bool} (calm : X.calm = true) : CallRK X (.builtin "sorted") [Str.ofString "reverse"] (rSortedRevD b) := by
  rintro pins s σ H _ _ us ws Q I one by_kw ⟨a, kvs, ks, rfl, rfl, d, hks, q⟩
  obtain ⟨v, w, rfl, rfl, rfl, rfl⟩ : ∃ v w, us = [v] ∧ ws = [w] ∧ v = .ref a ∧ w = .bool b := by
    cases one with | cons e1 t1 => cases t1; cases by_kw with | cons e2 t2 => cases t2; exact ⟨_, _, rfl, rfl, e1, e2⟩
  have keys : (kvs.map fun e => kV e.1) = ks.map V.int := by
    have h := congrArg (List.map kV) hks
    rw [List.map_map, List.map_map] at h
    exact h
  have ⟨few, walk⟩ := gathers_dict calm I d
  rw [keys] at walk
  refine sorted_gathered I (by rw [← keys, List.length_map]; exact few) walk SrtO.swo_int (fun us _ _ two r _ _ => SrtO.ints_sortable r.ints two) fun P l hP perm up free => ?_
  obtain ⟨ns, np, en⟩ := go_along perm
  have back := ints_back (Vals.ints (en ▸ hP.vals))
  rw [← en, ← turn_map]
  refine q _ l ((turn_perm ns b).trans np) ?_ free
  have rise : ns.Pairwise (· ≤ ·) := by
    rw [← back, List.pairwise_map]
    exact up.imp fun h => Int.not_lt.mp (of_decide_eq_false h)
  cases b with
  | false => exact rise
  | true => exact List.pairwise_reverse.mpr rise
end
end El
namespace El
open PySem PySem.Spec PyProof.Rows L2
/-! ### heaps -/
/-- what B names stays as it was -/
def Kp (B : Addr → Prop) (H H' : Hp) : Prop := ∀ b o, B b → H b = some o → H' b = some o
theorem Kp.refl {B : Addr → Prop} {H : Hp} : Kp B H H := fun _ _ _ e => e
theorem Kp.trans {B : Addr → Prop} {H H1 H2 : Hp} (h : Kp B H H1) (k : Kp B H1 H2) : Kp B H H2 := fun b o hb e => k b o hb (h b o hb e)
theorem Kp.of {B : Addr → Prop} {H H' : Hp} (h : Same H H') : Kp B H H' := fun b o _ e => h b o e
theorem Kp.same {H H' : Hp} (h : Kp (fun _ => True) H H') : Same H H' := fun b o e => h b o trivial e
theorem same_new {H : Hp} {p : Addr} {o : HO} (h : H p = none) : Same H (upd H p o) := fun b u e => by
  rw [upd_ne (ne_of_none e h)]
  exact e
theorem Same.mut {H H' : Hp} {p : Addr} {o : HO} (e : Same H H') (h : H p = none) : Same H (upd H' p o) := fun b u q => by
  rw [upd_ne (ne_of_none q h)]
  exact e b u q
theorem Kp.mut {B : Addr → Prop} {H H' : Hp} {p : Addr} {o : HO} (e : Kp B H H') (h : ¬ B p) : Kp B H (upd H' p o) := fun b u hb q => by
  have n : b ≠ p := fun z => h (z ▸ hb)
  rw [upd_ne n]
  exact e b u hb q
theorem Kp.new {B : Addr → Prop} {H H' : Hp} {p : Addr} {o : HO} (e : Kp B H H') (h : H' p = none) : Kp B H (upd H' p o) := e.trans (Kp.of (same_new h))
theorem Kp.mutF {B : Addr → Prop} {H H' : Hp} {p : Addr} {o : HO} (e : Kp B H H') (h : H p = none) : Kp B H (upd H' p o) := fun b u hb q => by
  rw [upd_ne (ne_of_none q h)]
  exact e b u hb q
theorem Kp.none {B : Addr → Prop} {H H' : Hp} (e : Kp B H H') {p : Addr} (hb : B p) (h : H' p = none) : H p = none := by
  cases z : H p with
  | none => rfl
  | some x =>
    have := e _ _ hb z
    rw [h] at this
    cases this
theorem no_of {H : Hp} {a p : Addr} {o : HO} (h : H a = some o) (hp : H p = none) : p ≠ a := fun z => by
  rw [z, h] at hp
  cases hp
theorem same_none {H H' : Hp} (e : Same H H') {p : Addr} (h : H' p = none) : H p = none := e.free h
theorem ils {n : Nat} (h : n ≤ 100000) : n < sizeLine := Nat.lt_of_le_of_lt h (by decide)
theorem ile {n : Nat} (h : n ≤ 100000) : n ≤ sizeLine := Nat.le_of_lt (ils h)
theorem ints_at {ns : List Int} {i : Nat} {x : V} (h : (ns.map V.int)[i]? = some x) : ∃ n, ns[i]? = some n ∧ x = .int n := by
  rw [List.getElem?_map] at h
  cases e : ns[i]? with
  | none => rw [e] at h; cases h
  | some n => rw [e] at h; exact ⟨n, rfl, (Option.some.inj h).symm⟩
theorem refs_at {ts : List Addr} {i : Nat} {x : V} (h : (ts.map V.ref)[i]? = some x) : ∃ t, ts[i]? = some t ∧ x = .ref t := by
  rw [List.getElem?_map] at h
  cases e : ts[i]? with
  | none => rw [e] at h; cases h
  | some t => rw [e] at h; exact ⟨t, rfl, (Option.some.inj h).symm⟩
theorem at_lt {α : Type} {l : List α} {i : Nat} {x : α} (h : l[i]? = some x) : i < l.length := (List.getElem?_eq_some_iff.mp h).1
theorem at_some {α : Type} {l : List α} {i : Nat} (h : i < l.length) : ∃ x, l[i]? = some x := ⟨l[i], List.getElem?_eq_getElem h⟩
theorem take_snoc {α : Type} {l : List α} {i : Nat} {x : α} (h : l[i]? = some x) : l.take (i + 1) = l.take i ++ [x] := by
  rw [List.take_add_one, h]
  rfl
theorem take_full {α : Type} (l : List α) : l.take l.length = l := List.take_length
/-! ### a list of pairs of ints -/
structure GsAt (H : Hp) (B : Addr → Prop) (a : Addr) (ts : List Addr) (gs : List (Int × Int)) : Prop where
  top : H a = some (.lst (ts.map V.ref))
  ba : B a
  len : ts.length = gs.length
  at' : ∀ (i : Nat) (t : Addr) (g : Int × Int), ts[i]? = some t → gs[i]? = some g → H t = some (.tup [.int g.1, .int g.2])
  b : ∀ t ∈ ts, B t
theorem GsAt.keep {H H' : Hp} {B : Addr → Prop} {a : Addr} {ts : List Addr} {gs : List (Int × Int)} (h : GsAt H B a ts gs) (k : Kp B H H') : GsAt H' B a ts gs :=
  ⟨k _ _ h.ba h.top, h.ba, h.len, fun i t g e f => k _ _ (h.b t (List.mem_of_getElem? e)) (h.at' i t g e f), h.b⟩
theorem GsAt.same {H H' : Hp} {B : Addr → Prop} {a : Addr} {ts : List Addr} {gs : List (Int × Int)} (h : GsAt H B a ts gs) (k : Same H H') : GsAt H' B a ts gs := h.keep (.of k)
theorem GsAt.weaken {H : Hp} {B B' : Addr → Prop} {a : Addr} {ts : List Addr} {gs : List (Int × Int)} (h : GsAt H B a ts gs) (k : ∀ b, B b → B' b) : GsAt H B' a ts gs :=
  ⟨h.top, k _ h.ba, h.len, h.at', fun t m => k _ (h.b t m)⟩
theorem GsAt.seq {K : PySem.W.Frag} {H : Hp} {B : Addr → Prop} {a : Addr} {ts : List Addr} {gs : List (Int × Int)} (h : GsAt H B a ts gs) : SqL K H a (ts.map V.ref) := SqL.of h.top
theorem GsAt.get {H : Hp} {B : Addr → Prop} {a : Addr} {ts : List Addr} {gs : List (Int × Int)} (h : GsAt H B a ts gs) {i : Nat} {x : V} (e : (ts.map V.ref)[i]? = some x) : ∃ t g, x = .ref t ∧ gs[i]? = some g ∧ H t = some (.tup [.int g.1, .int g.2]) := by
  obtain ⟨t, e1, rfl⟩ := refs_at e
  have hi := at_lt e1
  rw [h.len] at hi
  obtain ⟨g, e2⟩ := at_some hi
  exact ⟨t, g, rfl, e2, h.at' i t g e1 e2⟩
/-- pushed -/
theorem GsAt.push {H : Hp} {B : Addr → Prop} {a : Addr} {ts : List Addr} {gs : List (Int × Int)} (h : GsAt H B a ts gs) (hn : a ∉ ts) {q : Addr} {g : Int × Int} (e : H q = some (.tup [.int g.1, .int g.2])) (bq : B q) :
    GsAt (upd H a (.lst (ts.map V.ref ++ [.ref q]))) B a (ts ++ [q]) (gs ++ [g]) := by
  refine ⟨?_, h.ba, ?_, fun i t x e1 e2 => ?_, fun t m => ?_⟩
  · rw [upd_same, List.map_append]
    rfl
  · rw [List.length_append, List.length_append, h.len]
    rfl
  · have nq : q ≠ a := fun z => by
      rw [z, h.top] at e
      cases e
    by_cases hi : i < ts.length
    · rw [List.getElem?_append_left hi] at e1
      rw [List.getElem?_append_left (by rw [← h.len]; exact hi)] at e2
      have nt : t ≠ a := fun z => hn (z ▸ List.mem_of_getElem? e1)
      rw [upd_ne nt]
      exact h.at' i t x e1 e2
    · have hi' : i = ts.length := by
        have := at_lt e1
        rw [List.length_append, List.length_singleton] at this
        omega
      subst hi'
      rw [List.getElem?_append_right (Nat.le_refl _), Nat.sub_self] at e1
      rw [h.len, List.getElem?_append_right (Nat.le_refl _), Nat.sub_self] at e2
      have e1' : q = t := Option.some.inj e1
      have e2' : g = x := Option.some.inj e2
      subst e1' e2'
      rw [upd_ne nq]
      exact e
  · rcases List.mem_append.mp m with m | m
    · exact h.b t m
    · rw [List.mem_singleton.mp m]
      exact bq
theorem GsAt.there {H : Hp} {B : Addr → Prop} {a : Addr} {ts : List Addr} {gs : List (Int × Int)} (h : GsAt H B a ts gs) : ∀ b, (b = a ∨ b ∈ ts) → ∃ x, H b = some x := fun b m => by
  rcases m with rfl | m
  · exact ⟨_, h.top⟩
  · obtain ⟨i, e⟩ := List.mem_iff_getElem?.mp m
    have hl := at_lt e
    rw [h.len] at hl
    obtain ⟨g, eg⟩ := at_some hl
    exact ⟨_, h.at' i b g e eg⟩
theorem GsAt.reB {H : Hp} {B B' : Addr → Prop} {a : Addr} {ts : List Addr} {gs : List (Int × Int)} (h : GsAt H B a ts gs) (k : ∀ b, (b = a ∨ b ∈ ts) → B b → B' b) : GsAt H B' a ts gs :=
  ⟨h.top, k _ (.inl rfl) h.ba, h.len, h.at', fun t m => k _ (.inr m) (h.b t m)⟩
/-- what stands in H and is named by B -/
def Liv (H : Hp) (B : Addr → Prop) (b : Addr) : Prop := (∃ x, H b = some x) ∧ B b
theorem GsAt.liv {H : Hp} {B : Addr → Prop} {a : Addr} {ts : List Addr} {gs : List (Int × Int)} (h : GsAt H B a ts gs) : GsAt H (Liv H B) a ts gs := h.reB fun b m hb => ⟨h.there b m, hb⟩
theorem Liv.no {H : Hp} {B : Addr → Prop} {p : Addr} (h : H p = none) : ¬ Liv H B p := fun ⟨⟨x, e⟩, _⟩ => by
  rw [h] at e
  cases e
theorem Liv.of {H : Hp} {B : Addr → Prop} {p : Addr} {o : HO} (h : H p = some o) (b : B p) : Liv H B p := ⟨⟨o, h⟩, b⟩
theorem Kp.weak {B B' : Addr → Prop} {H H' : Hp} (k : Kp B H H') (h : ∀ b, B' b → B b) : Kp B' H H' := fun b o hb e => k b o (h b hb) e
theorem Kp.liv {B : Addr → Prop} {H0 H H' : Hp} (k : Kp B H H') : Kp (Liv H0 B) H H' := k.weak fun _ h => h.2
/-! ### a list of lists of ints, each its own -/
structure RmsAt (H : Hp) (B : Addr → Prop) (o : Addr) (ts : List Addr) (rs : List (List Int)) : Prop where
  top : H o = some (.lst (ts.map V.ref))
  bo : B o
  nd : ts.Nodup
  no : o ∉ ts
  len : ts.length = rs.length
  at' : ∀ (i : Nat) (t : Addr) (r : List Int), ts[i]? = some t → rs[i]? = some r → H t = some (.lst (r.map V.int))
  b : ∀ t ∈ ts, B t
theorem RmsAt.keep {H H' : Hp} {B : Addr → Prop} {a : Addr} {ts : List Addr} {rs : List (List Int)} (h : RmsAt H B a ts rs) (k : Kp B H H') : RmsAt H' B a ts rs :=
  ⟨k _ _ h.bo h.top, h.bo, h.nd, h.no, h.len, fun i t g e f => k _ _ (h.b t (List.mem_of_getElem? e)) (h.at' i t g e f), h.b⟩
theorem RmsAt.same {H H' : Hp} {B : Addr → Prop} {a : Addr} {ts : List Addr} {rs : List (List Int)} (h : RmsAt H B a ts rs) (k : Same H H') : RmsAt H' B a ts rs := h.keep (.of k)
theorem RmsAt.weaken {H : Hp} {B B' : Addr → Prop} {a : Addr} {ts : List Addr} {rs : List (List Int)} (h : RmsAt H B a ts rs) (k : ∀ b, B b → B' b) : RmsAt H B' a ts rs :=
  ⟨h.top, k _ h.bo, h.nd, h.no, h.len, h.at', fun t m => k _ (h.b t m)⟩
theorem RmsAt.seq {K : PySem.W.Frag} {H : Hp} {B : Addr → Prop} {a : Addr} {ts : List Addr} {rs : List (List Int)} (h : RmsAt H B a ts rs) : SqL K H a (ts.map V.ref) := SqL.of h.top
theorem RmsAt.get {H : Hp} {B : Addr → Prop} {a : Addr} {ts : List Addr} {rs : List (List Int)} (h : RmsAt H B a ts rs) {i : Nat} {x : V} (e : (ts.map V.ref)[i]? = some x) : ∃ t r, x = .ref t ∧ ts[i]? = some t ∧ rs[i]? = some r ∧ H t = some (.lst (r.map V.int)) := by
  obtain ⟨t, e1, rfl⟩ := refs_at e
  have hi := at_lt e1
  rw [h.len] at hi
  obtain ⟨g, e2⟩ := at_some hi
  exact ⟨t, g, rfl, e1, e2, h.at' i t g e1 e2⟩
theorem RmsAt.of {H : Hp} {B : Addr → Prop} {a : Addr} {ts : List Addr} {rs : List (List Int)} (h : RmsAt H B a ts rs) {i : Nat} {r : List Int} (e : rs[i]? = some r) : ∃ t, ts[i]? = some t ∧ H t = some (.lst (r.map V.int)) := by
  have hi := at_lt e
  rw [← h.len] at hi
  obtain ⟨t, e2⟩ := at_some hi
  exact ⟨t, e2, h.at' i t r e2 e⟩
theorem RmsAt.nil {H : Hp} {B : Addr → Prop} {o : Addr} (h : H o = some (.lst [])) (bo : B o) : RmsAt H B o [] [] :=
  ⟨h, bo, List.nodup_nil, by simp, rfl, fun i t r e _ => by simp at e, fun t m => by simp at m⟩
/-- a new empty list behind -/
theorem RmsAt.push {H : Hp} {B : Addr → Prop} {o : Addr} {ts : List Addr} {rs : List (List Int)} (h : RmsAt H B o ts rs) {q : Addr} {r : List Int} (hq : H q = none) (bq : B q) :
    RmsAt (upd (upd H q (.lst (r.map V.int))) o (.lst (ts.map V.ref ++ [.ref q]))) B o (ts ++ [q]) (rs ++ [r]) := by
  have nq : q ≠ o := no_of h.top hq
  have nqt : ∀ t ∈ ts, q ≠ t := fun t m => by
    obtain ⟨i, hi⟩ := List.mem_iff_getElem?.mp m
    have hl := at_lt hi
    rw [h.len] at hl
    obtain ⟨r', er⟩ := at_some hl
    exact no_of (h.at' i t r' hi er) hq
  refine ⟨?_, h.bo, ?_, ?_, ?_, fun i t x e1 e2 => ?_, fun t m => ?_⟩
  · rw [upd_same, List.map_append]
    rfl
  · rw [List.nodup_append]
    exact ⟨h.nd, by simp, fun a ha b hb => by
      rw [List.mem_singleton.mp hb]
      exact (nqt a ha).symm⟩
  · intro m
    rcases List.mem_append.mp m with m | m
    · exact h.no m
    · exact nq (List.mem_singleton.mp m).symm
  · rw [List.length_append, List.length_append, h.len]
    rfl
  · by_cases hi : i < ts.length
    · rw [List.getElem?_append_left hi] at e1
      rw [List.getElem?_append_left (by rw [← h.len]; exact hi)] at e2
      have nt : t ≠ o := fun z => h.no (z ▸ List.mem_of_getElem? e1)
      rw [upd_ne nt, upd_ne (nqt t (List.mem_of_getElem? e1)).symm]
      exact h.at' i t x e1 e2
    · have hi' : i = ts.length := by
        have := at_lt e1
        rw [List.length_append, List.length_singleton] at this
        omega
      subst hi'
      rw [List.getElem?_append_right (Nat.le_refl _), Nat.sub_self] at e1
      rw [h.len, List.getElem?_append_right (Nat.le_refl _), Nat.sub_self] at e2
      have e1' : q = t := Option.some.inj e1
      have e2' : r = x := Option.some.inj e2
      subst e1' e2'
      rw [upd_ne nq, upd_same]
  · rcases List.mem_append.mp m with m | m
    · exact h.b t m
    · rw [List.mem_singleton.mp m]
      exact bq
/-- one of them changed -/
theorem RmsAt.set {H : Hp} {B : Addr → Prop} {o : Addr} {ts : List Addr} {rs : List (List Int)} (h : RmsAt H B o ts rs) {i : Nat} {t : Addr} (e : ts[i]? = some t) (r : List Int) :
    RmsAt (upd H t (.lst (r.map V.int))) B o ts (rs.set i r) := by
  have nt : t ≠ o := fun z => h.no (z ▸ List.mem_of_getElem? e)
  refine ⟨?_, h.bo, h.nd, h.no, ?_, fun j u x e1 e2 => ?_, h.b⟩
  · rw [upd_ne nt.symm]
    exact h.top
  · rw [List.length_set]
    exact h.len
  · by_cases hj : j = i
    · subst hj
      have e' : u = t := Option.some.inj (e1.symm.trans e)
      subst e'
      rw [upd_same]
      have hl := at_lt e1
      rw [h.len] at hl
      rw [List.getElem?_set_self hl] at e2
      have : r = x := Option.some.inj e2
      rw [this]
    · rw [List.getElem?_set_ne (fun z => hj z.symm)] at e2
      have hut : u ≠ t := fun z => by
        subst z
        exact hj (nd_ix h.nd e1 e)
      rw [upd_ne hut]
      exact h.at' j u x e1 e2
theorem RmsAt.newTop {H H' : Hp} {B B' : Addr → Prop} {o : Addr} {ts : List Addr} {rs : List (List Int)} (h : RmsAt H B o ts rs) (k : ∀ b u, (b = o ∨ b ∈ ts) → H b = some u → H' b = some u) (kb : ∀ b, (b = o ∨ b ∈ ts) → B' b) : RmsAt H' B' o ts rs :=
  ⟨k _ _ (.inl rfl) h.top, kb _ (.inl rfl), h.nd, h.no, h.len, fun i t r e f => k _ _ (.inr (List.mem_of_getElem? e)) (h.at' i t r e f), fun t m => kb t (.inr m)⟩
/-! ### the dict of patience -/
def pks (gs : List (Int × Int)) : List (L2.Key × V) := gs.map fun g => (Sum.inl g.1, V.int g.2)
theorem pks_len (gs : List (Int × Int)) : (pks gs).length = gs.length := List.length_map _
theorem pks_keys (gs : List (Int × Int)) : (pks gs).map (·.1) = (gs.map (·.1)).map Sum.inl := by
  unfold pks
  rw [List.map_map, List.map_map]
  rfl
theorem pks_snoc (gs : List (Int × Int)) (g : Int × Int) : pks (gs ++ [g]) = pks gs ++ [(Sum.inl g.1, V.int g.2)] := List.map_append
theorem pks_none {gs : List (Int × Int)} {a : Int} (h : a ∉ gs.map (·.1)) : valV (pks gs) (Sum.inl a) = none := by
  induction gs with
  | nil => rfl
  | cons g gs ih =>
    have h' : ¬ (a = g.1 ∨ a ∈ gs.map (·.1)) := fun z => h (by rw [List.map_cons]; exact List.mem_cons.mpr z)
    have n : ¬ (Sum.inl g.1 : L2.Key) = Sum.inl a := fun z => h' (.inl (Sum.inl.inj z).symm)
    show valV ((Sum.inl g.1, V.int g.2) :: pks gs) (Sum.inl a) = none
    rw [valV_neg n]
    exact ih fun z => h' (.inr z)
theorem pks_some : ∀ {gs : List (Int × Int)} {g : Int × Int}, (gs.map (·.1)).Nodup → g ∈ gs → valV (pks gs) (Sum.inl g.1) = some (.int g.2)
  | x :: gs, g, nd, h => by
    have nd' : (x.1 :: gs.map (·.1)).Nodup := nd
    obtain ⟨n1, n2⟩ := List.nodup_cons.mp nd'
    show valV ((Sum.inl x.1, V.int x.2) :: pks gs) (Sum.inl g.1) = some (.int g.2)
    rcases List.mem_cons.mp h with e | h
    · subst e
      rw [valV_pos rfl]
    · have n : ¬ (Sum.inl x.1 : L2.Key) = Sum.inl g.1 := fun z => n1 (by
        rw [Sum.inl.inj z]
        exact List.mem_map.mpr ⟨g, h, rfl⟩)
      rw [valV_neg n]
      exact pks_some n2 h
theorem putK_snoc {gs : List (Int × Int)} {g : Int × Int} (h : g.1 ∉ gs.map (·.1)) : putK (pks gs) (Sum.inl g.1) (V.int g.2) = pks (gs ++ [g]) := by
  rw [putK_new _ (pks_none h), pks_snoc]
theorem Fit.take_no {gs : List (Int × Int)} (f : Fit gs) {i : Nat} {g : Int × Int} (h : gs[i]? = some g) : g.1 ∉ (gs.take i).map (·.1) := by
  intro m
  have e : gs = gs.take i ++ g :: gs.drop (i + 1) := by
    have hl := at_lt h
    have e2 : gs[i] = g := by
      rw [List.getElem?_eq_getElem hl] at h
      exact Option.some.inj h
    rw [← e2, List.getElem_cons_drop, List.take_append_drop]
  have nd := f.nd
  rw [e, List.map_append, List.nodup_append] at nd
  exact nd.2.2 _ m g.1 (by rw [List.map_cons]; exact List.mem_cons_self) rfl
/-! ### rules by a written part that is named (for what stands in a comprehension) -/
section
variable {X : Cx}
theorem lenK (K : PySem.W.Frag) (e : X.K = K := by rfl) : CallR X (.builtin "len") (fun xs H Q => ∃ p ys, xs = [.ref p] ∧ (SqL K H p ys ∨ SqT K H p ys) ∧ Q (.int ys.length) H) := by
  subst e
  exact call_len_seq
theorem ixlK (K : PySem.W.Frag) (e : X.K = K := by rfl) : IxR X (rIxL K) := by
  subst e
  exact ix_list
theorem ixtK (K : PySem.W.Frag) (e : X.K = K := by rfl) : IxR X (rIxT K) := by
  subst e
  exact ix_tup
theorem sllK (K : PySem.W.Frag) (e : X.K = K := by rfl) : SlR X (rSlL K) := by
  subst e
  exact sl_list
theorem eqDK (K : PySem.W.Frag) (hu : X.A.units + 64 < cLine) (e : X.K = K := by rfl) : OpR X (compareOp .Eq) (rEqD K) := by
  subst e
  exact op_eqD hu
theorem neDK (K : PySem.W.Frag) (hu : X.A.units + 64 < cLine) (e : X.K = K := by rfl) : OpR X (compareOp .NotEq) (rNeD K) := by
  subst e
  exact op_neD hu
theorem isiK (K : PySem.W.Frag) (e : X.K = K := by rfl) : CallR X (.builtin "isinstance") (rIsi K) := by
  subst e
  exact call_isi
theorem sumK (K : PySem.W.Frag) (hc : X.calm = true) (e : X.K = K := by rfl) : CallR X (.builtin "sum") (rSum K) := by
  subst e
  exact cr_sum hc
theorem inK (K : PySem.W.Frag) (e : X.K = K := by rfl) : OpR X (compareOp .In) (rIn K false) := by
  subst e
  exact op_in_seq
theorem notInK (K : PySem.W.Frag) (e : X.K = K := by rfl) : OpR X (compareOp .NotIn) (rIn K true) := by
  subst e
  exact op_notIn_seq
theorem listOfK (K : PySem.W.Frag) (e : X.K = K := by rfl) : CallR X (.type "list") (fun xs H Q => ∃ p ys, xs = [.ref p] ∧ (SqL K H p ys ∨ SqT K H p ys) ∧ ∀ l, H l = none → Q (.ref l) (upd H l (.lst ys))) := by
  subst e
  exact call_list_of
theorem pgTupK {es : List Expr} {k : Nat} {t : TGs} {pos : Pos} (K : PySem.W.Frag) (n : Nat) (hc : X.calm = true) (h : PGs X es t)
    (hn : (assignEach es X.env).length = n := by rfl) (hst : (assignEach es X.env).findIdx? (·.1) = none := by rfl) (e : X.K = K := by rfl) : PG X (.Tuple es k pos) (gTup K n t) := by
  subst e
  exact pg_tup hc h hn hst
theorem bmK {T : String} {name : Str} {id : String} {o e : Expr} {es : List Expr} {to : TE} {t : TA} {apos cpos : Pos} {r : V → List V → Hp → VK → Prop} (K : PySem.W.Frag) (pa : PlainAttrs T) (slot : Slot T name id) (hty : typeOf (.builtin id) = pure (.type "method_descriptor")) (hm : MtR X id r) (ho : PE X o to) (ha : PA X (e :: es) t)
    (hbase : attributeBase o name X.env (eval o X.env) = eval o X.env := by rfl)
    (hfew : ((backTo cpos (starEach (e :: es) X.env)).all (fun x => !x.1) && (backToKw cpos (keywordEach [] X.env)).all (fun x => x.1.isSome)
      && decide ((e :: es).length + ([] : List Keyword).length + (if ([] : List Keyword).isEmpty then 0 else 1) < 30)) = true := by rfl)
    (hline : (apos.endLine == cpos.line) = true := by rfl) (hs : starEach (e :: es) X.env = (false, eval e X.env) :: starEach es X.env := by rfl) (hplain : (backTo cpos (starEach es X.env)).any (·.1) = false := by rfl) (eK : X.K = K := by rfl) :
    PE X (.Call (.Attribute o name apos) (e :: es) [] cpos) (tBM K T r to t) := by
  subst eK
  exact pe_bm pa slot hty hm ho ha hbase hfew hline hs hplain
end
/-! ### cuts: what holds between two parts of a body -/
section
variable {σ : L2.St} {H : Hp} {D : Ends} {c : TT} {t u tb : TS}
theorem while_to (W : Nat → L2.St → Hp → Prop) (E : L2.St → Hp → Prop) (h0 : ∃ m, W m σ H) (hd : ∀ σ H, E σ H → D.nx σ H)
    (hs : ∀ X : L2.St → Hp → Prop, (∀ σ H, E σ H → X σ H) → ∀ m σ H, W m σ H → c σ H fun b H1 => if b = true then ∃ N : L2.St → Hp → Prop, (∀ σ' H', N σ' H' → ∃ m', m' < m ∧ W m' σ' H') ∧ tb { D with nx := N, ct := N, bk := X } σ H1 else X σ H1) : tWhile c tb D σ H := ⟨W, h0, hs D.nx hd⟩
theorem seq_to (E : L2.St → Hp → Prop) (h1 : ∀ X : L2.St → Hp → Prop, (∀ σ H, E σ H → X σ H) → t { D with nx := X } σ H) (h2 : ∀ σ H, E σ H → u D σ H) : tSeq t u D σ H := h1 (u D) h2
theorem seq_set {i : Nat} {v : V} (h : u D (σ.set i (some v)) H) : tSeq (tAsg (tC v) (gName i)) u D σ H := h
theorem st_to (E : L2.St → Hp → Prop) (h1 : ∀ X : L2.St → Hp → Prop, (∀ σ H, E σ H → X σ H) → t { D with nx := X } σ H) (h2 : ∀ σ H, E σ H → D.nx σ H) : t D σ H := h1 D.nx h2
end
theorem ixN_of {n j : Nat} (hj : j < n) : ixN n (j : Int) = some j := by
  unfold ixN
  rw [if_pos (by omega), if_pos (by omega), Int.toNat_natCast]
theorem seq_ix {n j : Nat} (hj : j < n) : seqIndex? (j : Int) n = some j := (ixN_seq (ixN_of hj)).1
theorem at_pick {xs : List V} {r : Int} (h0 : 0 ≤ r) (h1 : r < xs.length) : ∃ v, atI xs r = some v ∧ v ∈ xs := by
  obtain ⟨k, rfl⟩ : ∃ k : Nat, r = k := ⟨r.toNat, by omega⟩
  obtain ⟨v, e⟩ := at_some (show k < xs.length by omega)
  exact ⟨v, atI_nat e, List.mem_of_getElem? e⟩
theorem erase_perm {α : Type} : ∀ {l : List α} {k : Nat} {x : α}, l[k]? = some x → (x :: l.eraseIdx k).Perm l
  | [], _, _, h => by simp at h
  | a :: l, 0, x, h => by
    obtain rfl : a = x := Option.some.inj h
    exact List.Perm.refl _
  | a :: l, k + 1, x, h => by
    have ih := erase_perm (l := l) (k := k) (x := x) (by simpa using h)
    exact (List.Perm.swap a x (l.eraseIdx k)).trans (ih.cons a)
/-! ### data -/
def dInts (ns : List Int) : PyData := .list (ns.map .int)
def dGs (gs : List (Int × Int)) : PyData := .list (gs.map fun g => .tuple [.int g.1, .int g.2])
def dRows (rs : List (List Int)) : PyData := .list (rs.map dInts)
theorem canAll : ∀ {xs : List PyData}, (∀ x ∈ xs, x.canLay0 = true) → PyData.canLayAll0 xs = true
  | [], _ => by simp [PyData.canLayAll0]
  | x :: xs, h => by
    rw [PyData.canLayAll0, h x List.mem_cons_self, canAll fun y hy => h y (List.mem_cons_of_mem _ hy)]
    rfl
theorem depAll {n : Nat} : ∀ {xs : List PyData}, (∀ x ∈ xs, x.depth ≤ n) → PyData.depthAll xs ≤ n
  | [], _ => by simp [PyData.depthAll]
  | x :: xs, h => by
    rw [PyData.depthAll]
    exact Nat.max_le.mpr ⟨h x List.mem_cons_self, depAll fun y hy => h y (List.mem_cons_of_mem _ hy)⟩
structure Oks (n : Nat) (d : PyData) : Prop where
  can : d.canLay0 = true
  dep : d.depth ≤ n
theorem Oks.int (i : Int) : Oks 0 (.int i) := ⟨by simp [PyData.canLay0], by simp [PyData.depth]⟩
theorem Oks.mono {n m : Nat} {d : PyData} (h : Oks n d) (k : n ≤ m) : Oks m d := ⟨h.can, Nat.le_trans h.dep k⟩
theorem Oks.lst {n : Nat} {xs : List PyData} (h : ∀ x ∈ xs, Oks n x) : Oks (n + 1) (.list xs) := ⟨by rw [PyData.canLay0]; exact canAll fun x m => (h x m).can, by rw [PyData.depth]; exact Nat.succ_le_succ (depAll fun x m => (h x m).dep)⟩
theorem Oks.tup {n : Nat} {xs : List PyData} (h : ∀ x ∈ xs, Oks n x) : Oks (n + 1) (.tuple xs) := ⟨by rw [PyData.canLay0]; exact canAll fun x m => (h x m).can, by rw [PyData.depth]; exact Nat.succ_le_succ (depAll fun x m => (h x m).dep)⟩
theorem Oks.ints (ns : List Int) : Oks 1 (dInts ns) := .lst fun x m => by
  obtain ⟨n, _, rfl⟩ := List.mem_map.mp m
  exact .int n
theorem Oks.gs (gs : List (Int × Int)) : Oks 2 (dGs gs) := .lst fun x m => by
  obtain ⟨g, _, rfl⟩ := List.mem_map.mp m
  refine .tup fun y hy => ?_
  rcases List.mem_cons.mp hy with rfl | hy
  · exact .int _
  · rw [List.mem_singleton.mp hy]
    exact .int _
theorem Oks.rows (rs : List (List Int)) : Oks 2 (dRows rs) := .lst fun x m => by
  obtain ⟨r, _, rfl⟩ := List.mem_map.mp m
  exact .ints r
theorem Oks.shaped {n : Nat} {d : PyData} (h : Oks n d) (k : n ≤ 64 := by decide) : SeqAt.shaped d = true := by
  unfold SeqAt.shaped
  rw [h.can, decide_eq_true (Nat.le_trans h.dep k)]
  rfl
theorem Oks.eqv {n : Nat} {d : PyData} (h : Oks n d) : PyData.eqv d d = true := SeqAt.eqv_refl d h.can
theorem dp_ints {K : PySem.W.Frag} {H : Hp} {ns : List Int} : DpAll K H (ns.map V.int) (ns.map .int) := by
  induction ns with
  | nil => exact .nil
  | cons n ns ih => exact .cons (.int n) ih
theorem Dp.ints {K : PySem.W.Frag} {H : Hp} {a : Addr} {ns : List Int} (h : H a = some (.lst (ns.map V.int))) : Dp K H (.ref a) (dInts ns) := .lst (SqL.of h) dp_ints
theorem dpAll_of {K : PySem.W.Frag} {H : Hp} : ∀ {vs : List V} {ds : List PyData}, vs.length = ds.length → (∀ (i : Nat) (v : V) (d : PyData), vs[i]? = some v → ds[i]? = some d → Dp K H v d) → DpAll K H vs ds
  | [], [], _, _ => .nil
  | v :: vs, d :: ds, hl, h => .cons (h 0 v d rfl rfl) (dpAll_of (by simpa using hl) fun i v d e f => h (i + 1) v d (by simpa using e) (by simpa using f))
  | [], _ :: _, hl, _ => by simp at hl
  | _ :: _, [], hl, _ => by simp at hl
theorem GsAt.dp {K : PySem.W.Frag} {H : Hp} {B : Addr → Prop} {a : Addr} {ts : List Addr} {gs : List (Int × Int)} (h : GsAt H B a ts gs) : Dp K H (.ref a) (dGs gs) := by
  refine .lst h.seq (dpAll_of (by rw [List.length_map, List.length_map, h.len]) fun i v d e f => ?_)
  obtain ⟨t, g, rfl, eg, et⟩ := h.get e
  rw [List.getElem?_map, eg] at f
  obtain rfl := Option.some.inj f
  exact .tup (SqT.of et) (.cons (.int _) (.cons (.int _) .nil))
theorem RmsAt.dp {K : PySem.W.Frag} {H : Hp} {B : Addr → Prop} {a : Addr} {ts : List Addr} {rs : List (List Int)} (h : RmsAt H B a ts rs) : Dp K H (.ref a) (dRows rs) := by
  refine .lst h.seq (dpAll_of (by rw [List.length_map, List.length_map, h.len]) fun i v d e f => ?_)
  obtain ⟨t, r, rfl, _, er, et⟩ := h.get e
  rw [List.getElem?_map, er] at f
  obtain rfl := Option.some.inj f
  exact Dp.ints et
theorem eqv_nil (gs : List Int) : PyData.eqv (dInts gs) (dInts []) = gs.isEmpty := by
  cases gs with
  | nil => rfl
  | cons x r => rfl
theorem relTy (n : String) : RelV (.ty n) (.type n) := rfl
theorem FnOk.or {P : Program} {w : World} {K : PySem.W.Frag} {mg : Str → Option Value} {base : Heap} {CX : CXT} {k : Nat} {f : Addr} {fd : FuncData} {ps : List Str} {sp sp' : Sp} (F : FnOk P w K mg base CX k f fd ps sp) (F' : FnOk P w K mg base CX k f fd ps sp') :
    FnOk P w K mg base CX k f fd ps (fun vs H Q E => sp vs H Q E ∨ sp' vs H Q E) :=
  ⟨fun vs H Q E h => h.elim (F.len vs H Q E) (F'.len vs H Q E), fun A outer s H args us vs Q E hr e0 hb r h => h.elim (F.run A outer s H args us vs Q E hr e0 hb r) (F'.run A outer s H args us vs Q E hr e0 hb r)⟩
/-! ### built-ins by their names -/
structure Bi (mg : Str → Option Value) : Prop where
  len : mg "len" = none
  range : mg "range" = none
  enumerate : mg "enumerate" = none
  sorted : mg "sorted" = none
  sum : mg "sum" = none
  min : mg "min" = none
  max : mg "max" = none
  isinstance : mg "isinstance" = none
  zip : mg "zip" = none
  list_ : mg "list" = none
  tuple_ : mg "tuple" = none
  int_ : mg "int" = none
  bool_ : mg "bool" = none
  str_ : mg "str" = none
  abs : mg "abs" = none
  repr : mg "repr" = none
  dict_ : mg "dict" = none
  any : mg "any" = none
  all : mg "all" = none
  set_ : mg "set" = none
  reversed : mg "reversed" = none
  ValueError_ : mg "ValueError" = none
  divmod : mg "divmod" = none
end El
namespace El
open PySem PySem.Spec PyProof.Rows L2
/-- how many live in each -/
def lens (rs : List (List Int)) : List Int := rs.map fun r => (r.length : Int)
theorem lens_length (rs : List (List Int)) : (lens rs).length = rs.length := List.length_map _
theorem lens_at {rs : List (List Int)} {i : Nat} {r : List Int} (h : rs[i]? = some r) : (lens rs)[i]? = some (r.length : Int) := by
  unfold lens
  rw [List.getElem?_map, h]
  rfl
theorem cut_to (xs : List V) (j : Nat) : cutV xs none (some (j : Int)) = xs.take j := by
  unfold cutV
  rw [HT.sIx_none, HT.sIx_nat]
  show (List.drop 0 xs).take (min j xs.length - 0) = _
  rw [List.drop_zero, Nat.sub_zero, ← List.take_eq_take_min]
/-- the pair that stands at a value -/
def prOf (H : Hp) : V → Int × Int
  | .ref t => match H t with
    | some (.tup [.int i, .int j]) => (i, j)
    | _ => (0, 0)
  | _ => (0, 0)
theorem prOf_is {H : Hp} {t : Addr} {g : Int × Int} (h : H t = some (.tup [.int g.1, .int g.2])) : prOf H (.ref t) = g := by
  show (match H t with
    | some (.tup [.int i, .int j]) => (i, j)
    | _ => (0, 0)) = g
  rw [h]
theorem GsAt.prs {H : Hp} {B : Addr → Prop} {a : Addr} {ts : List Addr} {gs : List (Int × Int)} (h : GsAt H B a ts gs) : (ts.map V.ref).map (prOf H) = gs := by
  refine List.ext_getElem? fun i => ?_
  rw [List.getElem?_map]
  cases e : (ts.map V.ref)[i]? with
  | none =>
    have hl : (ts.map V.ref).length ≤ i := List.getElem?_eq_none_iff.mp e
    rw [List.length_map, h.len] at hl
    rw [List.getElem?_eq_none_iff.mpr hl]
    rfl
  | some x =>
    obtain ⟨t, g, rfl, eg, et⟩ := h.get e
    rw [eg]
    show some (prOf H (.ref t)) = some g
    rw [prOf_is et]
theorem GsAt.mem {H : Hp} {B : Addr → Prop} {a : Addr} {ts : List Addr} {gs : List (Int × Int)} (h : GsAt H B a ts gs) : ∀ x ∈ ts.map V.ref, ∃ t, x = V.ref t ∧ H t = some (.tup [.int (prOf H x).1, .int (prOf H x).2]) := fun x m => by
  obtain ⟨i, e⟩ := List.mem_iff_getElem?.mp m
  obtain ⟨t, g, rfl, eg, et⟩ := h.get e
  refine ⟨t, rfl, ?_⟩
  rw [prOf_is et]
  exact et
theorem sorted_prs {k : V → Int × Int} {ys xs : List V} {gs : List (Int × Int)} (f : Fit gs) (hx : xs.map k = gs) (hs : SrtO.Srtd (ltP k) ys) (hb : SrtO.Stb (ltP k) ys xs) : ys.reverse.map k = byAge gs := by
  refine byAge_of f ?_ ?_
  · rw [← hx]
    exact ((List.reverse_perm ys).trans hb.perm).map k
  · rw [List.map_reverse, List.pairwise_reverse, List.pairwise_map]
    refine hs.imp fun {a b} h => ?_
    have h' : SrtO.lexB (k b) (k a) = false := h
    rw [SrtO.lexB_no] at h'
    omega
theorem cut_1 (xs : List V) : cutV xs (some 1) none = xs.drop 1 := by
  unfold cutV
  rw [show HT.sIx xs.length 0 (some 1) = min 1 xs.length from HT.sIx_nat xs.length 0 1, HT.sIx_none]
  cases xs with
  | nil => rfl
  | cons x r =>
    rw [show min 1 (x :: r).length = 1 by
      rw [List.length_cons]
      omega]
    show (List.take ((x :: r).length - 1) r) = r
    rw [List.length_cons, Nat.add_sub_cancel]
    exact List.take_length
theorem lens_falls {gs : List (Int × Int)} (f : Fit gs) {i : Nat} {x y : Int} (h1 : (lens (settle gs))[i]? = some x) (h2 : ((lens (settle gs)).drop 1)[i]? = some y) : ¬ x < y := by
  rw [List.getElem?_drop] at h2
  unfold lens at h1 h2
  rw [List.getElem?_map] at h1 h2
  have hp := settleL_falls (byAge gs) f.byAge.pos
  cases e1 : (settle gs)[i]? with
  | none => rw [e1] at h1; cases h1
  | some r =>
    cases e2 : (settle gs)[1 + i]? with
    | none => rw [e2] at h2; cases h2
    | some s =>
      rw [e1] at h1
      rw [e2] at h2
      obtain rfl : (r.length : Int) = x := Option.some.inj h1
      obtain rfl : (s.length : Int) = y := Option.some.inj h2
      obtain ⟨l1, q1⟩ := List.getElem?_eq_some_iff.mp (show (settleL (byAge gs))[i]? = some r from e1)
      obtain ⟨l2, q2⟩ := List.getElem?_eq_some_iff.mp (show (settleL (byAge gs))[1 + i]? = some s from e2)
      have := List.pairwise_iff_getElem.mp hp i (1 + i) l1 l2 (by omega)
      rw [q1, q2] at this
      omega
theorem dget_pks {H : Hp} {d : Addr} {gs : List (Int × Int)} {g : Int × Int} (h : H d = some (.dK (pks gs))) (f : Fit gs) (m : g ∈ gs) : DGet H d (.int g.1) (some (.int g.2)) := by
  have q := DGet.k (k := Sum.inl g.1) h
  rw [pks_some f.nd m] at q
  exact q
theorem log_lt {m : Int} {k : Nat} (h0 : 0 < m) (h : m < 2 ^ k) : m.natAbs.log2 < k := by
  obtain ⟨j, rfl⟩ : ∃ j : Nat, m = j := ⟨m.toNat, by omega⟩
  have h' : j < 2 ^ k := by exact_mod_cast h
  rw [Int.natAbs_natCast]
  exact (Nat.log2_lt (by omega)).mpr h'
theorem GsAt.mix {H : Hp} {B B' : Addr → Prop} {a m : Addr} {ts : List Addr} {gs : List (Int × Int)} {ys : List V} (h : GsAt H B a ts gs) (e : H m = some (.lst ys)) (bm : B' m) (hb : ∀ b, B b → B' b) (p : ys.Perm (ts.map V.ref)) :
    ∃ ts' gs', GsAt H B' m ts' gs' ∧ gs'.Perm gs := by
  have hm : ∀ y ∈ ys, ∃ t, y = V.ref t ∧ t ∈ ts := fun y hy => by
    obtain ⟨t, ht, rfl⟩ := List.mem_map.mp (p.mem_iff.mp hy)
    exact ⟨t, rfl, ht⟩
  obtain ⟨us, rfl, hu⟩ : ∃ us : List Addr, ys = us.map V.ref ∧ ∀ u ∈ us, u ∈ ts := by
    clear p e
    induction ys with
    | nil => exact ⟨[], rfl, fun u hu => absurd hu (by simp)⟩
    | cons y ys ih =>
      obtain ⟨t, rfl, ht⟩ := hm y List.mem_cons_self
      obtain ⟨us, rfl, hu⟩ := ih fun z hz => hm z (List.mem_cons_of_mem _ hz)
      exact ⟨t :: us, rfl, fun u h => by
        rcases List.mem_cons.mp h with rfl | h
        · exact ht
        · exact hu u h⟩
  refine ⟨us, (us.map V.ref).map (prOf H), ⟨e, bm, by rw [List.length_map, List.length_map], fun i t g e1 e2 => ?_, fun t ht => hb t (h.b t (hu t ht))⟩, ?_⟩
  · rw [List.getElem?_map, List.getElem?_map, e1] at e2
    have e2' : prOf H (.ref t) = g := Option.some.inj e2
    obtain ⟨j, ej⟩ := List.mem_iff_getElem?.mp (hu t (List.mem_of_getElem? e1))
    obtain ⟨t', g', e3, eg, et⟩ := h.get (i := j) (x := .ref t) (by rw [List.getElem?_map, ej]; rfl)
    injection e3 with e3
    subst e3
    rw [prOf_is et] at e2'
    rw [← e2']
    exact et
  · have := p.map (prOf H)
    rw [h.prs] at this
    exact this
/-- put in anywhere -/
theorem GsAt.ins {H : Hp} {B : Addr → Prop} {a : Addr} {ts : List Addr} {gs : List (Int × Int)} {ys : List V} (h : GsAt H B a ts gs) (hn : a ∉ ts) {q : Addr} {g : Int × Int} (e : H q = some (.tup [.int g.1, .int g.2])) (bq : B q) (p : ys.Perm (ts.map V.ref ++ [.ref q])) :
    ∃ ts' gs', GsAt (upd H a (.lst ys)) B a ts' gs' ∧ gs'.Perm (gs ++ [g]) ∧ a ∉ ts' ∧ ys = ts'.map V.ref := by
  have nq : q ≠ a := fun z => by
    rw [z, h.top] at e
    cases e
  have hm : ∀ y ∈ ys, ∃ t, y = V.ref t ∧ t ∈ ts ++ [q] := fun y hy => by
    rcases List.mem_append.mp (p.mem_iff.mp hy) with m | m
    · obtain ⟨t, ht, rfl⟩ := List.mem_map.mp m
      exact ⟨t, rfl, List.mem_append_left _ ht⟩
    · exact ⟨q, List.mem_singleton.mp m, List.mem_append_right _ (List.mem_singleton.mpr rfl)⟩
  obtain ⟨us, rfl, hu⟩ : ∃ us : List Addr, ys = us.map V.ref ∧ ∀ u ∈ us, u ∈ ts ++ [q] := by
    clear p
    induction ys with
    | nil => exact ⟨[], rfl, fun u hu => absurd hu (by simp)⟩
    | cons y ys ih =>
      obtain ⟨t, rfl, ht⟩ := hm y List.mem_cons_self
      obtain ⟨us, rfl, hu⟩ := ih fun z hz => hm z (List.mem_cons_of_mem _ hz)
      exact ⟨t :: us, rfl, fun u h => by
        rcases List.mem_cons.mp h with rfl | h
        · exact ht
        · exact hu u h⟩
  have ha : ∀ u ∈ us, u ≠ a ∧ B u ∧ ∃ x : Int × Int, H u = some (.tup [.int x.1, .int x.2]) := fun u m => by
    rcases List.mem_append.mp (hu u m) with m | m
    · obtain ⟨j, ej⟩ := List.mem_iff_getElem?.mp m
      obtain ⟨t', g', e3, eg, et⟩ := h.get (i := j) (x := .ref u) (by rw [List.getElem?_map, ej]; rfl)
      injection e3 with e3
      subst e3
      exact ⟨fun z => hn (z ▸ m), h.b u m, g', et⟩
    · rw [List.mem_singleton.mp m]
      exact ⟨nq, bq, g, e⟩
  refine ⟨us, (us.map V.ref).map (prOf H), ⟨upd_same, h.ba, by rw [List.length_map, List.length_map], fun i t x e1 e2 => ?_, fun t m => (ha t m).2.1⟩, ?_, fun m => (ha a m).1 rfl, rfl⟩
  · rw [List.getElem?_map, List.getElem?_map, e1] at e2
    have e2' : prOf H (.ref t) = x := Option.some.inj e2
    obtain ⟨n1, _, y, ey⟩ := ha t (List.mem_of_getElem? e1)
    rw [prOf_is ey] at e2'
    subst e2'
    rw [upd_ne n1]
    exact ey
  · have := p.map (prOf H)
    rw [List.map_append, h.prs] at this
    rw [show [V.ref q].map (prOf H) = [g] by show [prOf H (.ref q)] = [g]; rw [prOf_is e]] at this
    exact this
theorem GsAt.cat {H : Hp} {B : Addr → Prop} {a l : Addr} {ts : List Addr} {gs : List (Int × Int)} (h : GsAt H B a ts gs) {q : Addr} {g : Int × Int} (e : H q = some (.tup [.int g.1, .int g.2])) (el : H l = some (.lst (ts.map V.ref ++ [.ref q]))) :
    GsAt H (fun _ => True) l (ts ++ [q]) (gs ++ [g]) := by
  refine ⟨by rw [List.map_append]; exact el, trivial, by rw [List.length_append, List.length_append, h.len]; rfl, fun i t x e1 e2 => ?_, fun _ _ => trivial⟩
  by_cases hi : i < ts.length
  · rw [List.getElem?_append_left hi] at e1
    rw [List.getElem?_append_left (by rw [← h.len]; exact hi)] at e2
    exact h.at' i t x e1 e2
  · have hi' : i = ts.length := by
      have := at_lt e1
      rw [List.length_append, List.length_singleton] at this
      omega
    subst hi'
    rw [List.getElem?_append_right (Nat.le_refl _), Nat.sub_self] at e1
    rw [h.len, List.getElem?_append_right (Nat.le_refl _), Nat.sub_self] at e2
    obtain rfl : q = t := Option.some.inj e1
    obtain rfl : g = x := Option.some.inj e2
    exact e
theorem inV_ints (x : Int) (ns : List Int) : inV (.int x) (ns.map V.int) = decide (x ∈ ns) := by
  unfold inV
  rw [List.any_map]
  induction ns with
  | nil => rfl
  | cons n ns ih =>
    rw [List.any_cons, ih]
    have e : ((fun y => eqV y (V.int x)) ∘ V.int) n = decide (x = n) := by
      show eqV (.int n) (.int x) = decide (x = n)
      have e2 : eqV (.int n) (.int x) = decide (n = x) := by
        unfold eqV
        first | rfl | simp
      rw [e2]
      by_cases h : n = x
      · subst h; simp
      · rw [decide_eq_false h, decide_eq_false (fun z => h z.symm)]
    rw [e]
    by_cases h : x = n
    · subst h
      simp
    · rw [decide_eq_false h, Bool.false_or]
      by_cases h2 : x ∈ ns
      · rw [decide_eq_true h2, decide_eq_true (List.mem_cons_of_mem _ h2)]
      · rw [decide_eq_false h2, decide_eq_false (fun z => (List.mem_cons.mp z).elim h h2)]
theorem flat_ints (ns : List Int) : (ns.map V.int).all flatV = true := by
  rw [List.all_map, List.all_eq_true]
  intro x _
  rfl
theorem eqvAll_ints : ∀ a b : List Int, PyData.eqvAll (a.map .int) (b.map .int) = decide (a = b)
  | [], [] => rfl
  | [], y :: b => by
    rw [decide_eq_false (by simp)]
    rfl
  | x :: a, [] => by
    rw [decide_eq_false (by simp)]
    rfl
  | x :: a, y :: b => by
    rw [List.map_cons, List.map_cons, PyData.eqvAll, eqvAll_ints a b]
    show ((x == y) && decide (a = b)) = _
    by_cases h : x = y
    · subst h
      by_cases h2 : a = b
      · subst h2
        simp
      · rw [decide_eq_false h2, decide_eq_false (fun z => h2 (List.cons.inj z).2)]
        simp
    · have : (x == y) = false := by simpa using h
      rw [this, decide_eq_false (fun z => h (List.cons.inj z).1)]
      rfl
theorem eqv_ints (a b : List Int) : PyData.eqv (dInts a) (dInts b) = decide (a = b) := by
  unfold dInts
  rw [PyData.eqv]
  exact eqvAll_ints a b
theorem cut_at (xs : List V) (k : Nat) : cutV xs (some (k : Int)) (some ((k : Int) + 1)) = (xs.drop k).take 1 := by
  unfold cutV
  rw [HT.sIx_nat, show (k : Int) + 1 = ((k + 1 : Nat) : Int) by omega, HT.sIx_nat]
  by_cases h : k < xs.length
  · rw [Nat.min_eq_left (by omega), Nat.min_eq_left (by omega), Nat.add_sub_cancel_left]
  · have h1 : min k xs.length = xs.length := by omega
    have h2 : min (k + 1) xs.length = xs.length := by omega
    rw [h1, h2, Nat.sub_self, List.take_zero, List.drop_of_length_le (show xs.length ≤ k by omega)]
    rfl
theorem drop_take1 (L : List Int) (k : Nat) : (L.drop k).take 1 = L[k]?.toList := by
  by_cases h : k < L.length
  · rw [List.getElem?_eq_getElem h, List.drop_eq_getElem_cons h]
    rfl
  · rw [List.getElem?_eq_none (by omega), List.drop_of_length_le (by omega)]
    rfl
end El
namespace El
open PySem PySem.Spec PyProof.Rows L2
section
variable {X : Cx}
/-- the walk over a list -/
theorem gathers_list {pins : List (Addr × Obj)} {σ : L2.St} {H : Hp} {s : Shared} {a : Addr} {xs : List V} (I : Inv X pins σ H s) (h : SqL X.K H a xs) : xs.length ≤ sizeLine ∧ Gathers X s (.ref a) xs := by
  have ⟨us, r, ⟨o, n, at_a, is_list, _, data⟩, few⟩ := I.list h
  refine ⟨few, fun R go => wpAny_collect_seq a (.inl rfl) at_a is_list data (fun h' grown => ?_) ?_⟩
  · rw [List.toList_toArray]
    exact go us h' s.toks r grown
  · rw [List.size_toArray]
    exact r.length ▸ few
/-- a value that is an object's name, seen as ours -/
def asOurs : Value → V
  | .ref a => .ref a
  | _ => .non
/-- sorted(xs, reverse=b) of a list of pairs of ints -/
def rSortedPK (K : PySem.W.Frag) (b : Bool) : List V → List V → Hp → VK → Prop := fun vs zs H Q => ∃ (a : Addr) (xs : List V) (k : V → Int × Int), vs = [V.ref a] ∧ zs = [.bl b] ∧ SqL K H a xs ∧ (∀ x ∈ xs, ∃ t, x = V.ref t ∧ H t = some (.tup [.int (k x).1, .int (k x).2])) ∧
  ∀ ys p, SrtO.Srtd (ltP k) ys → ys.Perm xs → H p = none → Q (.ref p) (upd H p (.lst (if b = true then ys.reverse else ys)))
theorem cr_sortedPK {b : Bool} (_ : X.calm = true) : CallRK X (.builtin "sorted") [Str.ofString "reverse"] (rSortedPK X.K b) := by
  rintro pins s σ H _ _ us ws Q I one by_kw ⟨a, xs, k, rfl, rfl, here, pairs, q⟩
  obtain ⟨v, w, rfl, rfl, rfl, rfl⟩ : ∃ v w, us = [v] ∧ ws = [w] ∧ v = .ref a ∧ w = .bool b := by
    cases one with | cons e1 t1 => cases t1; cases by_kw with | cons e2 t2 => cases t2; exact ⟨_, _, rfl, rfl, e1, e2⟩
  have ⟨few, walk⟩ := gathers_list I here
  have known : ∀ {x : V} {u : Value}, x ∈ xs → RelV x u → asOurs u = x := fun {x u} m e => by
    have ⟨t, ex, _⟩ := pairs x m
    subst ex
    exact congrArg asOurs e
  refine sorted_gathered I few walk (SrtO.swo_lex fun u => k (asOurs u)) (fun us s' l two r J free => ?_) fun P l hP perm up free => ?_
  · refine SrtO.pairs_sortableO (k := fun u => k (asOurs u)) (Nat.lt_of_lt_of_le Nat.two_pos two) (fun u m => ?_) fun o at_l => ?_
    · obtain ⟨P, hP, rfl, rfl⟩ := partners_of r
      have ⟨⟨x, u⟩, mp, eu⟩ := List.mem_map.mp m
      subst eu
      have mx := List.mem_map_of_mem (f := Prod.fst) mp
      have ⟨t, ex, ht⟩ := pairs x mx
      have apart : t ≠ l := fun e => by rw [e, free] at ht; cases ht
      have ⟨_, vs, rv, o, at_t, is_tup, n, data⟩ := J.hok t _ ((upd_ne apart).trans ht)
      rw [known mx (hP _ mp)]
      cases rv with | cons e1 rv => cases rv with | cons e2 rv => cases rv; exact e1.elim fun t1 e1 => e2.elim fun t2 e2 => ⟨t, o, t1, t2, n, by have := hP _ mp; rw [show (x, u).1 = V.ref t from ex] at this; exact this, at_t, is_tup, by rw [data, e1, e2]⟩
    · have ⟨_, vs, e, _, there⟩ := J.hok l _ upd_same
      rw [there] at at_l
      cases at_l
      have differ : Value.type "list" ≠ Value.type "tuple" := by decide
      exact differ
  · have sorts : SrtO.Srtd (ltP k) (P.map Prod.fst) := by
      rw [SrtO.Srtd, List.pairwise_map] at up ⊢
      refine up.imp_of_mem fun {p p'} m m' h => ?_
      have on := fun {p : V × Value} (m : p ∈ P) => known (perm.mem_iff.mp (List.mem_map_of_mem (f := Prod.fst) m)) (hP p m)
      rw [on m, on m'] at h
      exact h
    exact q _ l sorts perm free
/-- sorted by age and patience, turned round: from the eldest on -/
theorem sorted_down {k : V → Int × Int} {ys xs : List V} {gs : List (Int × Int)} (f : Fit gs) (hx : xs.map k = gs) (hs : SrtO.Srtd (ltP k) ys) (hb : ys.Perm xs) : ys.reverse.map k = byAge gs := by
  refine byAge_of f ?_ ?_
  · rw [← hx]
    exact ((List.reverse_perm ys).trans hb).map k
  · rw [List.map_reverse, List.pairwise_reverse, List.pairwise_map]
    refine hs.imp fun {a b} h => ?_
    have h' : SrtO.lexB (k b) (k a) = false := h
    rw [SrtO.lexB_no] at h'
    omega
end
end El
namespace El
open PySem PySem.Spec PyProof.Rows L2
def topS (i : Nat) : Stmt := PySem.Challenge.pw_elderinn_k31_one_more_told.main.body.getD i (.Pass ⟨0, 0, 0, 0⟩)
end El
namespace El
open PySem PySem.Spec PyProof.Rows L2
section
variable {P : Program} {w : World} {K : PySem.W.Frag} {mg : Str → Option Value} {base : Heap}
abbrev s_patience_by_age : Stmt := topS 4
abbrev N_patience_by_age : List Str := ["guests", "patience_of", "number", "age", "patience"]
abbrev P_patience_by_age : List Str := ["guests"]
theorem sc_patience_by_age : FnScope N_patience_by_age P_patience_by_age (defScope s_patience_by_age) := ⟨rfl, rfl, rfl, by decide +kernel, rfl, by decide +kernel, by decide +kernel⟩
def sp_patience_by_age : Sp := fun vs H Q _ => ∃ (B : Addr → Prop) (a : Addr) (ts : List Addr) (gs : List (Int × Int)), vs = [.ref a] ∧ GsAt H B a ts gs ∧ Fit gs ∧ gs.length ≤ 1000 ∧
  ∀ H' d, Same H H' → H d = none → H' d = some (.dK (pks gs)) → Q (.ref d) H'
theorem ok_patience_by_age (A : At K mg "patience_by_age" P_patience_by_age s_patience_by_age) (B : Bi mg) : Df P w K mg base 1 "patience_by_age" P_patience_by_age s_patience_by_age sp_patience_by_age := by
  refine A.df fun f fd F => F.ok sc_patience_by_age (fun vs H Q E h => ?_) (fun cdv AA outer s H vs Q E hr h => ?_)
  · obtain ⟨_, a, _, _, rfl, _⟩ := h
    rfl
  · obtain ⟨BB, a, ts, gs, rfl, hG, hF, hl, q⟩ := h
    have nd := sc_patience_by_age.nd
    refine ⟨_, (pss_cons (ps_set (i := 1) nd rfl (.inl rfl) pe_dnewK)
    (pss_cons (ps_for PassesOwn.never rfl (pi_enum (by rfl) B.enumerate (pa_cons (pv 0) pa_nil)) (pg_tup (by rfl) (pgs_cons (pg_name (i := 2) nd rfl (.inl rfl)) (pgs_cons (pg_tup (by rfl) (pgs_cons (pg_name (i := 3) nd rfl (.inl rfl)) (pgs_cons (pg_name (i := 4) nd rfl (.inl rfl)) pgs_nil))) pgs_nil))) (pss_cons (ps_if (PW.pt (pw_or (pt_cmpR op_lt (pv 4) pe_int (nomark _)) (pw_or1 (pt_cmp (pc_din (hu_of hr) (pv 3) (pv 1)))))) (pss_one ps_never) pss_nil) (pss_one (ps_dput (hu_of hr) (pv 1) (pv 3) (pv 4) rfl))))
    (pss_one (ps_ret (pv 1))))), ?_⟩
    -- patience_of = {}
    refine fun d nd => ?_
    have hG1 := hG.same (same_new (o := .dK []) nd)
    -- the loop
    refine ⟨.ref a, rfl, a, ts.map V.ref, rfl, hG1.seq, ?_⟩
    refine for_it (walk_enum (xs := ts.map V.ref)) (fun i σ H2 => ∃ y2 y3 y4, σ = [some (.ref a), some (.ref d), y2, y3, y4] ∧ Same H H2 ∧ H2 d = some (.dK (pks (gs.take i)))) ⟨none, none, none, rfl, same_new nd, upd_same⟩ (fun i σ H2 _ hW => ?_) (fun i x σ H2 H3 hi hW hY => ?_) (fun σ H2 hW => ?_)
    · obtain ⟨_, _, _, _, sm, _⟩ := hW
      exact (hG.same sm).seq
    · obtain ⟨y2, y3, y4, rfl, sm, hd⟩ := hW
      obtain ⟨T, x1, x2, rfl, nT, rfl, f1, f2⟩ := hY
      obtain rfl : V.int ↑i = x1 := Option.some.inj f1
      obtain ⟨t, g, rfl, eg, et⟩ := (hG.same sm).get f2
      have s3 : Same H2 (upd H2 T (.tup [.int i, .ref t])) := same_new nT
      refine ⟨T, [.int i, .ref t], rfl, SqT.of upd_same, rfl, .int i, [.ref t], rfl, .ref t, [], rfl, ?_⟩
      refine ⟨t, _, rfl, SqT.of (s3 _ _ et), rfl, .int g.1, [.int g.2], rfl, .int g.2, [], rfl, rfl, rfl, ?_⟩
      -- the test
      have hg : 0 ≤ g.2 := hF.pos g (List.mem_of_getElem? eg)
      have no := hF.take_no eg
      refine ⟨.int g.2, rfl, _, _, rfl, rfl, _, rfl, ?_⟩
      rw [decide_eq_false (by omega)]
      refine iteF ?_
      refine ⟨.int g.1, rfl, .ref d, rfl, d, _, rfl, DGet.k (k := Sum.inl g.1) (s3 _ _ hd), _, rfl, ?_⟩
      rw [pks_none no]
      refine iteF ?_
      refine ⟨.int g.2, rfl, .ref d, rfl, .int g.1, rfl, d, _, rfl, DPut.k (k := Sum.inl g.1) (s3 _ _ hd) (ils (by rw [pks_len, List.length_take]; omega)), ?_⟩
      refine ⟨some (.int i), some (.int g.1), some (.int g.2), rfl, Same.mut (Same.trans sm s3) nd, ?_⟩
      rw [upd_same, putK_snoc no, take_snoc eg]
    · obtain ⟨y2, y3, y4, rfl, sm, hd⟩ := hW
      rw [show (ts.map V.ref).length = gs.length by rw [List.length_map, hG.len], take_full] at hd
      exact ⟨.ref d, rfl, q H2 d sm nd hd⟩
end
end El
namespace El
open PySem PySem.Spec PyProof.Rows L2
section
variable {P : Program} {w : World} {K : PySem.W.Frag} {mg : Str → Option Value} {base : Heap}
abbrev s_first_borne : Stmt := topS 8
abbrev N_first_borne : List Str := ["filled", "patience", "number", "room"]
abbrev P_first_borne : List Str := ["filled", "patience"]
theorem sc_first_borne : FnScope N_first_borne P_first_borne (defScope s_first_borne) := ⟨rfl, rfl, rfl, by decide +kernel, rfl, by decide +kernel, by decide +kernel⟩
def sp_first_borne : Sp := fun vs H Q _ => ∃ (B : Addr → Prop) (o : Addr) (ts : List Addr) (rs : List (List Int)) (p : Int), vs = [.ref o, .int p] ∧ RmsAt H B o ts rs ∧ rs.length ≤ 1000 ∧
  ∀ H', Same H H' → Q (.int (firstB rs p)) H'
theorem ok_first_borne (A : At K mg "first_borne" P_first_borne s_first_borne) (B : Bi mg) : Df P w K mg base 1 "first_borne" P_first_borne s_first_borne sp_first_borne := by
  refine A.df fun f fd F => F.ok sc_first_borne (fun vs H Q E h => ?_) (fun cdv AA outer s H vs Q E hr h => ?_)
  · obtain ⟨_, _, _, _, _, rfl, _⟩ := h
    rfl
  · obtain ⟨BB, o, ts, rs, p, rfl, hR, hl, q⟩ := h
    have nd := sc_first_borne.nd
    refine ⟨_, (pss_cons (ps_for PassesOwn.never rfl (pi_enum (by rfl) B.enumerate (pa_cons (pv 0) pa_nil)) (pg_tup (by rfl) (pgs_cons (pg_name (i := 2) nd rfl (.inl rfl)) (pgs_cons (pg_name (i := 3) nd rfl (.inl rfl)) pgs_nil))) (pss_one (ps_if (pt_cmpR op_le (pe_callB call_len_seq (by rfl) B.len PySem.boot_len (pa_cons (pv 3) pa_nil)) (pv 1) (nomark _)) (pss_one (ps_ret (pv 2))) pss_nil)))
    (pss_one (ps_ret (pe_callB call_len_seq (by rfl) B.len PySem.boot_len (pa_cons (pv 0) pa_nil))))), ?_⟩
    refine ⟨.ref o, rfl, o, ts.map V.ref, rfl, hR.seq, ?_⟩
    refine for_it (walk_enum (xs := ts.map V.ref)) (fun i σ H2 => ∃ y2 y3, σ = [some (.ref o), some (.int p), y2, y3] ∧ Same H H2 ∧ ∀ j r, j < i → rs[j]? = some r → p < (r.length : Int)) ⟨none, none, rfl, Same.refl _, fun j r h => absurd h (Nat.not_lt_zero _)⟩ (fun i σ H2 _ hW => ?_) (fun i x σ H2 H3 hi hW hY => ?_) (fun σ H2 hW => ?_)
    · obtain ⟨_, _, _, sm, _⟩ := hW
      exact (hR.same sm).seq
    · obtain ⟨y2, y3, rfl, sm, hp⟩ := hW
      obtain ⟨T, x1, x2, rfl, nT, rfl, f1, f2⟩ := hY
      obtain rfl : V.int ↑i = x1 := Option.some.inj f1
      obtain ⟨t, r, rfl, _, er, et⟩ := (hR.same sm).get f2
      have s3 : Same H2 (upd H2 T (.tup [.int i, .ref t])) := same_new nT
      refine ⟨T, [.int i, .ref t], rfl, SqT.of upd_same, rfl, .int i, [.ref t], rfl, .ref t, [], rfl, rfl, ?_⟩
      refine ⟨.ref t, rfl, t, _, rfl, .inl (SqL.of (s3 _ _ et)), .int p, rfl, _, _, rfl, rfl, _, rfl, ite2 (fun e => ?_) (fun e => ?_)⟩
      · have e := of_decide_eq_true e
        rw [List.length_map] at e
        have hb : firstB rs p = i := firstB_is rs p i (Nat.le_of_lt (at_lt er)) hp fun r' e' => by
          obtain rfl : r = r' := Option.some.inj (er.symm.trans e')
          exact e
        refine ⟨.int i, rfl, ?_⟩
        have q' := q (upd H2 T (.tup [.int i, .ref t])) (sm.trans s3)
        rw [hb] at q'
        exact q'
      · have e : ¬ (((r.map V.int).length : Int) ≤ p) := fun z => e (decide_eq_true z)
        rw [List.length_map] at e
        refine ⟨some (.int i), some (.ref t), rfl, sm.trans s3, fun j r' hj e' => ?_⟩
        by_cases hji : j < i
        · exact hp j r' hji e'
        · have : j = i := by omega
          subst this
          obtain rfl : r = r' := Option.some.inj (er.symm.trans e')
          omega
    · obtain ⟨y2, y3, rfl, sm, hp⟩ := hW
      have hn : (ts.map V.ref).length = rs.length := by rw [List.length_map, hR.len]
      rw [hn] at hp
      have hb : firstB rs p = rs.length := firstB_is rs p _ (Nat.le_refl _) hp fun r' e' => absurd (at_lt e') (Nat.lt_irrefl _)
      refine ⟨.ref o, rfl, o, _, rfl, .inl (hR.same sm).seq, ?_⟩
      have q' := q H2 sm
      rw [hb, ← hn] at q'
      exact q'
end
end El
namespace El
open PySem PySem.Spec PyProof.Rows L2
section
variable {P : Program} {w : World} {K : PySem.W.Frag} {mg : Str → Option Value} {base : Heap}
abbrev s_rooms : Stmt := topS 7
abbrev N_rooms : List Str := ["guests", "patience_of", "told", "age", "number"]
abbrev P_rooms : List Str := ["guests"]
theorem sc_rooms : FnScope N_rooms P_rooms (defScope s_rooms) := ⟨rfl, rfl, rfl, by decide +kernel, rfl, by decide +kernel, by decide +kernel⟩
def sp_rooms : Sp := fun vs H Q _ => ∃ (B : Addr → Prop) (a : Addr) (ts : List Addr) (gs : List (Int × Int)), vs = [.ref a] ∧ GsAt H B a ts gs ∧ Fit gs ∧ gs.length ≤ 1000 ∧
  ∀ H' o us, Same H H' → RmsAt H' (fun b => H b = none) o us (settle gs) → Q (.ref o) H'
theorem ok_rooms (A : At K mg "rooms" P_rooms s_rooms) (B : Bi mg) (D_patience_by_age : Df P w K mg base 1 "patience_by_age" P_patience_by_age s_patience_by_age sp_patience_by_age)
    (D_first_borne : Df P w K mg base 1 "first_borne" P_first_borne s_first_borne sp_first_borne) : Df P w K mg base 2 "rooms" P_rooms s_rooms sp_rooms := by
  refine A.df fun f fd F => F.ok sc_rooms (fun vs H Q E h => ?_) (fun cdv AA outer s H vs Q E hr h => ?_)
  · obtain ⟨_, a, _, _, rfl, _⟩ := h
    rfl
  · obtain ⟨BB, a, ts, gs, rfl, hG, hF, hl, q⟩ := h
    have nd := sc_rooms.nd
    refine ⟨_, (pss_cons (ps_set (i := 1) nd rfl (.inl rfl) (pe_df D_patience_by_age (hr.mono (by decide)) (by rfl) (pa_cons (pv 0) pa_nil)))
    (pss_cons (ps_set (i := 2) nd rfl (.inl rfl) (pe_lst pa_nil))
    (pss_cons (ps_for PassesOwn.never rfl (pi_list (pe_callBK (cr_sortedRevD (b := true) rfl) (by rfl) B.sorted (by decide +kernel) (pa_cons (pv 1) pa_nil) (pk_cons pe_bl pk_nil))) (pg_name (i := 3) nd rfl (.inl rfl)) (pss_cons (ps_set (i := 4) nd rfl (.inl rfl) (pe_df D_first_borne (hr.mono (by decide)) (by rfl) (pa_cons (pv 2) (pa_cons (pe_dget (hu_of hr) (pv 1) (pv 3) (fun _ _ => rfl)) pa_nil)))) (pss_cons (ps_if (pt_cmpR op_eq (pv 4) (pe_callB call_len_seq (by rfl) B.len PySem.boot_len (pa_cons (pv 2) pa_nil)) (nomark _)) (pss_one (ps_expr (pe_bm PySem.F.plainAttrs_list PySem.F.slot_list_append PySem.F.type_list_append mt_append (pv 2) (pa_cons (pe_lst pa_nil) pa_nil)))) pss_nil) (pss_one (ps_expr (pe_bm PySem.F.plainAttrs_list PySem.F.slot_list_append PySem.F.type_list_append mt_append (pe_ix ix_list (pv 2) (pv 4) (fun _ _ => rfl)) (pa_cons (pv 3) pa_nil)))))))
    (pss_one (ps_ret (pv 2)))))), ?_⟩
    -- patience_of = patience_by_age(guests)
    refine ⟨.ref a, rfl, BB, a, ts, gs, rfl, hG, hF, hl, fun H1 d s1 n1 e1 => ?_⟩
    -- told = []
    refine ⟨Nat.zero_le _, fun o no => ?_⟩
    have s2 : Same H1 (upd H1 o (.lst [])) := same_new no
    -- sorted(patience_of, reverse=True)
    refine ⟨.ref d, rfl, d, pks gs, gs.map (·.1), rfl, rfl, .inl (s2 _ _ e1), pks_keys gs, fun ns p hp ho np => ?_⟩
    have hns : ns = (byAge gs).map (·.1) := ages_of hF hp ho
    subst hns
    have s3 : Same (upd H1 o (.lst [])) (upd (upd H1 o (.lst [])) p (.lst (((byAge gs).map (·.1)).map V.int))) := same_new np
    have sH : Same H (upd (upd H1 o (.lst [])) p (.lst (((byAge gs).map (·.1)).map V.int))) := s1.trans (s2.trans s3)
    refine ⟨p, rfl, ⟨_, SqL.of upd_same⟩, ?_⟩
    have hpo : o ≠ p := (no_of upd_same np).symm
    have eo : upd (upd H1 o (.lst [])) p (.lst (((byAge gs).map (·.1)).map V.int)) o = some (.lst []) := by
      rw [upd_ne hpo, upd_same]
    have ep : upd (upd H1 o (.lst [])) p (.lst (((byAge gs).map (·.1)).map V.int)) p = some (.lst (((byAge gs).map (·.1)).map V.int)) := upd_same
    have ed := s3 _ _ (s2 _ _ e1)
    have hdo : d ≠ o := ne_of_none e1 no
    have no' : H o = none := s1.free no
    revert eo ep ed sH
    generalize upd (upd H1 o (.lst [])) p (.lst (((byAge gs).map (·.1)).map V.int)) = Hs
    intro sH eo ep ed
    refine for_it (walk_list (xs := ((byAge gs).map (·.1)).map V.int)) (fun i σ H2 => ∃ us y3 y4, σ = [some (.ref a), some (.ref d), some (.ref o), y3, y4] ∧ Kp (fun b => b ≠ o) Hs H2 ∧ RmsAt H2 (fun b => b = o ∨ Hs b = none) o us (settleL ((byAge gs).take i)))
      ⟨[], none, none, rfl, Kp.refl, RmsAt.nil eo (.inl rfl)⟩ (fun i σ H2 _ hW => ?_) (fun i x σ H2 H3 hi hW hY => ?_) (fun σ H2 hW => ?_)
    · obtain ⟨_, _, _, _, kp, _⟩ := hW
      exact SqL.of (kp _ _ hpo.symm ep)
    · obtain ⟨us, y3, y4, rfl, kp, hR⟩ := hW
      obtain ⟨rfl, hx⟩ := hY
      obtain ⟨n, hx', rfl⟩ := ints_at hx
      have hi' : i < (byAge gs).length := by
        have := at_lt hx'
        rw [List.length_map] at this
        exact this
      obtain ⟨g, eg⟩ := at_some hi'
      rw [List.getElem?_map, eg] at hx'
      obtain rfl : g.1 = n := Option.some.inj hx'
      have hm : g ∈ gs := (byAge_perm gs).mem_iff.mp (List.mem_of_getElem? eg)
      have hlt : (settleL ((byAge gs).take i)).length ≤ 1000 := by
        refine Nat.le_trans (settleL_len _) ?_
        rw [List.length_take, byAge_length]
        omega
      have hE := settleL_take eg
      have hrm : ∀ r ∈ settleL ((byAge gs).take i), r.length ≤ 1000 := fun r hr => by
        refine Nat.le_trans (settleL_room hr) ?_
        rw [List.length_take, byAge_length]
        omega
      revert hlt hE hR hrm
      generalize settleL ((byAge gs).take i) = rs
      intro hR hlt hE hrm
      -- number = first_borne(told, patience_of[age])
      refine ⟨.ref o, rfl, .ref d, rfl, .int g.1, rfl, d, .int g.2, rfl, dget_pks (kp _ _ hdo ed) hF hm, _, o, us, _, g.2, rfl, hR, hlt, fun H4 s4 => ?_⟩
      have hR4 := hR.same s4
      have k4 : Kp (fun b => b ≠ o) Hs H4 := kp.trans (.of s4)
      have fin : ∀ {H5 : Hp} {us' : List Addr} {rs' : List (List Int)} {t : Addr} {r : List Int}, Kp (fun b => b ≠ o) Hs H5 → RmsAt H5 (fun b => b = o ∨ Hs b = none) o us' rs' → us'[firstB rs g.2]? = some t → place rs g.1 g.2 = rs'.set (firstB rs g.2) (r ++ [g.1]) →
          ∃ us y3 y4, [some (V.ref a), some (.ref d), some (.ref o), some (.int g.1), some (.int (firstB rs g.2))] = [some (V.ref a), some (.ref d), some (.ref o), y3, y4] ∧ Kp (fun b => b ≠ o) Hs (upd H5 t (.lst (r.map V.int ++ [.int g.1]))) ∧ RmsAt (upd H5 t (.lst (r.map V.int ++ [.int g.1]))) (fun b => b = o ∨ Hs b = none) o us (settleL ((byAge gs).take (i + 1))) := by
        intro H5 us' rs' t r k5 hR5 et ep
        refine ⟨us', _, _, rfl, ?_, ?_⟩
        · rcases hR5.b t (List.mem_of_getElem? et) with z | z
          · exact absurd (z ▸ List.mem_of_getElem? et) hR5.no
          · exact k5.mutF z
        · have z := hR5.set et (r ++ [g.1])
          rw [List.map_append] at z
          rw [hE, ep]
          exact z
      -- if number == len(told)
      refine ⟨_, rfl, .ref o, rfl, o, _, rfl, .inl hR4.seq, rfl, _, rfl, ite2 (fun e => ?_) (fun e => ?_)⟩
      · have e := V.int.inj (of_decide_eq_true e)
        rw [List.length_map, hR.len] at e
        have e : firstB rs g.2 = rs.length := by omega
        refine ⟨.ref o, rfl, .inl ⟨rfl, _, hR4.seq⟩, Nat.zero_le _, fun u nu => ?_⟩
        have nuo : o ≠ u := ne_of_none hR4.top nu
        refine ⟨o, _, _, rfl, rfl, (by rw [upd_ne nuo]; exact hR4.top), ils (by rw [List.length_map, hR.len]; omega), ?_⟩
        have hns : Hs u = none := k4.none nuo.symm nu
        have hR5 := hR4.push (r := []) nu (.inr hns)
        have k5 : Kp (fun b => b ≠ o) Hs (upd (upd H4 u (.lst [])) o (.lst (us.map V.ref ++ [.ref u]))) := Kp.mut (Kp.new k4 nu) (fun z => z rfl)
        have et : (us ++ [u])[firstB rs g.2]? = some u := by
          rw [e, ← hR.len, List.getElem?_append_right (Nat.le_refl _), Nat.sub_self]
          rfl
        have er : (rs ++ [[]])[firstB rs g.2]? = some [] := by
          rw [e, List.getElem?_append_right (Nat.le_refl _), Nat.sub_self]
          rfl
        have eu := hR5.at' _ _ _ et er
        refine ⟨.ref o, rfl, _, rfl, o, _, _, .ref u, rfl, rfl, SqL.of (by rw [upd_same]), atI_nat (j := firstB rs g.2) ?_, .inl ⟨rfl, _, SqL.of eu⟩, .int g.1, rfl, u, _, _, rfl, rfl, eu, ils (Nat.zero_le _), ?_⟩
        · have z := congrArg (Option.map V.ref) et
          rw [← List.getElem?_map, List.map_append] at z
          exact z
        · refine fin (r := []) k5 hR5 et ?_
          rw [place_new _ _ _ e, e, List.set_append_right _ _ (Nat.le_refl _), Nat.sub_self]
          rfl
      · have e : ¬ firstB rs g.2 = rs.length := fun z => e (decide_eq_true (by rw [List.length_map, hR.len, z]))
        have hle := firstB_le rs g.2
        obtain ⟨r, er, _⟩ := firstB_in rs g.2 (by omega)
        obtain ⟨t, et, eu⟩ := hR4.of er
        refine ⟨.ref o, rfl, _, rfl, o, _, _, .ref t, rfl, rfl, hR4.seq, atI_nat (j := firstB rs g.2) ?_, .inl ⟨rfl, _, SqL.of eu⟩, .int g.1, rfl, t, _, _, rfl, rfl, eu, ils (by rw [List.length_map]; have := hrm r (List.mem_of_getElem? er); omega), ?_⟩
        · rw [List.getElem?_map, et]
          rfl
        · exact fin k4 hR4 et (place_at _ _ _ _ er)
    · obtain ⟨us, y3, y4, rfl, kp, hR⟩ := hW
      rw [List.length_map, List.length_map, take_full] at hR
      refine ⟨.ref o, rfl, q H2 o us ?_ (hR.newTop (fun _ _ _ e => e) fun b hb => ?_)⟩
      · intro b x hb
        exact kp _ _ (ne_of_none hb no') (sH _ _ hb)
      · rcases hb with rfl | hb
        · exact no'
        · rcases hR.b b hb with rfl | z
          · exact no'
          · exact sH.free z
end
end El
namespace El
open PySem PySem.Spec PyProof.Rows L2
section
variable {P : Program} {w : World} {K : PySem.W.Frag} {mg : Str → Option Value} {base : Heap}
abbrev s_sizes : Stmt := topS 9
abbrev N_sizes : List Str := ["guests", "room"]
abbrev P_sizes : List Str := ["guests"]
theorem sc_sizes : FnScope N_sizes P_sizes (defScope s_sizes) := ⟨rfl, rfl, rfl, by decide +kernel, rfl, by decide +kernel, by decide +kernel⟩
def sp_sizes : Sp := fun vs H Q _ => ∃ (B : Addr → Prop) (a : Addr) (ts : List Addr) (gs : List (Int × Int)), vs = [.ref a] ∧ GsAt H B a ts gs ∧ Fit gs ∧ gs.length ≤ 1000 ∧
  ∀ H' o, Same H H' → H o = none → H' o = some (.lst ((lens (settle gs)).map V.int)) → Q (.ref o) H'
theorem ok_sizes (A : At K mg "sizes" P_sizes s_sizes) (B : Bi mg) (D_rooms : Df P w K mg base 2 "rooms" P_rooms s_rooms sp_rooms) : Df P w K mg base 3 "sizes" P_sizes s_sizes sp_sizes := by
  refine A.df fun f fd F => F.ok sc_sizes (fun vs H Q E h => ?_) (fun cdv AA outer s H vs Q E hr h => ?_)
  · obtain ⟨_, a, _, _, rfl, _⟩ := h
    rfl
  · obtain ⟨BB, a, ts, gs, rfl, hG, hF, hl, q⟩ := h
    have nd := sc_sizes.nd
    refine ⟨_, (pss_one (ps_ret (pe_lc (own := [("room", 1)]) (tt := tYes) rfl nd (pi_list (pe_df D_rooms (hr.mono (by decide)) (by rfl) (pa_cons (pv 0) pa_nil))) (blkOk_by (N := N_sizes) (sc := defScope s_sizes) (by decide +kernel)) (fun _ _ _ _ _ => (pg_name (i := 1) nd rfl (.inl rfl))) (fun _ _ _ _ _ => pts_nil) (fun _ _ _ _ _ => (pe_callB (lenK K) (by rfl) B.len PySem.boot_len (pa_cons (pv 1) pa_nil)))))), ?_⟩
    refine ⟨.ref a, rfl, BB, a, ts, gs, rfl, hG, hF, hl, fun H1 o us s1 hR => ?_⟩
    refine ⟨o, rfl, ⟨_, hR.seq⟩, fun D nD => ?_⟩
    have hlen : (settle gs).length ≤ 1000 := Nat.le_trans (settleL_len _) (by rw [byAge_length]; exact hl)
    refine lc_it (walk_list (xs := us.map V.ref)) (fun i H2 => Same H1 H2 ∧ H2 D = some (.lst ((lens ((settle gs).take i)).map V.int))) ⟨same_new nD, upd_same⟩ (fun i H2 _ hW => ?_) (fun i x H2 H3 hi hW hY => ?_) (fun H2 hW => ?_)
    · exact (hR.same hW.1).seq
    · obtain ⟨sm, hD⟩ := hW
      obtain ⟨rfl, hx⟩ := hY
      obtain ⟨t, r, rfl, _, er, et⟩ := (hR.same sm).get hx
      refine ⟨rfl, .ref t, rfl, t, _, rfl, .inl (SqL.of et), _, hD, ils (by rw [List.length_map, lens_length, List.length_take]; omega), Same.mut sm nD, ?_⟩
      rw [upd_same, take_snoc er]
      show _ = some (HO.lst (((((settle gs).take i) ++ [r]).map fun r => (r.length : Int)).map V.int))
      rw [List.map_append, List.map_append]
      show some (HO.lst (_ ++ [V.int ((List.map V.int r).length : Int)])) = _
      rw [List.length_map]
      rfl
    · obtain ⟨sm, hD⟩ := hW
      rw [List.length_map, hR.len, take_full] at hD
      exact q H2 D (s1.trans sm) (s1.free nD) hD
end
end El
namespace El
open PySem PySem.Spec PyProof.Rows L2
section
variable {P : Program} {w : World} {K : PySem.W.Frag} {mg : Str → Option Value} {base : Heap}
abbrev s_check_newcomer : Stmt := topS 5
abbrev N_check_newcomer : List Str := ["patience_of", "age", "patience"]
abbrev P_check_newcomer : List Str := ["patience_of", "age", "patience"]
theorem sc_check_newcomer : FnScope N_check_newcomer P_check_newcomer (defScope s_check_newcomer) := ⟨rfl, rfl, rfl, by decide +kernel, rfl, by decide +kernel, by decide +kernel⟩
def sp_check_newcomer : Sp := fun vs H Q _ => ∃ (d : Addr) (gs : List (Int × Int)) (a p : Int), vs = [.ref d, .int a, .int p] ∧ H d = some (.dK (pks gs)) ∧ a ∉ gs.map (·.1) ∧ 0 ≤ p ∧ Q .non H
theorem ok_check_newcomer (A : At K mg "check_newcomer" P_check_newcomer s_check_newcomer) : Df P w K mg base 1 "check_newcomer" P_check_newcomer s_check_newcomer sp_check_newcomer := by
  refine A.df fun f fd F => F.ok sc_check_newcomer (fun vs H Q E h => ?_) (fun cdv AA outer s H vs Q E hr h => ?_)
  · obtain ⟨_, _, _, _, rfl, _⟩ := h
    rfl
  · obtain ⟨d, gs, a, p, rfl, hd, ha, hp, q⟩ := h
    have nd := sc_check_newcomer.nd
    refine ⟨_, (pss_one (ps_if (PW.pt (pw_or (pt_cmpR op_lt (pv 2) pe_int (nomark _)) (pw_or1 (pt_cmp (pc_din (hu_of hr) (pv 1) (pv 0)))))) (pss_one ps_never) pss_nil)), ?_⟩
    refine ⟨.int p, rfl, _, _, rfl, rfl, _, rfl, ?_⟩
    rw [decide_eq_false (by omega)]
    refine iteF ?_
    refine ⟨.int a, rfl, .ref d, rfl, d, _, rfl, DGet.k (k := Sum.inl a) hd, _, rfl, ?_⟩
    rw [pks_none ha]
    exact iteF q
end
end El
namespace El
open PySem PySem.Spec PyProof.Rows L2
section
variable {P : Program} {w : World} {K : PySem.W.Frag} {mg : Str → Option Value} {base : Heap}
abbrev s_one_more : Stmt := topS 11
abbrev N_one_more : List Str := ["guests", "age", "patience", "before", "after", "number", "size"]
abbrev P_one_more : List Str := ["guests", "age", "patience"]
theorem sc_one_more : FnScope N_one_more P_one_more (defScope s_one_more) := ⟨rfl, rfl, rfl, by decide +kernel, rfl, by decide +kernel, by decide +kernel⟩
def sp_one_more : Sp := fun vs H Q _ => ∃ (B : Addr → Prop) (a : Addr) (ts : List Addr) (gs : List (Int × Int)) (x : Int × Int) (d : Nat), vs = [.ref a, .int x.1, .int x.2] ∧ GsAt H B a ts gs ∧ Fit (x :: gs) ∧ gs.length ≤ 900 ∧
  d ≤ (settle gs).length ∧ lens (settle (x :: gs)) = bump (lens (settle gs)) d ∧ ∀ H', Same H H' → Q (.int (d : Int)) H'
theorem ok_one_more (A : At K mg "one_more" P_one_more s_one_more) (B : Bi mg) (D_patience_by_age : Df P w K mg base 1 "patience_by_age" P_patience_by_age s_patience_by_age sp_patience_by_age)
    (D_check_newcomer : Df P w K mg base 1 "check_newcomer" P_check_newcomer s_check_newcomer sp_check_newcomer) (D_sizes : Df P w K mg base 3 "sizes" P_sizes s_sizes sp_sizes) : Df P w K mg base 4 "one_more" P_one_more s_one_more sp_one_more := by
  refine A.df fun f fd F => F.ok sc_one_more (fun vs H Q E h => ?_) (fun cdv AA outer s H vs Q E hr h => ?_)
  · obtain ⟨_, _, _, _, _, _, rfl, _⟩ := h
    rfl
  · obtain ⟨BB, a, ts, gs, x, d, rfl, hG, hF, hl, hd, hL, q⟩ := h
    have nd := sc_one_more.nd
    have hFg : Fit gs := ⟨(List.nodup_cons.mp hF.nd).2, fun g hg => hF.pos g (List.mem_cons_of_mem _ hg)⟩
    refine ⟨_, (pss_cons (ps_expr (pe_df D_check_newcomer (hr.mono (by decide)) (by rfl) (pa_cons (pe_df D_patience_by_age (hr.mono (by decide)) (by rfl) (pa_cons (pv 0) pa_nil)) (pa_cons (pv 1) (pa_cons (pv 2) pa_nil)))))
    (pss_cons (ps_set (i := 3) nd rfl (.inl rfl) (pe_df D_sizes (hr.mono (by decide)) (by rfl) (pa_cons (pv 0) pa_nil)))
    (pss_cons (ps_set (i := 4) nd rfl (.inl rfl) (pe_df D_sizes (hr.mono (by decide)) (by rfl) (pa_cons (pe_lst (StX.pa_star (pv 0) (pa_cons (pe_tup (pa_cons (pv 1) (pa_cons (pv 2) pa_nil))) pa_nil))) pa_nil)))
    (pss_cons (ps_for PassesOwn.never rfl (pi_enum (by rfl) B.enumerate (pa_cons (pv 3) pa_nil)) (pg_tup (by rfl) (pgs_cons (pg_name (i := 5) nd rfl (.inl rfl)) (pgs_cons (pg_name (i := 6) nd rfl (.inl rfl)) pgs_nil))) (pss_one (ps_if (pt_cmpR op_gt (pe_ix ix_list (pv 4) (pv 5) (fun _ _ => rfl)) (pv 6) (nomark _)) (pss_one (ps_ret (pv 5))) pss_nil)))
    (pss_one (ps_ret (pe_callB call_len_seq (by rfl) B.len PySem.boot_len (pa_cons (pv 3) pa_nil)))))))), ?_⟩
    refine ⟨.ref a, rfl, BB, a, ts, gs, rfl, hG, hFg, by omega, fun H1 pd s1 n1 e1 => ?_⟩
    refine ⟨.int x.1, rfl, .int x.2, rfl, pd, gs, x.1, x.2, rfl, e1, (List.nodup_cons.mp hF.nd).1, hF.pos x List.mem_cons_self, ?_⟩
    -- before
    refine ⟨.ref a, rfl, BB, a, ts, gs, rfl, hG.same s1, hFg, by omega, fun H2 bo s2 nbo ebo => ?_⟩
    have hG2 := (hG.same s1).same s2
    -- after
    refine ⟨.ref a, rfl, a, _, rfl, .inr hG2.seq, .int x.1, rfl, .int x.2, rfl, (by show 2 ≤ sizeLine; decide), fun u nu => ?_⟩
    refine ⟨ile (by rw [List.length_append, List.length_map, hG.len]; show gs.length + 1 ≤ 100000; omega), fun l nl => ?_⟩
    have s3 : Same H2 (upd (upd H2 u (.tup [.int x.1, .int x.2])) l (.lst (ts.map V.ref ++ [.ref u]))) := Same.trans (same_new nu) (same_new nl)
    have eu : upd (upd H2 u (.tup [.int x.1, .int x.2])) l (.lst (ts.map V.ref ++ [.ref u])) u = some (.tup [.int x.1, .int x.2]) := (same_new nl) _ _ upd_same
    have hC := (hG2.same s3).cat (g := x) eu upd_same
    have pm : (gs ++ [x]).Perm (x :: gs) := List.perm_append_comm
    refine ⟨_, l, _, _, rfl, hC, hF.perm pm, by rw [List.length_append]; show gs.length + 1 ≤ 1000; omega, fun H4 ao s4 nao eao => ?_⟩
    rw [settle_congr hF pm, hL] at eao
    have hLl : (lens (settle gs)).length = (settle gs).length := lens_length _
    have ebo4 := s4 _ _ (s3 _ _ ebo)
    have s04 : Same H H4 := Same.trans s1 (Same.trans s2 (Same.trans s3 s4))
    have hbl : (settle gs).length ≤ 1000 := Nat.le_trans (settleL_len _) (by rw [byAge_length]; omega)
    revert hLl eao ebo4 hd
    generalize lens (settle gs) = L
    intro hd eao hLl ebo4
    refine ⟨.ref bo, rfl, bo, _, rfl, SqL.of ebo4, ?_⟩
    refine for_it (walk_enum (xs := L.map V.int)) (fun i σ H5 => ∃ y5 y6, σ = [some (.ref a), some (.int x.1), some (.int x.2), some (.ref bo), some (.ref ao), y5, y6] ∧ Same H4 H5 ∧ i ≤ d) ⟨none, none, rfl, Same.refl _, Nat.zero_le _⟩ (fun i σ H5 _ hW => ?_) (fun i z σ H5 H6 hi hW hY => ?_) (fun σ H5 hW => ?_)
    · obtain ⟨_, _, _, sm, _⟩ := hW
      exact SqL.of (sm _ _ ebo4)
    · obtain ⟨y5, y6, rfl, sm, hid⟩ := hW
      obtain ⟨T, x1, x2, rfl, nT, rfl, f1, f2⟩ := hY
      obtain rfl : V.int ↑i = x1 := Option.some.inj f1
      obtain ⟨n, en, rfl⟩ := ints_at f2
      have s7 : Same H5 (upd H5 T (.tup [.int i, .int n])) := same_new nT
      have hib : i < (bump L d).length := by
        rw [bump_length]
        have := at_lt en
        split <;> omega
      have eb := bump_at L (d := d) (k := i) (by omega) hib
      have eg : L.getD i 0 = n := by rw [List.getD_eq_getElem?_getD, en]; rfl
      rw [eg] at eb
      refine ⟨T, _, rfl, SqT.of upd_same, rfl, .int i, _, rfl, .int n, _, rfl, rfl, ?_⟩
      refine ⟨.ref ao, rfl, _, rfl, ao, _, _, .int (n + if i = d then 1 else 0), rfl, rfl, SqL.of (s7 _ _ (sm _ _ eao)), atI_nat (j := i) (by rw [List.getElem?_map, eb]; rfl), .int n, rfl, _, _, rfl, rfl, _, rfl, ite2 (fun e => ?_) (fun e => ?_)⟩
      · have e : n < n + (if i = d then 1 else 0) := of_decide_eq_true e
        have hid' : i = d := by
          by_cases z : i = d
          · exact z
          · rw [if_neg z] at e
            omega
        subst hid'
        exact ⟨_, rfl, q _ (Same.trans s04 (Same.trans sm s7))⟩
      · have e : ¬ n < n + (if i = d then 1 else 0) := fun z => e (decide_eq_true z)
        have hid' : i ≠ d := fun z => e (by rw [if_pos z]; omega)
        exact ⟨_, _, rfl, Same.trans sm s7, by omega⟩
    · obtain ⟨y5, y6, rfl, sm, hid⟩ := hW
      rw [List.length_map] at hid
      have hdl : d = L.length := by omega
      refine ⟨.ref bo, rfl, bo, _, rfl, .inl (SqL.of (sm _ _ ebo4)), ?_⟩
      rw [List.length_map, ← hdl]
      exact q _ (Same.trans s04 sm)
end
end El
namespace El
open PySem PySem.Spec PyProof.Rows L2
/-! ### the bag of draws -/
def bagL (g : Addr) (l t f : Int) : List (L2.Key × V) := [(Sum.inr "great", .ref g), (Sum.inr "left", .int l), (Sum.inr "turn", .int t), (Sum.inr "fold", .int f)]
theorem bag_great {H : Hp} {b g : Addr} {l t f : Int} (h : H b = some (.dK (bagL g l t f))) : DGet H b (.str "great") (some (.ref g)) := DGet.k (k := Sum.inr "great") h
theorem bag_left {H : Hp} {b g : Addr} {l t f : Int} (h : H b = some (.dK (bagL g l t f))) : DGet H b (.str "left") (some (.int l)) := DGet.k (k := Sum.inr "left") h
theorem bag_turn {H : Hp} {b g : Addr} {l t f : Int} (h : H b = some (.dK (bagL g l t f))) : DGet H b (.str "turn") (some (.int t)) := DGet.k (k := Sum.inr "turn") h
theorem bag_fold {H : Hp} {b g : Addr} {l t f : Int} (h : H b = some (.dK (bagL g l t f))) : DGet H b (.str "fold") (some (.int f)) := DGet.k (k := Sum.inr "fold") h
theorem bag_putLeft {H : Hp} {b g : Addr} {l t f z : Int} (h : H b = some (.dK (bagL g l t f))) : DPut H b (.str "left") (.int z) (upd H b (.dK (bagL g z t f))) := DPut.k (k := Sum.inr "left") (v := .int z) h (by show 4 < sizeLine; decide)
theorem bag_putTurn {H : Hp} {b g : Addr} {l t f z : Int} (h : H b = some (.dK (bagL g l t f))) : DPut H b (.str "turn") (.int z) (upd H b (.dK (bagL g l z f))) := DPut.k (k := Sum.inr "turn") (v := .int z) h (by show 4 < sizeLine; decide)
def Off (t g : Addr) (b : Addr) : Prop := b ≠ t ∧ b ≠ g
theorem Kp.off {H H' : Hp} {t g p : Addr} {o : HO} (e : Kp (Off t g) H H') (h : p = t ∨ p = g) : Kp (Off t g) H (upd H' p o) := e.mut fun z => by
  rcases h with rfl | rfl
  · exact z.1 rfl
  · exact z.2 rfl
structure Bag (H : Hp) (b g : Addr) (n : Nat) : Prop where
  ne : b ≠ g
  ex : ∃ (gs : List Int) (l t f : Int), H b = some (.dK (bagL g l t f)) ∧ H g = some (.lst (gs.map V.int)) ∧ (∀ x ∈ gs, 0 ≤ x) ∧ gs.length ≤ 63 ∧ 0 ≤ l ∧ 0 ≤ t ∧ t ≤ n ∧ 0 ≤ f ∧ f < 2305843009213693951
theorem Bag.keep {H H' : Hp} {b g : Addr} {n : Nat} (h : Bag H b g n) (k : Same H H') : Bag H' b g n := by
  obtain ⟨gs, l, t, f, h1, h2, h3⟩ := h.ex
  exact ⟨h.ne, gs, l, t, f, k _ _ h1, k _ _ h2, h3⟩
theorem Bag.more {H : Hp} {b g : Addr} {n m : Nat} (h : Bag H b g n) (k : n ≤ m) : Bag H b g m := by
  obtain ⟨gs, l, t, f, h1, h2, h3, h4, h5, h6, h7, h8⟩ := h.ex
  exact ⟨h.ne, gs, l, t, f, h1, h2, h3, h4, h5, h6, by omega, h8⟩
theorem Bag.off {H : Hp} {b g : Addr} {n : Nat} (h : Bag H b g n) {p : Addr} (e : H p = none) : Off b g p := by
  obtain ⟨gs, l, t, f, h1, h2, _⟩ := h.ex
  exact ⟨no_of h1 e, no_of h2 e⟩
theorem Bag.mut {H : Hp} {b g : Addr} {n : Nat} (h : Bag H b g n) {p : Addr} {o : HO} (k : Off b g p) : Bag (upd H p o) b g n := by
  obtain ⟨gs, l, t, f, h1, h2, h3⟩ := h.ex
  exact ⟨h.ne, gs, l, t, f, by rw [upd_ne k.1.symm]; exact h1, by rw [upd_ne k.2.symm]; exact h2, h3⟩
end El
namespace El
open PySem PySem.Spec PyProof.Rows L2
section
variable {P : Program} {w : World} {K : PySem.W.Frag} {mg : Str → Option Value} {base : Heap}
abbrev s__law_bag : Stmt := topS 13
abbrev N__law_bag : List Str := ["script", "fold", "great", "cell"]
abbrev P__law_bag : List Str := ["script"]
theorem sc__law_bag : FnScope N__law_bag P__law_bag (defScope s__law_bag) := ⟨rfl, rfl, rfl, by decide +kernel, rfl, by decide +kernel, by decide +kernel⟩
def sp__law_bag (K : PySem.W.Frag) : Sp := fun vs H Q _ => ∃ (a : Addr) (ns : List Int), vs = [.ref a] ∧ SqL K H a (ns.map V.int) ∧ ns.length ≤ 63 ∧
  ∀ H' b g, Same H H' → H b = none → H g = none → Bag H' b g 0 → Q (.ref b) H'
theorem ok__law_bag (A : At K mg "_law_bag" P__law_bag s__law_bag) (B : Bi mg) : Df P w K mg base 1 "_law_bag" P__law_bag s__law_bag (sp__law_bag K) := by
  refine A.df fun f fd F => F.ok sc__law_bag (fun vs H Q E h => ?_) (fun cdv AA outer s H vs Q E hr h => ?_)
  · obtain ⟨a, _, rfl, _⟩ := h
    rfl
  · obtain ⟨a, ns, rfl, hS, hl, q⟩ := h
    have nd := sc__law_bag.nd
    refine ⟨_, (pss_cons (ps_par (i := 1) (j := 2) (by rfl) nd rfl rfl (by decide) rfl rfl (pa_cons pe_int (pa_cons (pe_lst pa_nil) pa_nil)) (by rfl))
    (pss_cons (ps_for PassesOwn.never rfl (pi_list (pv 0)) (pg_name (i := 3) nd rfl (.inl rfl)) (pss_cons (ps_set (i := 1) nd rfl (.inl rfl) (pe_op op_mod (pe_op op_add (pe_op op_mul (pv 1) pe_int) (pv 3)) pe_int)) (pss_one (ps_if (pt_cmpR op_ge (pe_callB call_abs (by rfl) B.abs (by decide +kernel) (pa_cons (pv 3) pa_nil)) (pe_op op_pow pe_int pe_int) (nomark _)) (pss_one (ps_expr (pe_bm PySem.F.plainAttrs_list PySem.F.slot_list_append PySem.F.type_list_append mt_append (pv 2) (pa_cons (pe_callB call_abs (by rfl) B.abs (by decide +kernel) (pa_cons (pv 3) pa_nil)) pa_nil)))) pss_nil))))
    (pss_one (ps_ret (pe_disp (pps_cons pe_str (pv 2) (pps_cons pe_str pe_int (pps_cons pe_str pe_int (pps_cons pe_str (pv 1) pps_nil)))) (by rfl) (by rfl) (fun z => by cases z) (by decide)))))), ?_⟩
    refine ⟨Nat.zero_le _, fun g ng => ⟨_, _, rfl, ?_⟩⟩
    refine ⟨.ref a, rfl, a, rfl, ⟨_, (same_new ng).seq hS⟩, ?_⟩
    refine for_it (walk_list (xs := ns.map V.int)) (fun i σ H2 => ∃ (c : Int) (gs : List Int) (y3 : Option V), σ = [some (.ref a), some (.int c), some (.ref g), y3] ∧ Same H H2 ∧ H2 g = some (.lst (gs.map V.int)) ∧ (∀ x ∈ gs, 0 ≤ x) ∧ gs.length ≤ i ∧ 0 ≤ c ∧ c < 2305843009213693951)
      ⟨11, [], none, rfl, same_new ng, upd_same, fun x h => absurd h (by simp), Nat.le_refl _, by decide, by decide⟩ (fun i σ H2 _ hW => ?_) (fun i x σ H2 H3 hi hW hY => ?_) (fun σ H2 hW => ?_)
    · obtain ⟨_, _, _, _, sm, _⟩ := hW
      exact sm.seq hS
    · obtain ⟨c, gs, y3, rfl, sm, eg, hp, hgl, c0, c1⟩ := hW
      obtain ⟨rfl, hx⟩ := hY
      obtain ⟨n, hx', rfl⟩ := ints_at hx
      have hil : i < 63 := by
        rw [List.length_map] at hi
        omega
      refine ⟨.int c, rfl, _, _, rfl, rfl, .inl ⟨by omega, by omega⟩, .int n, rfl, _, _, rfl, rfl, _, _, rfl, rfl, (by show (0 : Int) < 2305843009213693951; decide), ?_⟩
      have f0 : 0 ≤ (c * 1000003 + n) % 2305843009213693951 := Int.emod_nonneg _ (by decide)
      have f1 : (c * 1000003 + n) % 2305843009213693951 < 2305843009213693951 := Int.emod_lt_of_pos _ (by decide)
      refine ⟨.int n, rfl, _, rfl, _, _, rfl, rfl, ⟨by decide, by decide, by decide⟩, _, _, rfl, rfl, _, rfl, ite2 (fun e => ?_) (fun e => ?_)⟩
      · have m0 : 0 ≤ (if n < 0 then -n else n) := by split <;> omega
        refine ⟨.ref g, rfl, .inl ⟨rfl, _, SqL.of eg⟩, .int n, rfl, _, rfl, g, _, _, rfl, rfl, eg, ils (by rw [List.length_map]; omega), ?_⟩
        refine ⟨_, gs ++ [if n < 0 then -n else n], _, rfl, Same.mut sm ng, by rw [upd_same, List.map_append]; rfl, fun x hx => ?_, by rw [List.length_append, List.length_singleton]; omega, f0, f1⟩
        rcases List.mem_append.mp hx with hx | hx
        · exact hp x hx
        · rw [List.mem_singleton.mp hx]
          exact m0
      · exact ⟨_, gs, _, rfl, sm, eg, hp, Nat.le_succ_of_le hgl, f0, f1⟩
    · obtain ⟨c, gs, y3, rfl, sm, eg, hp, hgl, c0, c1⟩ := hW
      rw [List.length_map] at hgl
      refine fun b nb => ⟨.ref g, rfl, .int c, rfl, upd_same, [(Sum.inr "great", .ref g), (Sum.inr "left", .int 0), (Sum.inr "turn", .int 0), (Sum.inr "fold", .int c)], rfl, (by show 4 ≤ 15; decide), ?_⟩
      have nbg : g ≠ b := ne_of_none eg nb
      rw [upd_upd]
      exact q _ b g (sm.trans (same_new nb)) (sm.free nb) ng ⟨nbg.symm, gs, 0, 0, c, upd_same, by rw [upd_ne nbg]; exact eg, hp, by omega, by decide, by decide, by decide, c0, c1⟩
end
end El
namespace El
open PySem PySem.Spec PyProof.Rows L2
section
variable {P : Program} {w : World} {K : PySem.W.Frag} {mg : Str → Option Value} {base : Heap}
abbrev s__law_draw : Stmt := topS 14
abbrev N__law_draw : List Str := ["bag", "many", "drawn", "turn", "mixed"]
abbrev P__law_draw : List Str := ["bag", "many"]
theorem sc__law_draw : FnScope N__law_draw P__law_draw (defScope s__law_draw) := ⟨rfl, rfl, rfl, by decide +kernel, rfl, by decide +kernel, by decide +kernel⟩
def sp__law_draw : Sp := fun vs H Q _ => ∃ (b g : Addr) (n : Nat) (m : Int), vs = [.ref b, .int m] ∧ Bag H b g n ∧ n ≤ 1000000000 ∧ 0 < m ∧ m < 2 ^ 200 ∧
  ∀ H' r, Kp (Off b g) H H' → Bag H' b g (n + 1) → 0 ≤ r → r < m → Q (.int r) H'
theorem ok__law_draw (A : At K mg "_law_draw" P__law_draw s__law_draw) (B : Bi mg) : Df P w K mg base 1 "_law_draw" P__law_draw s__law_draw sp__law_draw := by
  refine A.df fun f fd F => F.ok sc__law_draw (fun vs H Q E h => ?_) (fun cdv AA outer s H vs Q E hr h => ?_)
  · obtain ⟨_, _, _, _, rfl, _⟩ := h
    rfl
  · obtain ⟨b, g, n, m, rfl, hT, hn, m0, m1, q⟩ := h
    have nd := sc__law_draw.nd
    refine ⟨_, (pss_cons (ps_if (PW.pt (pw_and (pt_cmpR op_lt (pe_dget (hu_of hr) (pv 0) pe_str (fun _ _ => rfl)) (pv 1) (nomark _)) (pw_and1 (pt_cmpR op_gt (pe_callB call_len_seq (by rfl) B.len PySem.boot_len (pa_cons (pe_dget (hu_of hr) (pv 0) pe_str (fun _ _ => rfl)) pa_nil)) pe_int (nomark _))))) (pss_one (ps_dput (hu_of hr) (pv 0) pe_str (pe_bm PySem.F.plainAttrs_list PySem.F.slot_list_pop PySem.F.type_list_pop mt_popAt (pe_dget (hu_of hr) (pv 0) pe_str (fun _ _ => rfl)) (pa_cons pe_int pa_nil)) rfl)) pss_nil)
    (pss_cons (ps_if (pt_cmpR op_ge (pe_dget (hu_of hr) (pv 0) pe_str (fun _ _ => rfl)) (pv 1) (nomark _)) (pss_cons (ps_set (i := 2) nd rfl (.inl rfl) (pe_op op_mod (pe_dget (hu_of hr) (pv 0) pe_str (fun _ _ => rfl)) (pv 1))) (pss_cons (ps_dput (hu_of hr) (pv 0) pe_str (pe_op op_fdivW (pe_dget (hu_of hr) (pv 0) pe_str (fun _ _ => rfl)) (pv 1)) rfl) (pss_one (ps_ret (pv 2))))) pss_nil)
    (pss_cons (ps_daug (hu_of hr) (pv 0) pe_str pe_int in_add (fun _ _ _ => rfl))
    (pss_cons (ps_set (i := 3) nd rfl (.inl rfl) (pe_dget (hu_of hr) (pv 0) pe_str (fun _ _ => rfl)))
    (pss_cons (ps_set (i := 4) nd rfl (.inl rfl) (pe_op op_add (pe_op op_mul (pe_op op_add (pe_dget (hu_of hr) (pv 0) pe_str (fun _ _ => rfl)) (pe_op op_mul pe_int (pv 3))) (pe_op op_pow (pe_op op_add (pv 3) pe_int) pe_int)) (pe_op op_mul pe_int (pv 3))))
    (pss_one (ps_ret (pe_op op_mod (pe_op op_fdivW (pe_op op_mod (pe_op op_pow (pe_op op_mod (pv 4) pe_int) pe_int) (pe_op op_add (pe_op op_pow pe_int pe_int) pe_int)) pe_int) (pv 1))))))))), ?_⟩
    have ne := hT.ne
    refine seq_to (fun σ H2 => σ = [some (.ref b), some (.int m), none, none, none] ∧ Kp (Off b g) H H2 ∧ Bag H2 b g n) (fun X hX => ?_) (fun σ H2 hE => ?_)
    · obtain ⟨gs, l, t, f, j1, j2, j3, j4, j5, j6, j7, j8, j9⟩ := hT.ex
      refine ⟨.ref b, rfl, b, _, rfl, bag_left j1, .int m, rfl, _, _, rfl, rfl, _, rfl, ite2 (fun ea => ?_) (fun ea => ?_)⟩
      · refine ⟨.ref b, rfl, b, _, rfl, bag_great j1, g, _, rfl, .inl (SqL.of j2), _, _, rfl, rfl, _, rfl, ite2 (fun eb => ?_) (fun eb => ?_)⟩
        · have eb : (0 : Int) < ((gs.map V.int).length : Int) := of_decide_eq_true eb
          rw [List.length_map] at eb
          cases gs with
          | nil => exact absurd eb (by decide)
          | cons x r =>
            refine ⟨.ref b, rfl, b, _, rfl, bag_great j1, .inl ⟨rfl, _, SqL.of j2⟩, g, _, 0, 0, .int x, rfl, rfl, j2, by decide, by decide, seq_ix (j := 0) (by simp), rfl, ?_⟩
            refine ⟨.ref b, rfl, b, _, rfl, bag_putLeft (by rw [upd_ne ne]; exact j1), ?_⟩
            exact hX _ _ ⟨rfl, Kp.off (Kp.off Kp.refl (.inr rfl)) (.inl rfl), ne, r, x, t, f, upd_same, by rw [upd_ne ne.symm, upd_same]; rfl, fun y hy => j3 y (List.mem_cons_of_mem _ hy), Nat.le_of_succ_le j4, j3 x List.mem_cons_self, j6, j7, j8, j9⟩
        · exact hX _ _ ⟨rfl, Kp.refl, hT⟩
      · exact iteF (hX _ _ ⟨rfl, Kp.refl, hT⟩)
    · obtain ⟨rfl, kp, hT2⟩ := hE
      obtain ⟨gs, l, t, f, j1, j2, j3, j4, j5, j6, j7, j8, j9⟩ := hT2.ex
      have g1 : CDivW l m := ⟨m0, Nat.lt_trans (log_lt m0 m1) (by decide)⟩
      refine ⟨.ref b, rfl, b, _, rfl, bag_left j1, .int m, rfl, _, _, rfl, rfl, _, rfl, ite2 (fun ea => ?_) (fun ea => ?_)⟩
      · refine ⟨.ref b, rfl, b, _, rfl, bag_left j1, .int m, rfl, _, _, rfl, rfl, m0, ?_⟩
        refine ⟨.ref b, rfl, b, _, rfl, bag_left j1, .int m, rfl, _, _, rfl, rfl, g1, .ref b, rfl, b, _, rfl, bag_putLeft j1, _, rfl, ?_⟩
        exact q _ _ (Kp.off kp (.inl rfl)) ⟨ne, gs, l / m, t, f, upd_same, by rw [upd_ne ne.symm]; exact j2, j3, j4, Int.ediv_nonneg j5 (by omega), j6, by omega, j8, j9⟩ (Int.emod_nonneg _ (by omega)) (Int.emod_lt_of_pos _ m0)
      · refine ⟨.ref b, rfl, b, _, rfl, bag_turn j1, _, _, rfl, rfl, _, bag_putTurn j1, ?_⟩
        have e1 : upd H2 b (.dK (bagL g l (t + 1) f)) b = some (.dK (bagL g l (t + 1) f)) := upd_same
        have hT3 : Bag (upd H2 b (.dK (bagL g l (t + 1) f))) b g (n + 1) := ⟨ne, gs, l, t + 1, f, e1, by rw [upd_ne ne.symm]; exact j2, j3, j4, j5, by omega, by omega, j8, j9⟩
        have k3 : Kp (Off b g) H (upd H2 b (.dK (bagL g l (t + 1) f))) := Kp.off kp (.inl rfl)
        revert e1 hT3 k3
        generalize upd H2 b (.dK (bagL g l (t + 1) f)) = H3
        intro e1 hT3 k3
        refine ⟨.ref b, rfl, b, _, rfl, bag_turn e1, ?_⟩
        refine ⟨.ref b, rfl, b, _, rfl, bag_fold e1, .int (t + 1), rfl, _, _, rfl, rfl, .inl ⟨by decide, by decide⟩, _, _, rfl, rfl, .int (t + 1), rfl, _, _, rfl, rfl, _, _, rfl, rfl, ⟨by decide, by decide, ?_⟩, _, _, rfl, rfl, .inl ⟨by omega, by omega⟩, .int (t + 1), rfl, _, _, rfl, rfl, .inl ⟨by decide, by decide⟩, _, _, rfl, rfl, ?_⟩
        · show (t + 1 + 29).natAbs < 2 ^ 64
          omega
        · refine ⟨_, rfl, _, _, rfl, rfl, (by show (0 : Int) < 2305843009213693951; decide), _, _, rfl, rfl, ⟨by decide, by decide, ?_⟩, _, _, rfl, rfl, ⟨by decide, by decide, by decide⟩, _, _, rfl, rfl, _, _, rfl, rfl, (by show (0 : Int) < 10 ^ 18 + 9; decide), _, _, rfl, rfl, ⟨by decide, by decide⟩, .int m, rfl, _, _, rfl, rfl, m0, ?_⟩
          · have f0 := Int.emod_nonneg ((f + 17 * (t + 1)) * (t + 1 + 29) ^ (2 : Int).toNat + 7919 * (t + 1)) (show (2305843009213693951 : Int) ≠ 0 by decide)
            have f1 := Int.emod_lt_of_pos ((f + 17 * (t + 1)) * (t + 1 + 29) ^ (2 : Int).toNat + 7919 * (t + 1)) (show (0 : Int) < 2305843009213693951 by decide)
            show (((f + 17 * (t + 1)) * (t + 1 + 29) ^ (2 : Int).toNat + 7919 * (t + 1)) % 2305843009213693951).natAbs < 2 ^ 64
            omega
          · exact q _ _ k3 hT3 (Int.emod_nonneg _ (by omega)) (Int.emod_lt_of_pos _ m0)
end
end El
namespace El
open PySem PySem.Spec PyProof.Rows L2
section
variable {P : Program} {w : World} {K : PySem.W.Frag} {mg : Str → Option Value} {base : Heap}
abbrev s__law_guests : Stmt := topS 15
abbrev N__law_guests : List Str := ["bag", "most", "many", "far", "years", "found", "k", "bears"]
abbrev P__law_guests : List Str := ["bag", "most"]
theorem sc__law_guests : FnScope N__law_guests P__law_guests (defScope s__law_guests) := ⟨rfl, rfl, rfl, by decide +kernel, rfl, by decide +kernel, by decide +kernel⟩
def sp__law_guests : Sp := fun vs H Q _ => ∃ (b g : Addr) (n most : Nat), vs = [.ref b, .int (most : Int)] ∧ Bag H b g n ∧ most ≤ 60 ∧ n ≤ 800000000 ∧
  ∀ H' o ts gs, Kp (Off b g) H H' → Bag H' b g (n + 500) → GsAt H' (fun b => H b = none) o ts gs → o ∉ ts → Fit gs → gs.length ≤ most → Q (.ref o) H'
theorem ok__law_guests (A : At K mg "_law_guests" P__law_guests s__law_guests) (B : Bi mg) (D__law_draw : Df P w K mg base 1 "_law_draw" P__law_draw s__law_draw sp__law_draw) : Df P w K mg base 2 "_law_guests" P__law_guests s__law_guests sp__law_guests := by
  refine A.df fun f fd F => F.ok sc__law_guests (fun vs H Q E h => ?_) (fun cdv AA outer s H vs Q E hr h => ?_)
  · obtain ⟨_, _, _, _, rfl, _⟩ := h
    rfl
  · obtain ⟨t, g, n, most, rfl, hT, hm, hn, q⟩ := h
    have nd := sc__law_guests.nd
    refine ⟨_, (pss_cons (ps_par (i := 2) (j := 3) (by rfl) nd rfl rfl (by decide) rfl rfl (pa_cons (pe_df D__law_draw (hr.mono (by decide)) (by rfl) (pa_cons (pv 0) (pa_cons (pe_op op_add (pv 1) pe_int) pa_nil))) (pa_cons (pe_ix ix_tup (pe_tup (pa_cons pe_int (pa_cons (pe_op op_pow pe_int pe_int) pa_nil))) (pe_op op_fdivW (pe_df D__law_draw (hr.mono (by decide)) (by rfl) (pa_cons (pv 0) (pa_cons pe_int pa_nil))) pe_int) (fun _ _ => rfl)) pa_nil)) (by rfl))
    (pss_cons (ps_par (i := 4) (j := 5) (by rfl) nd rfl rfl (by decide) rfl rfl (pa_cons (pe_op op_sub (pe_df D__law_draw (hr.mono (by decide)) (by rfl) (pa_cons (pv 0) (pa_cons pe_int pa_nil))) pe_int) (pa_cons (pe_lst pa_nil) pa_nil)) (by rfl))
    (pss_cons (ps_for PassesOwn.never rfl (pi_range1 (by rfl) B.range (pa_cons (pv 2) pa_nil)) (pg_name (i := 6) nd rfl (.inl rfl)) (pss_cons (ps_set (i := 4) nd rfl (.inl rfl) (pe_op op_add (pe_op op_add (pv 4) pe_int) (pe_op op_fdivW (pe_df D__law_draw (hr.mono (by decide)) (by rfl) (pa_cons (pv 0) (pa_cons (pv 3) pa_nil))) (pe_op op_add (pv 1) pe_int)))) (pss_cons (ps_set (i := 7) nd rfl (.inl rfl) (pe_ix ix_tup (pe_tup (pa_cons pe_int (pa_cons (pe_df D__law_draw (hr.mono (by decide)) (by rfl) (pa_cons (pv 0) (pa_cons pe_int pa_nil))) (pa_cons (pe_df D__law_draw (hr.mono (by decide)) (by rfl) (pa_cons (pv 0) (pa_cons pe_int pa_nil))) (pa_cons (pe_ix ix_tup (pe_tup (pa_cons (pv 2) (pa_cons (pe_op op_pow pe_int pe_int) pa_nil))) (pe_df D__law_draw (hr.mono (by decide)) (by rfl) (pa_cons (pv 0) (pa_cons pe_int pa_nil))) (fun _ _ => rfl)) pa_nil))))) (pe_df D__law_draw (hr.mono (by decide)) (by rfl) (pa_cons (pv 0) (pa_cons pe_int pa_nil))) (fun _ _ => rfl))) (pss_one (ps_expr (pe_bm PySem.F.plainAttrs_list PySem.F.slot_list_insert PySem.F.type_list_insert mt_insert (pv 5) (pa_cons (pe_df D__law_draw (hr.mono (by decide)) (by rfl) (pa_cons (pv 0) (pa_cons (pe_op op_add (pe_callB call_len_seq (by rfl) B.len PySem.boot_len (pa_cons (pv 5) pa_nil)) pe_int) pa_nil))) (pa_cons (pe_tup (pa_cons (pv 4) (pa_cons (pv 7) pa_nil))) pa_nil))))))))
    (pss_one (ps_ret (pv 5)))))), ?_⟩
    -- many, far
    refine ⟨.ref t, rfl, _, rfl, _, _, rfl, rfl, t, g, n, _, rfl, hT, by omega, by omega, ?_, fun H1 r1 k1 T1 a1 b1 => ?_⟩
    · exact Int.lt_of_le_of_lt (show (most : Int) + 1 ≤ 61 by omega) (by decide)
    obtain ⟨many, rfl⟩ : ∃ k : Nat, r1 = k := ⟨r1.toNat, by omega⟩
    have hmany : many ≤ most := by omega
    refine ⟨_, _, rfl, rfl, ⟨by decide, by decide, by decide⟩, (by show 2 ≤ sizeLine; decide), fun p np => ?_⟩
    have op : Off t g p := T1.off np
    refine ⟨.ref t, rfl, t, g, n + 1, 4, rfl, T1.mut op, by omega, by decide, by decide, fun H2 r2 k2 T2 a2 b2 => ?_⟩
    refine ⟨_, _, rfl, rfl, ⟨by decide, by decide⟩, ?_⟩
    have d0 : 0 ≤ r2 / 3 := Int.ediv_nonneg a2 (by decide)
    have d1 : r2 / 3 < 2 := by omega
    obtain ⟨v, hv, mv⟩ := at_pick (xs := [V.int 3, .int (10 ^ Int.toNat 29)]) d0 d1
    refine ⟨p, _, _, v, rfl, rfl, SqT.of (k2 _ _ op upd_same), hv, ?_⟩
    obtain ⟨far, rfl, f0, f1⟩ : ∃ i : Int, v = .int i ∧ 0 < i ∧ i < 2 ^ 200 := by
      rcases List.mem_cons.mp mv with rfl | mv
      · exact ⟨_, rfl, by decide, by decide⟩
      · exact ⟨_, List.mem_singleton.mp mv, by decide, by decide⟩
    refine ⟨_, _, rfl, ?_⟩
    have kA : Kp (Off t g) H H2 := k1.trans ((Kp.of (same_new np)).trans k2)
    -- years, found
    refine ⟨.ref t, rfl, t, g, n + 2, 9, rfl, T2, by omega, by decide, by decide, fun H3 r3 k3 T3 a3 b3 => ?_⟩
    refine ⟨_, _, rfl, rfl, Nat.zero_le _, fun o no => ⟨_, _, rfl, ?_⟩⟩
    have oo : Off t g o := T3.off no
    have kB : Kp (Off t g) H H3 := kA.trans k3
    have no0 : H o = none := kB.none oo no
    have offD : ∀ z, H z = none → Off t g z := fun z hz => hT.off hz
    -- the loop
    refine ⟨_, rfl, _, rfl, by omega, by omega, ?_⟩
    refine for_it (walk_range (n := ((many : Int)).toNat)) (fun i σ H5 => ∃ (h : Int) (ts : List Addr) (gs : List (Int × Int)) (y6 y7 : Option V), σ = [some (.ref t), some (.int (most : Int)), some (.int (many : Int)), some (.int far), some (.int h), some (.ref o), y6, y7] ∧ Kp (Off t g) H H5 ∧ Bag H5 t g (n + 3 + 6 * i) ∧ GsAt H5 (fun b => H b = none) o ts gs ∧ o ∉ ts ∧ gs.length = i ∧ Fit gs ∧ ∀ x ∈ gs, x.1 ≤ h)
      ⟨r3 - 4, [], [], none, none, rfl, kB.new no, T3.mut oo, ⟨upd_same, no0, rfl, fun i t g e _ => by simp at e, fun t m => by simp at m⟩, by simp, rfl, ⟨List.nodup_nil, fun g m => by simp at m⟩, fun x m => by simp at m⟩ (fun _ _ _ _ _ => trivial) (fun i x σ H5 H6 hi hW hY => ?_) (fun σ H5 hW => ?_)
    · obtain ⟨h, ts, gs, y6, y7, rfl, kp, T5, hG, hno, hgl, hF, hx⟩ := hW
      obtain ⟨rfl, rfl⟩ := hY
      have hi60 : i < 60 := by omega
      have gm : CDivW 0 ((most : Int) + 1) := ⟨by omega, Nat.lt_trans (log_lt (k := 200) (by omega) (Int.lt_of_le_of_lt (show (most : Int) + 1 ≤ 61 by omega) (by decide))) (by decide)⟩
      -- years
      refine ⟨.int h, rfl, _, _, rfl, rfl, .ref t, rfl, .int far, rfl, t, g, _, far, rfl, T5, by omega, f0, f1, fun H7 s1 k7 T7 a7 b7 => ?_⟩
      refine ⟨_, rfl, _, _, rfl, rfl, _, _, rfl, rfl, gm, _, _, rfl, rfl, ?_⟩
      have dy : 0 ≤ s1 / ((most : Int) + 1) := Int.ediv_nonneg a7 (by omega)
      -- bears
      refine ⟨.ref t, rfl, t, g, _, 3, rfl, T7, by omega, by decide, by decide, fun H8 s2 k8 T8 a8 b8 => ?_⟩
      refine ⟨.ref t, rfl, t, g, _, 6, rfl, T8, by omega, by decide, by decide, fun H9 s3 k9 T9 a9 b9 => ?_⟩
      refine ⟨_, rfl, _, _, rfl, rfl, ⟨by decide, by decide, by decide⟩, (by show 2 ≤ sizeLine; decide), fun u nu => ?_⟩
      have ou : Off t g u := T9.off nu
      refine ⟨.ref t, rfl, t, g, _, 2, rfl, T9.mut ou, by omega, by decide, by decide, fun H10 s4 k10 T10 a10 b10 => ?_⟩
      obtain ⟨v4, hv4, mv4⟩ := at_pick (xs := [V.int (many : Int), .int (10 ^ Int.toNat 29)]) a10 b10
      refine ⟨u, _, _, v4, rfl, rfl, SqT.of (k10 _ _ ou upd_same), hv4, ?_⟩
      obtain ⟨w4, rfl, w0⟩ : ∃ i : Int, v4 = .int i ∧ 0 ≤ i := by
        rcases List.mem_cons.mp mv4 with rfl | mv4
        · exact ⟨_, rfl, by omega⟩
        · exact ⟨_, List.mem_singleton.mp mv4, by decide⟩
      refine ⟨(by show 4 ≤ sizeLine; decide), fun u2 nu2 => ?_⟩
      have ou2 : Off t g u2 := T10.off nu2
      refine ⟨.ref t, rfl, t, g, _, 4, rfl, T10.mut ou2, by omega, by decide, by decide, fun H11 s5 k11 T11 a11 b11 => ?_⟩
      obtain ⟨v5, hv5, mv5⟩ := at_pick (xs := [V.int 0, .int s2, .int s3, .int w4]) a11 b11
      refine ⟨u2, _, _, v5, rfl, rfl, SqT.of (k11 _ _ ou2 upd_same), hv5, ?_⟩
      obtain ⟨bears, rfl, hb0⟩ : ∃ i : Int, v5 = .int i ∧ 0 ≤ i := by
        rcases List.mem_cons.mp mv5 with rfl | mv5
        · exact ⟨_, rfl, by decide⟩
        rcases List.mem_cons.mp mv5 with rfl | mv5
        · exact ⟨_, rfl, a8⟩
        rcases List.mem_cons.mp mv5 with rfl | mv5
        · exact ⟨_, rfl, a9⟩
        · exact ⟨_, List.mem_singleton.mp mv5, w0⟩
      have k6 : Kp (Off t g) H6 H11 := ((((k7.trans k8).trans k9).trans (Kp.of (same_new nu))).trans k10).trans ((Kp.of (same_new nu2)).trans k11)
      have hG11 : GsAt H11 (fun b => H b = none) o ts gs := hG.keep (fun z x hz e => k6 z x (offD z hz) e)
      -- found.insert(..)
      refine ⟨.ref o, rfl, .inl ⟨rfl, _, hG11.seq⟩, .ref t, rfl, .ref o, rfl, o, _, rfl, .inl hG11.seq, _, _, rfl, rfl, t, g, _, _, rfl, T11, by omega, by omega, ?_, fun H12 s6 k12 T12 a12 b12 => ?_⟩
      · rw [List.length_map, hG.len]
        exact Int.lt_of_le_of_lt (show (gs.length : Int) + 1 ≤ 61 by omega) (by decide)
      · refine ⟨_, rfl, .int bears, rfl, (by show 2 ≤ sizeLine; decide), fun u3 nu3 => ?_⟩
        have ou3 : Off t g u3 := T12.off nu3
        have kp12 : Kp (Off t g) H H12 := (kp.trans k6).trans k12
        have nu30 : H u3 = none := kp12.none ou3 nu3
        have hG12 : GsAt H12 (fun b => H b = none) o ts gs := hG11.keep (fun z x hz e => k12 z x (offD z hz) e)
        have hG13 := hG12.same (same_new (o := .tup [.int (h + 1 + s1 / ((most : Int) + 1)), .int bears]) nu3)
        rw [List.length_map, hG.len] at b12
        refine ⟨o, _, s6, .ref u3, rfl, rfl, hG13.top, ils (by rw [List.length_map, hG.len]; omega), a12, by omega, ?_⟩
        have pm : ((ts.map V.ref).take s6.toNat ++ [V.ref u3] ++ (ts.map V.ref).drop s6.toNat).Perm (ts.map V.ref ++ [.ref u3]) := by
          have e : ts.map V.ref ++ [V.ref u3] = (ts.map V.ref).take s6.toNat ++ ((ts.map V.ref).drop s6.toNat ++ [V.ref u3]) := by
            rw [← List.append_assoc, List.take_append_drop]
          rw [e, List.append_assoc]
          exact List.Perm.append_left _ List.perm_append_comm
        obtain ⟨ts', gs', hG14, pg, hno', _⟩ := hG13.ins hno (q := u3) (g := (h + 1 + s1 / ((most : Int) + 1), bears)) upd_same nu30 pm
        refine ⟨h + 1 + s1 / ((most : Int) + 1), ts', gs', _, _, rfl, (kp12.new nu3).mutF no0, (T12.mut ou3).mut oo |>.more (by omega), hG14, hno', ?_, ?_, fun x m => ?_⟩
        · rw [pg.length_eq, List.length_append, hgl]
          rfl
        · refine Fit.perm (gs := gs ++ [(h + 1 + s1 / ((most : Int) + 1), bears)]) ⟨?_, fun x m => ?_⟩ pg
          · rw [List.map_append, List.nodup_append]
            refine ⟨hF.nd, by simp, fun x m y my => ?_⟩
            obtain ⟨z, mz, rfl⟩ := List.mem_map.mp m
            rw [List.mem_singleton.mp my]
            have := hx z mz
            show z.1 ≠ h + 1 + s1 / ((most : Int) + 1)
            omega
          · rcases List.mem_append.mp m with m | m
            · exact hF.pos x m
            · rw [List.mem_singleton.mp m]
              exact hb0
        · rcases List.mem_append.mp (pg.mem_iff.mp m) with m | m
          · have := hx x m
            omega
          · rw [List.mem_singleton.mp m]
            exact Int.le_refl _
    · obtain ⟨h, ts, gs, y6, y7, rfl, kp, T5, hG, hno, hgl, hF, hx⟩ := hW
      exact ⟨.ref o, rfl, q H5 o ts gs kp (T5.more (by omega)) hG hno hF (by omega)⟩
end
end El
namespace El
open PySem PySem.Spec PyProof.Rows L2
section
variable {P : Program} {w : World} {K : PySem.W.Frag} {mg : Str → Option Value} {base : Heap}
abbrev s__law_by_age : Stmt := topS 16
abbrev N__law_by_age : List Str := ["lodgers", "found", "years", "bears", "at"]
abbrev P__law_by_age : List Str := ["lodgers"]
theorem sc__law_by_age : FnScope N__law_by_age P__law_by_age (defScope s__law_by_age) := ⟨rfl, rfl, rfl, by decide +kernel, rfl, by decide +kernel, by decide +kernel⟩
def sp__law_by_age : Sp := fun vs H Q _ => ∃ (B : Addr → Prop) (a : Addr) (ts : List Addr) (gs : List (Int × Int)), vs = [.ref a] ∧ GsAt H B a ts gs ∧ Fit gs ∧ gs.length ≤ 1000 ∧
  ∀ H' o us, Same H H' → RmsAt H' (fun b => H b = none) o us (settle gs) → Q (.ref o) H'
theorem ok__law_by_age (A : At K mg "_law_by_age" P__law_by_age s__law_by_age) (B : Bi mg) : Df P w K mg base 1 "_law_by_age" P__law_by_age s__law_by_age sp__law_by_age := by
  refine A.df fun f fd F => F.ok sc__law_by_age (fun vs H Q E h => ?_) (fun cdv AA outer s H vs Q E hr h => ?_)
  · obtain ⟨_, a, _, _, rfl, _⟩ := h
    rfl
  · obtain ⟨BB, a, ts, gs, rfl, hG, hF, hl, q⟩ := h
    have nd := sc__law_by_age.nd
    refine ⟨_, (pss_cons (ps_set (i := 1) nd rfl (.inl rfl) (pe_lst pa_nil))
    (pss_cons (ps_for PassesOwn.never rfl (pi_list (pe_callBK (cr_sortedPK (b := true) rfl) (by rfl) B.sorted (by decide +kernel) (pa_cons (pv 0) pa_nil) (pk_cons pe_bl pk_nil))) (pg_tup (by rfl) (pgs_cons (pg_name (i := 2) nd rfl (.inl rfl)) (pgs_cons (pg_name (i := 3) nd rfl (.inl rfl)) pgs_nil))) (pss_cons (ps_set (i := 4) nd rfl (.inl rfl) pe_int) (pss_cons (ps_while PassesOwn.never (PW.pt (pw_and (pt_cmpR op_lt (pv 4) (pe_callB call_len_seq (by rfl) B.len PySem.boot_len (pa_cons (pv 1) pa_nil)) (nomark _)) (pw_and1 (pt_cmpR op_gt (pe_callB call_len_seq (by rfl) B.len PySem.boot_len (pa_cons (pe_ix ix_list (pv 1) (pv 4) (fun _ _ => rfl)) pa_nil)) (pv 3) (nomark _))))) (pss_one (ps_aug (i := 4) nd rfl (.inl rfl) pe_int ip_add))) (pss_cons (ps_if (pt_cmpR op_eq (pv 4) (pe_callB call_len_seq (by rfl) B.len PySem.boot_len (pa_cons (pv 1) pa_nil)) (nomark _)) (pss_one (ps_expr (pe_bm PySem.F.plainAttrs_list PySem.F.slot_list_append PySem.F.type_list_append mt_append (pv 1) (pa_cons (pe_lst pa_nil) pa_nil)))) pss_nil) (pss_one (ps_expr (pe_bm PySem.F.plainAttrs_list PySem.F.slot_list_append PySem.F.type_list_append mt_append (pe_ix ix_list (pv 1) (pv 4) (fun _ _ => rfl)) (pa_cons (pv 2) pa_nil))))))))
    (pss_one (ps_ret (pv 1))))), ?_⟩
    -- found = []
    refine ⟨Nat.zero_le _, fun o no => ?_⟩
    have s1 : Same H (upd H o (.lst [])) := same_new no
    have hG1 := hG.same s1
    -- sorted(lodgers, reverse=True)
    refine ⟨.ref a, rfl, a, _, prOf (upd H o (.lst [])), rfl, rfl, hG1.seq, hG1.mem, fun ys p2 hs hb np2 => ?_⟩
    have hys := sorted_down hF hG1.prs hs hb
    have hmem : ∀ x ∈ ys.reverse, ∃ t, x = V.ref t ∧ upd H o (.lst []) t = some (.tup [.int (prOf (upd H o (.lst [])) x).1, .int (prOf (upd H o (.lst [])) x).2]) := fun x m => hG1.mem x (hb.mem_iff.mp (List.mem_reverse.mp m))
    refine ⟨p2, rfl, ⟨_, SqL.of upd_same⟩, ?_⟩
    rw [if_pos rfl]
    have s2 : Same (upd H o (.lst [])) (upd (upd H o (.lst [])) p2 (.lst ys.reverse)) := same_new np2
    have eo : upd (upd H o (.lst [])) p2 (.lst ys.reverse) o = some (.lst []) := s2 _ _ upd_same
    have ep : upd (upd H o (.lst [])) p2 (.lst ys.reverse) p2 = some (.lst ys.reverse) := upd_same
    have hpo : p2 ≠ o := no_of upd_same np2
    have sH := s1.trans s2
    have hmem2 : ∀ x ∈ ys.reverse, ∃ t, x = V.ref t ∧ t ≠ o ∧ upd (upd H o (.lst [])) p2 (.lst ys.reverse) t = some (.tup [.int (prOf (upd H o (.lst [])) x).1, .int (prOf (upd H o (.lst [])) x).2]) := fun x m => by
      obtain ⟨t, e1, e2⟩ := hmem x m
      exact ⟨t, e1, (ne_of e2 upd_same (by simp)), s2 _ _ e2⟩
    revert sH eo ep hmem2
    generalize upd (upd H o (.lst [])) p2 (.lst ys.reverse) = Hs
    intro eo ep sH hmem2
    have hlen : ys.reverse.length = (byAge gs).length := by rw [← hys, List.length_map]
    refine for_it (walk_list (xs := ys.reverse)) (fun i σ H2 => ∃ us y2 y3 y4, σ = [some (.ref a), some (.ref o), y2, y3, y4] ∧ Kp (fun b => b ≠ o) Hs H2 ∧ RmsAt H2 (fun b => b = o ∨ Hs b = none) o us (settleL ((byAge gs).take i)))
      ⟨[], none, none, none, rfl, Kp.refl, RmsAt.nil eo (.inl rfl)⟩ (fun i σ H2 _ hW => ?_) (fun i x σ H2 H3 hi hW hY => ?_) (fun σ H2 hW => ?_)
    · obtain ⟨_, _, _, _, _, kp, _⟩ := hW
      exact SqL.of (kp _ _ hpo ep)
    · obtain ⟨us, y2, y3, y4, rfl, kp, hR⟩ := hW
      obtain ⟨rfl, hx⟩ := hY
      obtain ⟨t, rfl, hto, et⟩ := hmem2 x (List.mem_of_getElem? hx)
      have eg : (byAge gs)[i]? = some (prOf (upd H o (.lst [])) (.ref t)) := by
        rw [← hys, List.getElem?_map, hx]
        rfl
      revert eg et
      generalize prOf (upd H o (.lst [])) (.ref t) = g
      intro et eg
      have hlt : (settleL ((byAge gs).take i)).length ≤ 1000 := by
        refine Nat.le_trans (settleL_len _) ?_
        rw [List.length_take, byAge_length]
        omega
      have hE := settleL_take eg
      have hrm : ∀ r ∈ settleL ((byAge gs).take i), r.length ≤ 1000 := fun r hr => by
        refine Nat.le_trans (settleL_room hr) ?_
        rw [List.length_take, byAge_length]
        omega
      revert hlt hE hR hrm
      generalize settleL ((byAge gs).take i) = rs
      intro hR hlt hE hrm
      refine ⟨t, _, rfl, SqT.of (kp _ _ hto et), rfl, .int g.1, _, rfl, .int g.2, _, rfl, rfl, ?_⟩
      -- at = 0; the while
      refine seq_set ?_
      refine seq_to (fun σ H4 => σ = [some (.ref a), some (.ref o), some (.int g.1), some (.int g.2), some (.int (firstB rs g.2))] ∧ H4 = H3) (fun X hX => ?_) (fun σ H4 hE4 => ?_)
      · refine while_to (fun m σ H4 => ∃ j : Nat, σ = [some (.ref a), some (.ref o), some (.int g.1), some (.int g.2), some (.int (j : Int))] ∧ H4 = H3 ∧ m + j = rs.length ∧ ∀ j' r, j' < j → rs[j']? = some r → g.2 < (r.length : Int))
          (fun σ H4 => σ = [some (.ref a), some (.ref o), some (.int g.1), some (.int g.2), some (.int (firstB rs g.2))] ∧ H4 = H3) ⟨rs.length, 0, rfl, rfl, rfl, fun j' r h => absurd h (Nat.not_lt_zero _)⟩ hX (fun X hX m σ H4 hW => ?_)
        obtain ⟨j, rfl, rfl, hm, hj⟩ := hW
        refine ⟨_, rfl, .ref o, rfl, o, _, rfl, .inl hR.seq, _, _, rfl, rfl, _, rfl, ite2 (fun e => ?_) (fun e => ?_)⟩
        · have e := of_decide_eq_true e
          rw [List.length_map, hR.len] at e
          obtain ⟨r, er⟩ := at_some (show j < rs.length by omega)
          obtain ⟨u, eu, hu⟩ := hR.of er
          refine ⟨.ref o, rfl, _, rfl, o, _, _, .ref u, rfl, rfl, hR.seq, atI_nat (j := j) (by rw [List.getElem?_map, eu]; rfl), u, _, rfl, .inl (SqL.of hu), .int g.2, rfl, _, _, rfl, rfl, _, rfl, ite2 (fun e2 => ?_) (fun e2 => ?_)⟩
          · have e2 := of_decide_eq_true e2
            rw [List.length_map] at e2
            refine ⟨fun σ' H' => ∃ j : Nat, σ' = [some (.ref a), some (.ref o), some (.int g.1), some (.int g.2), some (.int (j : Int))] ∧ H' = H4 ∧ (m - 1) + j = rs.length ∧ ∀ j' r, j' < j → rs[j']? = some r → g.2 < (r.length : Int), fun σ' H' h => ⟨m - 1, by omega, h⟩, ?_⟩
            refine ⟨_, rfl, _, _, rfl, rfl, j + 1, rfl, rfl, by omega, fun j' r' hj' e' => ?_⟩
            by_cases hjj : j' < j
            · exact hj j' r' hjj e'
            · have : j' = j := by omega
              subst this
              obtain rfl : r = r' := Option.some.inj (er.symm.trans e')
              exact e2
          · have e2 : ¬ g.2 < ((r.map V.int).length : Int) := fun z => e2 (decide_eq_true z)
            rw [List.length_map] at e2
            have hb : firstB rs g.2 = j := firstB_is rs g.2 j (by omega) hj fun r' e' => by
              obtain rfl : r = r' := Option.some.inj (er.symm.trans e')
              omega
            exact hX _ _ ⟨by rw [hb], rfl⟩
        · have e : ¬ (j : Int) < ((us.map V.ref).length : Int) := fun z => e (decide_eq_true z)
          rw [List.length_map, hR.len] at e
          have hb : firstB rs g.2 = j := firstB_is rs g.2 j (by omega) hj fun r' e' => absurd (at_lt e') (by omega)
          refine iteF (hX _ _ ⟨by rw [hb], rfl⟩)
      · obtain ⟨rfl, rfl⟩ := hE4
        have fin : ∀ {H5 : Hp} {us' : List Addr} {rs' : List (List Int)} {t : Addr} {r : List Int}, Kp (fun b => b ≠ o) Hs H5 → RmsAt H5 (fun b => b = o ∨ Hs b = none) o us' rs' → us'[firstB rs g.2]? = some t → place rs g.1 g.2 = rs'.set (firstB rs g.2) (r ++ [g.1]) →
            ∃ us y2 y3 y4, [some (V.ref a), some (.ref o), some (.int g.1), some (.int g.2), some (.int (firstB rs g.2))] = [some (V.ref a), some (.ref o), y2, y3, y4] ∧ Kp (fun b => b ≠ o) Hs (upd H5 t (.lst (r.map V.int ++ [.int g.1]))) ∧ RmsAt (upd H5 t (.lst (r.map V.int ++ [.int g.1]))) (fun b => b = o ∨ Hs b = none) o us (settleL ((byAge gs).take (i + 1))) := by
          intro H5 us' rs' t r k5 hR5 et ep
          refine ⟨us', _, _, _, rfl, ?_, ?_⟩
          · rcases hR5.b t (List.mem_of_getElem? et) with z | z
            · exact absurd (z ▸ List.mem_of_getElem? et) hR5.no
            · exact k5.mutF z
          · have z := hR5.set et (r ++ [g.1])
            rw [List.map_append] at z
            rw [hE, ep]
            exact z
        refine ⟨_, rfl, .ref o, rfl, o, _, rfl, .inl hR.seq, rfl, _, rfl, ite2 (fun e => ?_) (fun e => ?_)⟩
        · have e := V.int.inj (of_decide_eq_true e)
          rw [List.length_map, hR.len] at e
          have e : firstB rs g.2 = rs.length := by omega
          refine ⟨.ref o, rfl, .inl ⟨rfl, _, hR.seq⟩, Nat.zero_le _, fun u nu => ?_⟩
          have nuo : o ≠ u := ne_of_none hR.top nu
          refine ⟨o, _, _, rfl, rfl, (by rw [upd_ne nuo]; exact hR.top), ils (by rw [List.length_map, hR.len]; omega), ?_⟩
          have hns : Hs u = none := kp.none nuo.symm nu
          have hR5 := hR.push (r := []) nu (.inr hns)
          have k5 : Kp (fun b => b ≠ o) Hs (upd (upd H4 u (.lst [])) o (.lst (us.map V.ref ++ [.ref u]))) := Kp.mut (Kp.new kp nu) (fun z => z rfl)
          have et : (us ++ [u])[firstB rs g.2]? = some u := by
            rw [e, ← hR.len, List.getElem?_append_right (Nat.le_refl _), Nat.sub_self]
            rfl
          have er : (rs ++ [[]])[firstB rs g.2]? = some [] := by
            rw [e, List.getElem?_append_right (Nat.le_refl _), Nat.sub_self]
            rfl
          have eu := hR5.at' _ _ _ et er
          refine ⟨.ref o, rfl, _, rfl, o, _, _, .ref u, rfl, rfl, SqL.of (by rw [upd_same]), atI_nat (j := firstB rs g.2) ?_, .inl ⟨rfl, _, SqL.of eu⟩, .int g.1, rfl, u, _, _, rfl, rfl, eu, ils (Nat.zero_le _), ?_⟩
          · have z := congrArg (Option.map V.ref) et
            rw [← List.getElem?_map, List.map_append] at z
            exact z
          · refine fin (r := []) k5 hR5 et ?_
            rw [place_new _ _ _ e, e, List.set_append_right _ _ (Nat.le_refl _), Nat.sub_self]
            rfl
        · have e : ¬ firstB rs g.2 = rs.length := fun z => e (decide_eq_true (by rw [List.length_map, hR.len, z]))
          have hle := firstB_le rs g.2
          obtain ⟨r, er, _⟩ := firstB_in rs g.2 (by omega)
          obtain ⟨t, et, eu⟩ := hR.of er
          refine ⟨.ref o, rfl, _, rfl, o, _, _, .ref t, rfl, rfl, hR.seq, atI_nat (j := firstB rs g.2) ?_, .inl ⟨rfl, _, SqL.of eu⟩, .int g.1, rfl, t, _, _, rfl, rfl, eu, ils (by rw [List.length_map]; have := hrm r (List.mem_of_getElem? er); omega), ?_⟩
          · rw [List.getElem?_map, et]
            rfl
          · exact fin kp hR et (place_at _ _ _ _ er)
    · obtain ⟨us, y2, y3, y4, rfl, kp, hR⟩ := hW
      rw [hlen, take_full] at hR
      refine ⟨.ref o, rfl, q H2 o us ?_ (hR.newTop (fun _ _ _ e => e) fun b hb => ?_)⟩
      · intro b x hb
        exact kp _ _ (ne_of_none hb no) (sH _ _ hb)
      · rcases hb with rfl | hb
        · exact no
        · rcases hR.b b hb with rfl | z
          · exact no
          · exact sH.free z
end
end El
namespace El
open PySem PySem.Spec PyProof.Rows L2
theorem iteX {c : Bool} {A B : Prop} (hc : c = false) (h : B) : if c = true then A else B := by
  rw [hc]
  exact iteF h
theorem nd_self (x : V) : (!decide (x = x)) = false := by rw [decide_eq_true rfl]; rfl
section
variable {P : Program} {w : World} {K : PySem.W.Frag} {mg : Str → Option Value} {base : Heap}
abbrev s_law : Stmt := topS 17
abbrev N_law : List Str := ["script", "bag", "turn", "folk", "known", "times", "near", "newer", "bears", "ahead", "later", "unlike", "handed", "years", "room", "k"]
abbrev P_law : List Str := ["script"]
theorem sc_law : FnScope N_law P_law (defScope s_law) := ⟨rfl, rfl, rfl, by decide +kernel, rfl, by decide +kernel, by decide +kernel⟩
def sp_law (K : PySem.W.Frag) : Sp := fun vs H Q _ => ∃ (a : Addr) (ns : List Int), vs = [.ref a] ∧ SqL K H a (ns.map V.int) ∧ ns.length ≤ 63 ∧ ∀ H', Q (.bl true) H'
theorem ok_law (A : At K mg "law" P_law s_law) (B : Bi mg)
    (D__law_bag : Df P w K mg base 1 "_law_bag" P__law_bag s__law_bag (sp__law_bag K)) (D__law_draw : Df P w K mg base 1 "_law_draw" P__law_draw s__law_draw sp__law_draw)
    (D__law_guests : Df P w K mg base 2 "_law_guests" P__law_guests s__law_guests sp__law_guests) (D__law_by_age : Df P w K mg base 1 "_law_by_age" P__law_by_age s__law_by_age sp__law_by_age)
    (D_one_more : Df P w K mg base 4 "one_more" P_one_more s_one_more sp_one_more) : Df P w K mg base 5 "law" P_law s_law (sp_law K) := by
  refine A.df fun f fd F => F.ok sc_law (fun vs H Q E h => ?_) (fun cdv AA outer s H vs Q E hr h => ?_)
  · obtain ⟨a, _, rfl, _⟩ := h
    rfl
  · obtain ⟨a, ns, rfl, hS, hl, q⟩ := h
    have nd := sc_law.nd
    refine ⟨_, (pss_cons (ps_set (i := 1) nd rfl (.inl rfl) (pe_df D__law_bag (hr.mono (by decide)) (by rfl) (pa_cons (pv 0) pa_nil)))
    (pss_cons (ps_for PassesOwn.never rfl (pi_range1 (by rfl) B.range (pa_cons (pe_op op_add pe_int (pe_callB (call_min2 rfl) (by rfl) B.min (by decide +kernel) (pa_cons pe_int (pa_cons (pe_callB call_len_seq (by rfl) B.len PySem.boot_len (pa_cons (pv 0) pa_nil)) pa_nil)))) pa_nil)) (pg_name (i := 2) nd rfl (.inl rfl)) (pss_cons (ps_set (i := 3) nd rfl (.inl rfl) (pe_df D__law_guests (hr.mono (by decide)) (by rfl) (pa_cons (pv 1) (pa_cons (pe_ix ix_tup (pe_tup (pa_cons pe_int (pa_cons pe_int (pa_cons pe_int (pa_cons pe_int pa_nil))))) (pe_df D__law_draw (hr.mono (by decide)) (by rfl) (pa_cons (pv 1) (pa_cons pe_int pa_nil))) (fun _ _ => rfl)) pa_nil)))) (pss_cons (ps_setLc (i := 4) (own := [("years", 13), ("bears", 8)]) (tt := tYes) rfl nd rfl rfl (sw_true rfl rfl rfl (by decide +kernel)) (pi_list (pv 3)) (blkOk_by (N := N_law) (sc := defScope s_law) (by decide +kernel)) (fun _ _ _ _ _ => (pgTupK K 2 (by rfl) (pgs_cons (pg_name (i := 13) nd rfl (.inl rfl)) (pgs_cons (pg_name (i := 8) nd rfl (.inl rfl)) pgs_nil)))) (fun _ _ _ _ _ => pts_nil) (fun _ _ _ _ _ => (pv 13))) (pss_one (ps_for PassesOwn.never rfl (pi_range1 (by rfl) B.range (pa_cons pe_int pa_nil)) (pg_name (i := 5) nd rfl (.inl rfl)) (pss_cons (ps_set (i := 6) nd rfl (.inl rfl) (pe_ix ix_list (pe_op op_cat (pv 4) (pe_lst (pa_cons pe_int pa_nil))) (pe_df D__law_draw (hr.mono (by decide)) (by rfl) (pa_cons (pv 1) (pa_cons (pe_op op_add (pe_callB call_len_seq (by rfl) B.len PySem.boot_len (pa_cons (pv 4) pa_nil)) pe_int) pa_nil))) (fun _ _ => rfl))) (pss_cons (ps_set (i := 7) nd rfl (.inl rfl) (pe_ix ix_tup (pe_tup (pa_cons (pe_op op_sub (pe_op op_add (pv 6) (pe_df D__law_draw (hr.mono (by decide)) (by rfl) (pa_cons (pv 1) (pa_cons pe_int pa_nil)))) pe_int) (pa_cons (pe_df D__law_draw (hr.mono (by decide)) (by rfl) (pa_cons (pv 1) (pa_cons (pe_op op_pow pe_int pe_int) pa_nil))) pa_nil))) (pe_op op_fdivW (pe_df D__law_draw (hr.mono (by decide)) (by rfl) (pa_cons (pv 1) (pa_cons pe_int pa_nil))) pe_int) (fun _ _ => rfl))) (pss_one (ps_if (pt_cmpR op_notIn_seq (pv 7) (pv 4) (by rfl)) (pss_cons (ps_set (i := 8) nd rfl (.inl rfl) (pe_ix ix_tup (pe_tup (pa_cons pe_int (pa_cons (pe_df D__law_draw (hr.mono (by decide)) (by rfl) (pa_cons (pv 1) (pa_cons pe_int pa_nil))) (pa_cons (pe_df D__law_draw (hr.mono (by decide)) (by rfl) (pa_cons (pv 1) (pa_cons pe_int pa_nil))) (pa_cons (pe_op op_pow pe_int pe_int) pa_nil))))) (pe_df D__law_draw (hr.mono (by decide)) (by rfl) (pa_cons (pv 1) (pa_cons pe_int pa_nil))) (fun _ _ => rfl))) (pss_cons (ps_set (i := 9) nd rfl (.inr rfl) (pe_lc (own := [("room", 14)]) (tt := tYes) rfl nd (pi_list (pe_df D__law_by_age (hr.mono (by decide)) (by rfl) (pa_cons (pv 3) pa_nil))) (blkOk_by (N := N_law) (sc := defScope s_law) (by decide +kernel)) (fun _ _ _ _ _ => (pg_name (i := 14) nd rfl (.inl rfl))) (fun _ _ _ _ _ => pts_nil) (fun _ _ _ _ _ => (pe_callB (lenK K) (by rfl) B.len PySem.boot_len (pa_cons (pv 14) pa_nil))))) (pss_cons (ps_set (i := 10) nd rfl (.inr rfl) (pe_lc (own := [("room", 14)]) (tt := tYes) rfl nd (pi_list (pe_df D__law_by_age (hr.mono (by decide)) (by rfl) (pa_cons (pe_op op_cat (pv 3) (pe_lst (pa_cons (pe_tup (pa_cons (pv 7) (pa_cons (pv 8) pa_nil))) pa_nil))) pa_nil))) (blkOk_by (N := N_law) (sc := defScope s_law) (by decide +kernel)) (fun _ _ _ _ _ => (pg_name (i := 14) nd rfl (.inl rfl))) (fun _ _ _ _ _ => pts_nil) (fun _ _ _ _ _ => (pe_callB (lenK K) (by rfl) B.len PySem.boot_len (pa_cons (pv 14) pa_nil))))) (pss_cons (ps_setLc (i := 11) (own := [("k", 15)]) rfl nd rfl rfl (sw_true rfl rfl rfl (by decide +kernel)) (pi_range1 (by rfl) B.range (pa_cons (pe_callB call_len_seq (by rfl) B.len PySem.boot_len (pa_cons (pv 10) pa_nil)) pa_nil)) (blkOk_by (N := N_law) (sc := defScope s_law) (by decide +kernel)) (fun _ _ _ _ _ => (pg_name (i := 15) nd rfl (.inl rfl))) (fun _ _ _ _ _ => (pts_one (pt_cmpR (neDK K hr.units) (pe_slice (sllK K) (pv 9) (po_some (pv 15)) (po_some (pe_op op_add (pv 15) pe_int))) (pe_slice (sllK K) (pv 10) (po_some (pv 15)) (po_some (pe_op op_add (pv 15) pe_int))) (nomark _)))) (fun _ _ _ _ _ => (pv 15))) (pss_cons (ps_if (PW.pt (pw_or (pt_cmpR op_ne (pe_callB call_len_seq (by rfl) B.len PySem.boot_len (pa_cons (pv 11) pa_nil)) pe_int (nomark _)) (pw_or1 (pt_cmpR op_ne (pe_ix ix_list (pv 10) (pe_ix ix_list (pv 11) pe_int (fun _ _ => rfl)) (fun _ _ => rfl)) (pe_op op_add (pe_ix ix_list (pe_op op_cat (pv 9) (pe_lst (pa_cons pe_int pa_nil))) (pe_ix ix_list (pv 11) pe_int (fun _ _ => rfl)) (fun _ _ => rfl)) pe_int) (nomark _))))) (pss_one (ps_ret pe_bl)) pss_nil) (pss_cons (ps_set (i := 12) nd rfl (.inl rfl) (pe_callTy call_list_of (by rfl) B.list_ (by decide +kernel) (pa_cons (pv 3) pa_nil))) (pss_cons (ps_if (PW.pt (pw_or (pt_cmpR op_ne (pe_callB SkE.call_repr_int (by rfl) B.repr (by decide +kernel) (pa_cons (pe_df D_one_more (hr.mono (by decide)) (by rfl) (pa_cons (pv 12) (pa_cons (pv 7) (pa_cons (pv 8) pa_nil)))) pa_nil)) (pe_callB SkE.call_repr_int (by rfl) B.repr (by decide +kernel) (pa_cons (pe_ix ix_list (pv 11) pe_int (fun _ _ => rfl)) pa_nil)) (nomark _)) (pw_or1 (pt_cmpR (op_neD hr.units) (pv 12) (pv 3) (nomark _))))) (pss_one (ps_ret pe_bl)) pss_nil) (pss_one (ps_if (pt_cmpR op_ne (pe_dfK D_one_more ["patience", "guests", "age"] (fun | [a0, a1, a2] => [a1, a2, a0] | l => l) (hr.mono (by decide)) (by rfl) (pk_cons (pv 8) (pk_cons (pv 12) (pk_cons (pv 7) pk_nil))) (fun _ _ _ _ _ _ ws hl => match ws, hl with | [_, _, _], _ => rfl) (fun r => match r with | .nil => .nil | .cons x0 .nil => .cons x0 .nil | .cons x0 (.cons x1 .nil) => .cons x0 (.cons x1 .nil) | .cons x0 (.cons x1 (.cons x2 .nil)) => .cons x1 (.cons x2 (.cons x0 .nil)) | .cons x0 (.cons x1 (.cons x2 (.cons x3 r))) => .cons x0 (.cons x1 (.cons x2 (.cons x3 r))))) (pe_ix ix_list (pv 11) pe_int (fun _ _ => rfl)) (nomark _)) (pss_one (ps_ret pe_bl)) pss_nil))))))))) pss_nil)))))))))
    (pss_one (ps_ret pe_bl)))), ?_⟩
    refine ⟨.ref a, rfl, a, ns, rfl, hS, hl, fun H1 b g s1 nb ng hT => ?_⟩
    refine ⟨.ref a, rfl, a, _, rfl, .inl (s1.seq hS), _, _, rfl, _, _, rfl, rfl, _, rfl, ?_, ?_, ?_⟩
    · split <;> omega
    · split <;> omega
    have hlaps : ((1 : Int) + (if ((ns.map V.int).length : Int) < 3 then ((ns.map V.int).length : Int) else 3)).toNat ≤ 4 := by
      split <;> omega
    refine for_it walk_range (fun i σ H2 => ∃ y2 y3 y4 y5 y6 y7 y8 y9 y10 y11 y12 y13 y14 y15, σ = [some (.ref a), some (.ref b), y2, y3, y4, y5, y6, y7, y8, y9, y10, y11, y12, y13, y14, y15] ∧ Bag H2 b g (100000 * i)) ⟨_, _, _, _, _, _, _, _, _, _, _, _, _, _, rfl, hT⟩ (fun _ _ _ _ _ => trivial) (fun i x σ H2 H3 hi hW hY => ?_) (fun σ H2 hW => q _)
    obtain ⟨y2, y3, y4, y5, y6, y7, y8, y9, y10, y11, y12, y13, y14, y15, rfl, T2⟩ := hW
    obtain ⟨rfl, rfl⟩ := hY
    have hi11 : i ≤ 10 := by omega
    -- folk
    refine ⟨.ref b, rfl, (by show 4 ≤ sizeLine; decide), fun p np => ?_⟩
    have op : Off b g p := T2.off np
    refine ⟨.ref b, rfl, b, g, 100000 * i, 4, rfl, T2.mut op, by omega, by decide, by decide, fun H4 r4 k4 T4 a4 b4 => ?_⟩
    obtain ⟨v, hv, mv⟩ := at_pick (xs := [V.int 12, .int 12, .int 12, .int 59]) a4 b4
    refine ⟨p, _, _, v, rfl, rfl, SqT.of (k4 _ _ op upd_same), hv, ?_⟩
    have mv' : ∃ m : Nat, v = .int (m : Int) ∧ m ≤ 60 := by
      rcases List.mem_cons.mp mv with rfl | mv
      · exact ⟨12, rfl, by decide⟩
      rcases List.mem_cons.mp mv with rfl | mv
      · exact ⟨12, rfl, by decide⟩
      rcases List.mem_cons.mp mv with rfl | mv
      · exact ⟨12, rfl, by decide⟩
      rw [List.mem_singleton.mp mv]
      exact ⟨59, rfl, by decide⟩
    obtain ⟨most, rfl, hmost⟩ := mv'
    refine ⟨b, g, _, most, rfl, T4, hmost, by omega, fun H5 o ts gs k5 T5 hG5 hno hF hgl => ?_⟩
    have hG5 : GsAt H5 (Off b g) o ts gs := hG5.weaken fun z hz => T4.off hz
    have hg60 : gs.length ≤ 60 := Nat.le_trans hgl hmost
    -- known
    refine ⟨.ref o, rfl, o, rfl, ⟨_, hG5.seq⟩, fun D nD => ?_⟩
    refine lc_it (walk_list (xs := ts.map V.ref)) (fun i H2 => Same H5 H2 ∧ H2 D = some (.lst (((gs.take i).map (·.1)).map V.int))) ⟨same_new nD, upd_same⟩ (fun i H2 _ hW => ?_) (fun i x H2 H3 hi hW hY => ?_) (fun H6 hW => ?_)
    · exact (hG5.same hW.1).seq
    · obtain ⟨sm, hD⟩ := hW
      obtain ⟨rfl, hx⟩ := hY
      obtain ⟨u, z, rfl, ez, eu⟩ := (hG5.same sm).get hx
      refine ⟨u, _, rfl, SqT.of eu, rfl, .int z.1, _, rfl, .int z.2, _, rfl, rfl, rfl, .int z.1, rfl, _, hD, ils (by rw [List.length_map, List.length_map, List.length_take]; omega), Same.mut sm nD, ?_⟩
      rw [upd_same, take_snoc ez, List.map_append, List.map_append]
      rfl
    obtain ⟨s6, eD⟩ := hW
    rw [List.length_map, hG5.len, take_full] at eD
    have hG6 := hG5.same s6
    have T6 := T5.keep s6
    have oD : Off b g D := T5.off nD
    have hkl : (gs.map (·.1)).length ≤ 60 := by rw [List.length_map]; exact hg60
    -- four times
    refine ⟨_, rfl, by decide, by decide, ?_⟩
    refine for_it walk_range (fun j σ H2 => ∃ y5 y6 y7 y8 y9 y10 y11 y12, σ = [some (.ref a), some (.ref b), some (.int (0 + (i : Int))), some (.ref o), some (.ref D), y5, y6, y7, y8, y9, y10, y11, y12, y13, y14, y15] ∧ Kp (Off b g) H6 H2 ∧ Bag H2 b g (100000 * i + 600 + 100 * j)) ⟨_, _, _, _, _, _, _, _, rfl, Kp.refl, T6.more (by omega)⟩ (fun _ _ _ _ _ => trivial) (fun j x σ H7 H8 hj hW hY => ?_) (fun σ H7 hW => ?_)
    · obtain ⟨y5, y6, y7, y8, y9, y10, y11, y12, rfl, kp, T7⟩ := hW
      obtain ⟨rfl, rfl⟩ := hY
      have hj4 : j < 4 := hj
      -- near
      have eD7 := kp _ _ oD eD
      refine ⟨.ref D, rfl, (by show 1 ≤ sizeLine; decide), fun z nz => ?_⟩
      refine ⟨D, z, _, _, rfl, rfl, (same_new nz) _ _ eD7, upd_same, ile (by rw [List.length_map]; show (gs.map (·.1)).length + 1 ≤ 100000; omega), fun c nc => ?_⟩
      have s9 : Same H8 (upd (upd H8 z (.lst [.int 0])) c (.lst ((gs.map (·.1)).map V.int ++ [.int 0]))) := Same.trans (same_new nz) (same_new nc)
      have T9 := T7.keep s9
      have oc : Off b g c := (T7.keep (same_new nz)).off nc
      refine ⟨.ref b, rfl, .ref D, rfl, D, _, rfl, .inl (SqL.of (s9 _ _ eD7)), _, _, rfl, rfl, b, g, _, _, rfl, T9, by omega, by rw [List.length_map]; omega, ?_, fun H10 r10 k10 T10 a10 b10 => ?_⟩
      · rw [List.length_map]
        exact Int.lt_of_le_of_lt (show ((gs.map (·.1)).length : Int) + 1 ≤ 61 by omega) (by decide)
      obtain ⟨v, hv, mv⟩ := at_pick (xs := (gs.map (·.1)).map V.int ++ [V.int 0]) a10 (by rw [List.length_append]; show r10 < (((gs.map (·.1)).map V.int).length + 1 : Nat); omega)
      refine ⟨c, _, _, v, rfl, rfl, SqL.of (k10 _ _ oc upd_same), hv, ?_⟩
      obtain ⟨near, rfl⟩ : ∃ n : Int, v = .int n := by
        rcases List.mem_append.mp mv with m | m
        · obtain ⟨n, _, rfl⟩ := List.mem_map.mp m
          exact ⟨n, rfl⟩
        · exact ⟨0, List.mem_singleton.mp m⟩
      have kp10 : Kp (Off b g) H6 H10 := kp.trans ((Kp.of s9).trans k10)
      -- newer
      refine ⟨.int near, rfl, .ref b, rfl, b, g, _, 9, rfl, T10, by omega, by decide, by decide, fun H11 r11 k11 T11 a11 b11 => ?_⟩
      refine ⟨_, _, rfl, rfl, _, _, rfl, rfl, .ref b, rfl, _, _, rfl, rfl, ⟨by decide, by decide, by decide⟩, b, g, _, _, rfl, T11, by omega, by decide, by decide, fun H12 r12 k12 T12 a12 b12 => ?_⟩
      refine ⟨(by show 2 ≤ sizeLine; decide), fun u nu => ?_⟩
      have ou : Off b g u := T12.off nu
      refine ⟨.ref b, rfl, b, g, _, 5, rfl, T12.mut ou, by omega, by decide, by decide, fun H13 r13 k13 T13 a13 b13 => ?_⟩
      refine ⟨_, _, rfl, rfl, ⟨by decide, by decide⟩, ?_⟩
      obtain ⟨v, hv, mv⟩ := at_pick (xs := [V.int (near + r11 - 4), .int r12]) (r := r13 / 4) (Int.ediv_nonneg a13 (by decide)) (by show r13 / 4 < 2; omega)
      refine ⟨u, _, _, v, rfl, rfl, SqT.of (k13 _ _ ou upd_same), hv, ?_⟩
      obtain ⟨newer, rfl⟩ : ∃ n : Int, v = .int n := by
        rcases List.mem_cons.mp mv with rfl | m
        · exact ⟨_, rfl⟩
        · exact ⟨_, List.mem_singleton.mp m⟩
      have kp13 : Kp (Off b g) H6 H13 := ((kp10.trans k11).trans k12).trans ((Kp.of (same_new nu)).trans k13)
      -- if newer not in known
      refine ⟨.int newer, rfl, .ref D, rfl, D, _, rfl, .inl (SqL.of (kp13 _ _ oD eD)), rfl, flat_ints _, _, rfl, ?_⟩
      show if (!inV (.int newer) ((gs.map (·.1)).map V.int)) = true then _ else _
      rw [inV_ints]
      by_cases hin : newer ∈ gs.map (·.1)
      · rw [decide_eq_true hin]
        exact iteF ⟨_, _, _, _, _, _, _, _, rfl, kp13, T13.more (by omega)⟩
      rw [decide_eq_false hin]
      refine iteT ?_
      -- bears
      refine ⟨.ref b, rfl, b, g, _, 4, rfl, T13, by omega, by decide, by decide, fun H14 r14 k14 T14 a14 b14 => ?_⟩
      refine ⟨.ref b, rfl, b, g, _, 9, rfl, T14, by omega, by decide, by decide, fun H15 r15 k15 T15 a15 b15 => ?_⟩
      refine ⟨_, _, rfl, rfl, ⟨by decide, by decide, by decide⟩, (by show 4 ≤ sizeLine; decide), fun u2 nu2 => ?_⟩
      have ou2 : Off b g u2 := T15.off nu2
      refine ⟨.ref b, rfl, b, g, _, 4, rfl, T15.mut ou2, by omega, by decide, by decide, fun H16 r16 k16 T16 a16 b16 => ?_⟩
      obtain ⟨v, hv, mv⟩ := at_pick (xs := [V.int 0, .int r14, .int r15, .int (10 ^ Int.toNat 29)]) a16 b16
      refine ⟨u2, _, _, v, rfl, rfl, SqT.of (k16 _ _ ou2 upd_same), hv, ?_⟩
      obtain ⟨bears, rfl, hb0⟩ : ∃ i : Int, v = .int i ∧ 0 ≤ i := by
        rcases List.mem_cons.mp mv with rfl | mv
        · exact ⟨_, rfl, by decide⟩
        rcases List.mem_cons.mp mv with rfl | mv
        · exact ⟨_, rfl, a14⟩
        rcases List.mem_cons.mp mv with rfl | mv
        · exact ⟨_, rfl, a15⟩
        · exact ⟨_, List.mem_singleton.mp mv, by decide⟩
      have kp16 : Kp (Off b g) H6 H16 := ((kp13.trans k14).trans k15).trans ((Kp.of (same_new nu2)).trans k16)
      have hFx : Fit ((newer, bears) :: gs) := ⟨List.nodup_cons.mpr ⟨hin, hF.nd⟩, fun x m => by
        rcases List.mem_cons.mp m with rfl | m
        · exact hb0
        · exact hF.pos x m⟩
      obtain ⟨d, hd, hL⟩ := (settle_near hFx).sizes
      have hrl : (settle gs).length ≤ 60 := Nat.le_trans (settleL_len _) (by rw [byAge_length]; exact hg60)
      have hG16 := hG6.keep kp16
      -- ahead
      refine ⟨.ref o, rfl, Off b g, o, ts, gs, rfl, hG16, hF, by omega, fun H17 ro us s17 hR17 => ?_⟩
      refine ⟨ro, rfl, ⟨_, hR17.seq⟩, fun A nA => ?_⟩
      refine lc_it (walk_list (xs := us.map V.ref)) (fun i H2 => Same H17 H2 ∧ H2 A = some (.lst ((lens ((settle gs).take i)).map V.int))) ⟨same_new nA, upd_same⟩ (fun i H2 _ hW => ?_) (fun i x H2 H3 hi hW hY => ?_) (fun H18 hW => ?_)
      · exact (hR17.same hW.1).seq
      · obtain ⟨sm, hD⟩ := hW
        obtain ⟨rfl, hx⟩ := hY
        obtain ⟨t, r, rfl, _, er, et⟩ := (hR17.same sm).get hx
        refine ⟨rfl, .ref t, rfl, t, _, rfl, .inl (SqL.of et), _, hD, ils (by rw [List.length_map, lens_length, List.length_take]; omega), Same.mut sm nA, ?_⟩
        rw [upd_same, take_snoc er]
        show _ = some (HO.lst (((((settle gs).take i) ++ [r]).map fun r => (r.length : Int)).map V.int))
        rw [List.map_append, List.map_append]
        show some (HO.lst (_ ++ [V.int ((List.map V.int r).length : Int)])) = _
        rw [List.length_map]
        rfl
      obtain ⟨s18, eA⟩ := hW
      rw [List.length_map, hR17.len, take_full] at eA
      have s1618 : Same H16 H18 := Same.trans s17 s18
      have hG18 := hG16.same s1618
      -- later
      refine ⟨.ref o, rfl, .int newer, rfl, .int bears, rfl, (by show 2 ≤ sizeLine; decide), fun u3 nu3 => ⟨(by show 1 ≤ sizeLine; decide), fun l3 nl3 => ?_⟩⟩
      have s19 : Same H18 (upd (upd H18 u3 (.tup [.int newer, .int bears])) l3 (.lst [.ref u3])) := Same.trans (same_new nu3) (same_new nl3)
      refine ⟨o, l3, _, _, rfl, rfl, s19 _ _ hG18.top, upd_same, ile (by rw [List.length_map, hG5.len]; show gs.length + 1 ≤ 100000; omega), fun c3 nc3 => ?_⟩
      have s20 : Same H18 (upd (upd (upd H18 u3 (.tup [.int newer, .int bears])) l3 (.lst [.ref u3])) c3 (.lst (ts.map V.ref ++ [.ref u3]))) := Same.trans s19 (same_new nc3)
      have eu3 : upd (upd (upd H18 u3 (.tup [.int newer, .int bears])) l3 (.lst [.ref u3])) c3 (.lst (ts.map V.ref ++ [.ref u3])) u3 = some (.tup [.int newer, .int bears]) := (same_new nc3) _ _ ((same_new nl3) _ _ upd_same)
      have hC := (hG18.same s20).cat (g := (newer, bears)) eu3 upd_same
      have pm : (gs ++ [(newer, bears)]).Perm ((newer, bears) :: gs) := List.perm_append_comm
      refine ⟨_, c3, _, _, rfl, hC, hFx.perm pm, by rw [List.length_append]; show gs.length + 1 ≤ 1000; omega, fun H21 ro2 us2 s21 hR21 => ?_⟩
      rw [settle_congr hFx pm] at hR21
      refine ⟨ro2, rfl, ⟨_, hR21.seq⟩, fun A2 nA2 => ?_⟩
      have hrl2 : (settle ((newer, bears) :: gs)).length ≤ 61 := Nat.le_trans (settleL_len _) (by rw [byAge_length]; show gs.length + 1 ≤ 61; omega)
      refine lc_it (walk_list (xs := us2.map V.ref)) (fun i H2 => Same H21 H2 ∧ H2 A2 = some (.lst ((lens ((settle ((newer, bears) :: gs)).take i)).map V.int))) ⟨same_new nA2, upd_same⟩ (fun i H2 _ hW => ?_) (fun i x H2 H3 hi hW hY => ?_) (fun H22 hW => ?_)
      · exact (hR21.same hW.1).seq
      · obtain ⟨sm, hD⟩ := hW
        obtain ⟨rfl, hx⟩ := hY
        obtain ⟨t, r, rfl, _, er, et⟩ := (hR21.same sm).get hx
        refine ⟨rfl, .ref t, rfl, t, _, rfl, .inl (SqL.of et), _, hD, ils (by rw [List.length_map, lens_length, List.length_take]; omega), Same.mut sm nA2, ?_⟩
        rw [upd_same, take_snoc er]
        show _ = some (HO.lst (((((settle ((newer, bears) :: gs)).take i) ++ [r]).map fun r => (r.length : Int)).map V.int))
        rw [List.map_append, List.map_append]
        show some (HO.lst (_ ++ [V.int ((List.map V.int r).length : Int)])) = _
        rw [List.length_map]
        rfl
      obtain ⟨s22, eA2⟩ := hW
      rw [List.length_map, hR21.len, take_full] at eA2
      have hL' : lens (settle ((newer, bears) :: gs)) = bump (lens (settle gs)) d := hL
      have hd' : d ≤ (lens (settle gs)).length := by rw [lens_length]; exact hd
      have hLl : (lens (settle gs)).length ≤ 60 := by rw [lens_length]; exact hrl
      rw [hL'] at eA2
      have s1822 : Same H18 H22 := Same.trans s20 (Same.trans s21 s22)
      have eA22 := s1822 _ _ eA
      have kp22 : Kp (Off b g) H6 H22 := kp16.trans (.of (Same.trans s1618 s1822))
      have T22 := T16.keep (Same.trans s1618 s1822)
      -- unlike
      refine ⟨.ref A2, rfl, A2, _, rfl, .inl (SqL.of eA2), _, rfl, by omega, ?_, fun U nU => ?_⟩
      · rw [List.length_map, bump_length]
        split <;> omega
      have hq1 := hd
      revert eA22 eA2 hd' hLl
      generalize hLe : lens (settle gs) = L
      intro eA2 hd' hLl eA22
      have hbl : (bump L d).length ≤ 61 := by
        rw [bump_length]
        split <;> omega
      have hdb : d < (bump L d).length := by
        rw [bump_length]
        split <;> omega
      refine lc_it walk_range (fun i H2 => Same H22 H2 ∧ H2 U = some (.lst (if d < i then [V.int (d : Int)] else []))) ⟨same_new nU, upd_same⟩ (fun _ _ _ _ => trivial) (fun k x H2 H3 hi hW hY => ?_) (fun H23 hW => ?_)
      · obtain ⟨sm, hU⟩ := hW
        obtain ⟨rfl, hx⟩ := hY
        have hx2 : x = V.int (k : Int) := by
          rw [hx]
          show V.int (0 + (k : Int)) = _
          rw [Int.zero_add]
        clear hx
        subst hx2
        have hk : k < (bump L d).length := by
          rw [List.length_map] at hi
          omega
        refine ⟨rfl, .ref A, rfl, .int (k : Int), rfl, _, rfl, .int (k : Int), rfl, _, _, rfl, rfl, _, rfl, A, _, rfl, SqL.of (sm _ _ eA22), fun c1 n1 => ?_⟩
        have s1 := same_new (o := .lst (cutV (L.map V.int) (some (k : Int)) (some ((k : Int) + 1)))) n1
        refine ⟨.ref A2, rfl, .int (k : Int), rfl, _, rfl, .int (k : Int), rfl, _, _, rfl, rfl, _, rfl, A2, _, rfl, SqL.of (s1 _ _ (sm _ _ eA2)), fun c2 n2 => ?_⟩
        have s2 := same_new (o := .lst (cutV ((bump L d).map V.int) (some (k : Int)) (some ((k : Int) + 1)))) n2
        have e1 := s2 _ _ (upd_same (H := H3) (a := c1) (o := .lst (cutV (L.map V.int) (some (k : Int)) (some ((k : Int) + 1)))))
        rw [cut_at, ← List.map_drop, ← List.map_take] at e1
        have e2 : upd (upd H3 c1 (.lst (cutV (L.map V.int) (some (k : Int)) (some ((k : Int) + 1))))) c2 (.lst (cutV ((bump L d).map V.int) (some (k : Int)) (some ((k : Int) + 1)))) c2 = some (.lst ((((bump L d).drop k).take 1).map V.int)) := by
          rw [upd_same, cut_at, ← List.map_drop, ← List.map_take]
        have hU2 := s2 _ _ (s1 _ _ hU)
        have sm2 : Same H22 (upd (upd H3 c1 (.lst (cutV (L.map V.int) (some (k : Int)) (some ((k : Int) + 1))))) c2 (.lst (cutV ((bump L d).map V.int) (some (k : Int)) (some ((k : Int) + 1))))) := Same.trans sm (Same.trans s1 s2)
        refine ⟨dInts ((L.drop k).take 1), dInts (((bump L d).drop k).take 1), Dp.ints (by rw [List.map_take, List.map_drop, ← cut_at]; rw [List.map_take, List.map_drop, ← cut_at] at e1; exact e1), Dp.ints e2, (Oks.ints _).shaped, (Oks.ints _).shaped, _, rfl, ?_⟩
        rw [eqv_ints, drop_take1, drop_take1, bump_at L hd' hk]
        by_cases hkd : k = d
        · subst hkd
          rw [if_pos rfl]
          have hne : L[k]?.toList ≠ (some (L.getD k 0 + 1)).toList := by
            rw [List.getD_eq_getElem?_getD]
            cases L[k]? with
            | none => simp
            | some y =>
              show [y] ≠ [y + 1]
              intro z
              have := (List.cons.inj z).1
              omega
          rw [decide_eq_false hne]
          refine iteT ?_
          refine ⟨_, rfl, _, hU2, ils (by split <;> simp), Same.mut sm2 nU, ?_⟩
          rw [upd_same, if_neg (Nat.lt_irrefl _), if_pos (Nat.lt_succ_self _)]
          rfl
        · rw [if_neg hkd, Int.add_zero]
          have hkl : k < L.length := by
            rw [bump_length] at hk
            split at hk <;> omega
          have heq : L[k]?.toList = (some (L.getD k 0)).toList := by
            rw [List.getD_eq_getElem?_getD, List.getElem?_eq_getElem hkl]
            rfl
          rw [heq, decide_eq_true rfl]
          refine iteF ⟨sm2, ?_⟩
          rw [hU2]
          by_cases h1 : d < k
          · rw [if_pos h1, if_pos (by omega)]
          · rw [if_neg h1, if_neg (by omega)]
      obtain ⟨s23, eU⟩ := hW
      rw [List.length_map, show ((bump L d).length : Int).toNat = (bump L d).length by omega, if_pos hdb] at eU
      have kp23 : Kp (Off b g) H6 H23 := kp22.trans (.of s23)
      have T23 := T22.keep s23
      -- if len(unlike) != 1 or ..
      have fU : ∀ {H' : Hp}, Same H23 H' → SqL K H' U [V.int (d : Int)] := fun k => SqL.of (k _ _ eU)
      refine ⟨.ref U, rfl, U, _, rfl, .inl (fU (Same.refl _)), rfl, _, rfl, iteX (nd_self _) ?_⟩
      refine ⟨.ref A2, rfl, .ref U, rfl, U, _, 0, .int (d : Int), rfl, rfl, fU (Same.refl _), atI_nat (j := 0) rfl, A2, _, _, .int (L.getD d 0 + 1), rfl, rfl, SqL.of (s23 _ _ eA2), atI_nat (j := d) (by rw [List.getElem?_map, bump_at L hd' hdb, if_pos rfl]; rfl), ?_⟩
      refine ⟨.ref A, rfl, (by show 1 ≤ sizeLine; decide), fun z1 nz1 => ?_⟩
      refine ⟨A, z1, _, _, rfl, rfl, (same_new nz1) _ _ (s23 _ _ eA22), upd_same, ile (by rw [List.length_map]; show L.length + 1 ≤ 100000; omega), fun c4 nc4 => ?_⟩
      have s24 : Same H23 (upd (upd H23 z1 (.lst [.int 0])) c4 (.lst (L.map V.int ++ [.int 0]))) := Same.trans (same_new nz1) (same_new nc4)
      have egd : (L.map V.int ++ [V.int 0])[d]? = some (.int (L.getD d 0)) := by
        by_cases h : d < L.length
        · rw [List.getElem?_append_left (by rw [List.length_map]; exact h), List.getElem?_map, List.getElem?_eq_getElem h, List.getD_eq_getElem?_getD, List.getElem?_eq_getElem h]
          rfl
        · have h' : d = L.length := by omega
          subst h'
          rw [List.getElem?_append_right (by rw [List.length_map]; exact Nat.le_refl _), List.length_map, Nat.sub_self, List.getD_eq_getElem?_getD, List.getElem?_eq_none (Nat.le_refl _)]
          rfl
      refine ⟨.ref U, rfl, U, _, 0, .int (d : Int), rfl, rfl, fU s24, atI_nat (j := 0) rfl, c4, _, _, .int (L.getD d 0), rfl, rfl, SqL.of upd_same, atI_nat (j := d) egd, _, _, rfl, rfl, rfl, _, rfl, iteX (nd_self _) ?_⟩
      have kp24 : Kp (Off b g) H6 (upd (upd H23 z1 (.lst [.int 0])) c4 (.lst (L.map V.int ++ [.int 0]))) := kp23.trans (.of s24)
      have T24 := T23.keep s24
      revert s24 kp24 T24
      generalize upd (upd H23 z1 (.lst [.int 0])) c4 (.lst (L.map V.int ++ [.int 0])) = H24
      intro s24 kp24 T24
      -- handed = list(folk)
      have hG24 := hG6.keep kp24
      refine ⟨.ref o, rfl, o, _, rfl, .inl hG24.seq, fun hd nhd => ?_⟩
      have s25 : Same H24 (upd H24 hd (.lst (ts.map V.ref))) := same_new nhd
      have hG25 := hG24.same s25
      have hH25 : GsAt (upd H24 hd (.lst (ts.map V.ref))) (fun _ => True) hd ts gs := ⟨upd_same, trivial, hG25.len, hG25.at', fun _ _ => trivial⟩
      have s2325 := Same.trans s24 s25
      have kp25 : Kp (Off b g) H6 (upd H24 hd (.lst (ts.map V.ref))) := kp24.trans (.of s25)
      have T25 := T24.keep s25
      revert hG25 hH25 s2325 kp25 T25
      generalize upd H24 hd (.lst (ts.map V.ref)) = H25
      intro hG25 hH25 s2325 kp25 T25
      have hLq : lens (settle ((newer, bears) :: gs)) = bump (lens (settle gs)) d := hL
      refine ⟨.ref hd, rfl, .int newer, rfl, .int bears, rfl, _, hd, ts, gs, (newer, bears), d, rfl, hH25, hFx, by omega, hq1, hLq, fun H26 s26 => ?_⟩
      have hlog : ((d : Int)).natAbs.log2 < 1920 := by
        rw [Int.natAbs_natCast]
        refine Nat.lt_of_le_of_lt (Nat.log2_le_self _) ?_
        omega
      refine ⟨_, rfl, hlog, ?_⟩
      refine ⟨.ref U, rfl, U, _, 0, .int (d : Int), rfl, rfl, fU (Same.trans s2325 s26), atI_nat (j := 0) rfl, _, rfl, hlog, rfl, _, rfl, iteX (nd_self _) ?_⟩
      refine ⟨.ref hd, rfl, .ref o, rfl, dGs gs, dGs gs, (hH25.same s26).dp, (hG25.same s26).dp, (Oks.gs _).shaped, (Oks.gs _).shaped, _, rfl, iteX (by rw [(Oks.gs gs).eqv]; rfl) ?_⟩
      -- by names
      refine ⟨.int bears, rfl, .ref hd, rfl, .int newer, rfl, rfl, _, hd, ts, gs, (newer, bears), d, rfl, hH25.same s26, hFx, by omega, hq1, hLq, fun H27 s27 => ?_⟩
      refine ⟨.ref U, rfl, U, _, 0, .int (d : Int), rfl, rfl, fU (Same.trans s2325 (Same.trans s26 s27)), atI_nat (j := 0) rfl, rfl, _, rfl, iteX (nd_self _) ?_⟩
      exact ⟨_, _, _, _, _, _, _, _, rfl, kp25.trans (.of (Same.trans s26 s27)), ((T25.keep s26).keep s27).more (by omega)⟩
    · obtain ⟨y5, y6, y7, y8, y9, y10, y11, y12, rfl, kp, T7⟩ := hW
      exact ⟨_, _, _, _, _, _, _, _, _, _, _, _, _, _, rfl, T7.more (by show 100000 * i + 600 + 100 * 4 ≤ _; omega)⟩
end
end El
namespace El
open PySem PySem.Spec PyProof.Rows L2
theorem all_mk {l : PySem.W.OpenLaw} {w : World} {K : PySem.W.Frag} {h : Heap} {mg : Str → Option Value} {fa f1 f2 f3 f4 f5 f6 f7 f8 f9 f10 f11 : Addr} (X : K.In h) (G : h.Ns mainGlobals mg) (hfa : mg "law" = some (.ref fa))
    {od1 an1 od2 an2 od3 an3 od4 an4 od5 an5 od6 an6 od7 an7 od8 an8 od9 an9 od10 an10 od11 an11 : Option Addr} {sl1 sl2 sl3 sl4 sl5 sl6 sl7 sl8 sl9 sl10 sl11 : Array (Option Value)} {oc1 kV1 dc1 pm1 cd1 ct1 oc2 kV2 dc2 pm2 cd2 ct2 oc3 kV3 dc3 pm3 cd3 ct3 oc4 kV4 dc4 pm4 cd4 ct4 oc5 kV5 dc5 pm5 cd5 ct5 oc6 kV6 dc6 pm6 cd6 ct6 oc7 kV7 dc7 pm7 cd7 ct7 oc8 kV8 dc8 pm8 cd8 ct8 oc9 kV9 dc9 pm9 cd9 ct9 oc10 kV10 dc10 pm10 cd10 ct10 oc11 kV11 dc11 pm11 cd11 ct11 : Value}
    (a1 : PySem.W.nsIn K mainGlobals "patience_by_age" = some (some (.ref f1))) (l1 : K.lookup f1 = some ⟨oc1, od1, .func (PySem.W.fnOf "patience_by_age" "patience_by_age" (defArgs s_patience_by_age) (defBody s_patience_by_age) (defScope s_patience_by_age) .none kV1 dc1 pm1 an1 cd1 ct1), sl1⟩) (c1 : PySem.W.codeIn K cd1 "patience_by_age" = true) (k1 : PySem.W.keepIn K (.ref f1) = true)
    (a2 : PySem.W.nsIn K mainGlobals "first_borne" = some (some (.ref f2))) (l2 : K.lookup f2 = some ⟨oc2, od2, .func (PySem.W.fnOf "first_borne" "first_borne" (defArgs s_first_borne) (defBody s_first_borne) (defScope s_first_borne) .none kV2 dc2 pm2 an2 cd2 ct2), sl2⟩) (c2 : PySem.W.codeIn K cd2 "first_borne" = true) (k2 : PySem.W.keepIn K (.ref f2) = true)
    (a3 : PySem.W.nsIn K mainGlobals "rooms" = some (some (.ref f3))) (l3 : K.lookup f3 = some ⟨oc3, od3, .func (PySem.W.fnOf "rooms" "rooms" (defArgs s_rooms) (defBody s_rooms) (defScope s_rooms) .none kV3 dc3 pm3 an3 cd3 ct3), sl3⟩) (c3 : PySem.W.codeIn K cd3 "rooms" = true) (k3 : PySem.W.keepIn K (.ref f3) = true)
    (a4 : PySem.W.nsIn K mainGlobals "sizes" = some (some (.ref f4))) (l4 : K.lookup f4 = some ⟨oc4, od4, .func (PySem.W.fnOf "sizes" "sizes" (defArgs s_sizes) (defBody s_sizes) (defScope s_sizes) .none kV4 dc4 pm4 an4 cd4 ct4), sl4⟩) (c4 : PySem.W.codeIn K cd4 "sizes" = true) (k4 : PySem.W.keepIn K (.ref f4) = true)
    (a5 : PySem.W.nsIn K mainGlobals "check_newcomer" = some (some (.ref f5))) (l5 : K.lookup f5 = some ⟨oc5, od5, .func (PySem.W.fnOf "check_newcomer" "check_newcomer" (defArgs s_check_newcomer) (defBody s_check_newcomer) (defScope s_check_newcomer) .none kV5 dc5 pm5 an5 cd5 ct5), sl5⟩) (c5 : PySem.W.codeIn K cd5 "check_newcomer" = true) (k5 : PySem.W.keepIn K (.ref f5) = true)
    (a6 : PySem.W.nsIn K mainGlobals "one_more" = some (some (.ref f6))) (l6 : K.lookup f6 = some ⟨oc6, od6, .func (PySem.W.fnOf "one_more" "one_more" (defArgs s_one_more) (defBody s_one_more) (defScope s_one_more) .none kV6 dc6 pm6 an6 cd6 ct6), sl6⟩) (c6 : PySem.W.codeIn K cd6 "one_more" = true) (k6 : PySem.W.keepIn K (.ref f6) = true)
    (a7 : PySem.W.nsIn K mainGlobals "_law_bag" = some (some (.ref f7))) (l7 : K.lookup f7 = some ⟨oc7, od7, .func (PySem.W.fnOf "_law_bag" "_law_bag" (defArgs s__law_bag) (defBody s__law_bag) (defScope s__law_bag) .none kV7 dc7 pm7 an7 cd7 ct7), sl7⟩) (c7 : PySem.W.codeIn K cd7 "_law_bag" = true) (k7 : PySem.W.keepIn K (.ref f7) = true)
    (a8 : PySem.W.nsIn K mainGlobals "_law_draw" = some (some (.ref f8))) (l8 : K.lookup f8 = some ⟨oc8, od8, .func (PySem.W.fnOf "_law_draw" "_law_draw" (defArgs s__law_draw) (defBody s__law_draw) (defScope s__law_draw) .none kV8 dc8 pm8 an8 cd8 ct8), sl8⟩) (c8 : PySem.W.codeIn K cd8 "_law_draw" = true) (k8 : PySem.W.keepIn K (.ref f8) = true)
    (a9 : PySem.W.nsIn K mainGlobals "_law_guests" = some (some (.ref f9))) (l9 : K.lookup f9 = some ⟨oc9, od9, .func (PySem.W.fnOf "_law_guests" "_law_guests" (defArgs s__law_guests) (defBody s__law_guests) (defScope s__law_guests) .none kV9 dc9 pm9 an9 cd9 ct9), sl9⟩) (c9 : PySem.W.codeIn K cd9 "_law_guests" = true) (k9 : PySem.W.keepIn K (.ref f9) = true)
    (a10 : PySem.W.nsIn K mainGlobals "_law_by_age" = some (some (.ref f10))) (l10 : K.lookup f10 = some ⟨oc10, od10, .func (PySem.W.fnOf "_law_by_age" "_law_by_age" (defArgs s__law_by_age) (defBody s__law_by_age) (defScope s__law_by_age) .none kV10 dc10 pm10 an10 cd10 ct10), sl10⟩) (c10 : PySem.W.codeIn K cd10 "_law_by_age" = true) (k10 : PySem.W.keepIn K (.ref f10) = true)
    (a11 : PySem.W.nsIn K mainGlobals "law" = some (some (.ref f11))) (l11 : K.lookup f11 = some ⟨oc11, od11, .func (PySem.W.fnOf "law" "law" (defArgs s_law) (defBody s_law) (defScope s_law) .none kV11 dc11 pm11 an11 cd11 ct11), sl11⟩) (c11 : PySem.W.codeIn K cd11 "law" = true) (k11 : PySem.W.keepIn K (.ref f11) = true)
    (z1 : PySem.W.nsIn K mainGlobals "len" = some none) (z2 : PySem.W.nsIn K mainGlobals "range" = some none) (z3 : PySem.W.nsIn K mainGlobals "enumerate" = some none) (z4 : PySem.W.nsIn K mainGlobals "sorted" = some none) (z5 : PySem.W.nsIn K mainGlobals "sum" = some none) (z6 : PySem.W.nsIn K mainGlobals "min" = some none) (z7 : PySem.W.nsIn K mainGlobals "max" = some none) (z8 : PySem.W.nsIn K mainGlobals "isinstance" = some none) (z9 : PySem.W.nsIn K mainGlobals "zip" = some none) (z10 : PySem.W.nsIn K mainGlobals "list" = some none) (z11 : PySem.W.nsIn K mainGlobals "tuple" = some none) (z12 : PySem.W.nsIn K mainGlobals "int" = some none) (z13 : PySem.W.nsIn K mainGlobals "bool" = some none) (z14 : PySem.W.nsIn K mainGlobals "str" = some none) (z15 : PySem.W.nsIn K mainGlobals "abs" = some none) (z16 : PySem.W.nsIn K mainGlobals "repr" = some none) (z17 : PySem.W.nsIn K mainGlobals "dict" = some none) (z18 : PySem.W.nsIn K mainGlobals "any" = some none) (z19 : PySem.W.nsIn K mainGlobals "all" = some none) (z20 : PySem.W.nsIn K mainGlobals "set" = some none) (z21 : PySem.W.nsIn K mainGlobals "reversed" = some none) (z22 : PySem.W.nsIn K mainGlobals "ValueError" = some none) (z23 : PySem.W.nsIn K mainGlobals "divmod" = some none) :
    ∃ fd : FuncData, (∀ (s : Shared) (v : Value), BindsTo s fd ⟨[v], []⟩ [("script", v)]) ∧ ∀ base : Heap, K.In base → base.Ns mainGlobals mg → FnOk l.prog w K mg base CX0 5 fa fd ["script"] (sp_law K) := by
  obtain rfl : f11 = fa := by
    have e := (PySem.W.mg_of X G a11).symm.trans hfa
    injection e with e
    injection e
  have B : Bi mg := ⟨PySem.W.mg_none_of X G z1, PySem.W.mg_none_of X G z2, PySem.W.mg_none_of X G z3, PySem.W.mg_none_of X G z4, PySem.W.mg_none_of X G z5, PySem.W.mg_none_of X G z6, PySem.W.mg_none_of X G z7, PySem.W.mg_none_of X G z8, PySem.W.mg_none_of X G z9, PySem.W.mg_none_of X G z10, PySem.W.mg_none_of X G z11, PySem.W.mg_none_of X G z12, PySem.W.mg_none_of X G z13, PySem.W.mg_none_of X G z14, PySem.W.mg_none_of X G z15, PySem.W.mg_none_of X G z16, PySem.W.mg_none_of X G z17, PySem.W.mg_none_of X G z18, PySem.W.mg_none_of X G z19, PySem.W.mg_none_of X G z20, PySem.W.mg_none_of X G z21, PySem.W.mg_none_of X G z22, PySem.W.mg_none_of X G z23⟩
  have A1 : At K mg "patience_by_age" P_patience_by_age s_patience_by_age := .mk' X G a1 l1 c1 k1 fun _ _ _ _ _ _ us hl => match us, hl with | [_], _ => rfl
  have A2 : At K mg "first_borne" P_first_borne s_first_borne := .mk' X G a2 l2 c2 k2 fun _ _ _ _ _ _ us hl => match us, hl with | [_, _], _ => rfl
  have A3 : At K mg "rooms" P_rooms s_rooms := .mk' X G a3 l3 c3 k3 fun _ _ _ _ _ _ us hl => match us, hl with | [_], _ => rfl
  have A4 : At K mg "sizes" P_sizes s_sizes := .mk' X G a4 l4 c4 k4 fun _ _ _ _ _ _ us hl => match us, hl with | [_], _ => rfl
  have A5 : At K mg "check_newcomer" P_check_newcomer s_check_newcomer := .mk' X G a5 l5 c5 k5 fun _ _ _ _ _ _ us hl => match us, hl with | [_, _, _], _ => rfl
  have A6 : At K mg "one_more" P_one_more s_one_more := .mk' X G a6 l6 c6 k6 fun _ _ _ _ _ _ us hl => match us, hl with | [_, _, _], _ => rfl
  have A7 : At K mg "_law_bag" P__law_bag s__law_bag := .mk' X G a7 l7 c7 k7 fun _ _ _ _ _ _ us hl => match us, hl with | [_], _ => rfl
  have A8 : At K mg "_law_draw" P__law_draw s__law_draw := .mk' X G a8 l8 c8 k8 fun _ _ _ _ _ _ us hl => match us, hl with | [_, _], _ => rfl
  have A9 : At K mg "_law_guests" P__law_guests s__law_guests := .mk' X G a9 l9 c9 k9 fun _ _ _ _ _ _ us hl => match us, hl with | [_, _], _ => rfl
  have A10 : At K mg "_law_by_age" P__law_by_age s__law_by_age := .mk' X G a10 l10 c10 k10 fun _ _ _ _ _ _ us hl => match us, hl with | [_], _ => rfl
  have A11 : At K mg "law" P_law s_law := .mk' X G a11 l11 c11 k11 fun _ _ _ _ _ _ us hl => match us, hl with | [_], _ => rfl
  refine ⟨PySem.W.fnOf "law" "law" (defArgs s_law) (defBody s_law) (defScope s_law) .none kV11 dc11 pm11 an11 cd11 ct11, fun s v => .of_eq rfl, fun base _ _ => ?_⟩
  have D_patience_by_age := ok_patience_by_age (P := l.prog) (w := w) (base := base) A1 B
  have D_first_borne := ok_first_borne (P := l.prog) (w := w) (base := base) A2 B
  have D_rooms := ok_rooms (P := l.prog) (w := w) (base := base) A3 B D_patience_by_age D_first_borne
  have D_sizes := ok_sizes (P := l.prog) (w := w) (base := base) A4 B D_rooms
  have D_check_newcomer := ok_check_newcomer (P := l.prog) (w := w) (base := base) A5 
  have D_one_more := ok_one_more (P := l.prog) (w := w) (base := base) A6 B D_patience_by_age D_check_newcomer D_sizes
  have D__law_bag := ok__law_bag (P := l.prog) (w := w) (base := base) A7 B
  have D__law_draw := ok__law_draw (P := l.prog) (w := w) (base := base) A8 B
  have D__law_guests := ok__law_guests (P := l.prog) (w := w) (base := base) A9 B D__law_draw
  have D__law_by_age := ok__law_by_age (P := l.prog) (w := w) (base := base) A10 B
  have D_law := ok_law (P := l.prog) (w := w) (base := base) A11 B D__law_bag D__law_draw D__law_guests D__law_by_age D_one_more
  exact D_law.at hfa l11
end El
open PySem PySem.W PyProof.Rows
set_option maxRecDepth 100000 in
set_option maxHeartbeats 0 in
theorem PySem.Challenge.cw_elderinn_k31_one_more_told_holds : PySem.Challenge.rw_elderinn_k31_one_more_told.Holds := by
  w_on; o_law; k_head; (case hw => w_witness2)
  k_fill
  refine L2.walk_of (l := PySem.Challenge.rw_elderinn_k31_one_more_told) (n := 63) (k := 5) (x := "script") (CX := fun _ => L2.CX0) (sp := fun w => El.sp_law _) rfl (by decide) rfl ⟨rfl, by decide, by decide⟩ (fun w h Y => PySem.W.kIn_of Y) ?F (fun _ _ a ns hl _ hS => ⟨a, ns, rfl, hS, hl, fun _ => rfl⟩) (fun _ _ _ _ _ h => h)
  case F =>
    intro w mg fa h KX G hmg
    refine' El.all_mk KX G hmg ?a1 ?l1 ?c1 ?k1 ?a2 ?l2 ?c2 ?k2 ?a3 ?l3 ?c3 ?k3 ?a4 ?l4 ?c4 ?k4 ?a5 ?l5 ?c5 ?k5 ?a6 ?l6 ?c6 ?k6 ?a7 ?l7 ?c7 ?k7 ?a8 ?l8 ?c8 ?k8 ?a9 ?l9 ?c9 ?k9 ?a10 ?l10 ?c10 ?k10 ?a11 ?l11 ?c11 ?k11 ?z1 ?z2 ?z3 ?z4 ?z5 ?z6 ?z7 ?z8 ?z9 ?z10 ?z11 ?z12 ?z13 ?z14 ?z15 ?z16 ?z17 ?z18 ?z19 ?z20 ?z21 ?z22 ?z23
    (case a1 => k_is)
    (case l1 => k_is)
    (case c1 => k_is)
    (case k1 => k_is)
    (case a2 => k_is)
    (case l2 => k_is)
    (case c2 => k_is)
    (case k2 => k_is)
    (case a3 => k_is)
    (case l3 => k_is)
    (case c3 => k_is)
    (case k3 => k_is)
    (case a4 => k_is)
    (case l4 => k_is)
    (case c4 => k_is)
    (case k4 => k_is)
    (case a5 => k_is)
    (case l5 => k_is)
    (case c5 => k_is)
    (case k5 => k_is)
    (case a6 => k_is)
    (case l6 => k_is)
    (case c6 => k_is)
    (case k6 => k_is)
    (case a7 => k_is)
    (case l7 => k_is)
    (case c7 => k_is)
    (case k7 => k_is)
    (case a8 => k_is)
    (case l8 => k_is)
    (case c8 => k_is)
    (case k8 => k_is)
    (case a9 => k_is)
    (case l9 => k_is)
    (case c9 => k_is)
    (case k9 => k_is)
    (case a10 => k_is)
    (case l10 => k_is)
    (case c10 => k_is)
    (case k10 => k_is)
    (case a11 => k_is)
    (case l11 => k_is)
    (case c11 => k_is)
    (case k11 => k_is)
    (case z1 => k_is)
    (case z2 => k_is)
    (case z3 => k_is)
    (case z4 => k_is)
    (case z5 => k_is)
    (case z6 => k_is)
    (case z7 => k_is)
    (case z8 => k_is)
    (case z9 => k_is)
    (case z10 => k_is)
    (case z11 => k_is)
    (case z12 => k_is)
    (case z13 => k_is)
    (case z14 => k_is)
    (case z15 => k_is)
    (case z16 => k_is)
    (case z17 => k_is)
    (case z18 => k_is)
    (case z19 => k_is)
    (case z20 => k_is)
    (case z21 => k_is)
    (case z22 => k_is)
    (case z23 => k_is)
