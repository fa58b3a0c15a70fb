import PyProof.Rows.All
import Wide.All
import OpenK.AllK
import Wide.FinOn
import HandS.ForMost
import HandS.ForExc
import HandS.Wide
import HandS.SortKw
import HandS.SortRule
import HandS.SortInts
import HandS.Style
import HandS.IsInst
import HandS.Conv
import HandS.Walk
import HandS.Flow
import HandS.More
import HandS.Defaults
import HandS.RaiseMore
import HandS.Remove
import HandS.Star
import HandS.Steps
import HandS.Strs
import HandS.SetFor
import KE.DatumOrd
import PySem.Challenge.RW_elderinn_k36_parting_told
set_option Elab.async false
set_option linter.all false
set_option maxRecDepth 100000
set_option maxHeartbeats 8000000
namespace El
/-! ### the rule by age, in plain lists -/
def place : List (List Int) → Int → Int → List (List Int)
  | [], a, _ => [[a]]
  | r :: rs, a, p => if (r.length : Int) ≤ p then (r ++ [a]) :: rs else r :: place rs a p
def firstB : List (List Int) → Int → Nat
  | [], _ => 0
  | r :: rs, p => if (r.length : Int) ≤ p then 0 else firstB rs p + 1
theorem firstB_le : ∀ (rs : List (List Int)) (p : Int), firstB rs p ≤ rs.length
  | [], _ => Nat.le_refl _
  | r :: rs, p => by
    unfold firstB
    split
    · exact Nat.zero_le _
    · exact Nat.succ_le_succ (firstB_le rs p)
theorem firstB_out : ∀ (rs : List (List Int)) (p : Int) (i : Nat) (r : List Int), i < firstB rs p → rs[i]? = some r → p < (r.length : Int)
  | [], _, _, _, h, _ => absurd h (Nat.not_lt_zero _)
  | s :: rs, p, i, r, h, e => by
    unfold firstB at h
    split at h
    · exact absurd h (Nat.not_lt_zero _)
    · rename_i hn
      cases i with
      | zero =>
        have e' : s = r := Option.some.inj e
        subst e'
        omega
      | succ i => exact firstB_out rs p i r (Nat.lt_of_succ_lt_succ h) (by simpa using e)
theorem firstB_in : ∀ (rs : List (List Int)) (p : Int), firstB rs p < rs.length → ∃ r, rs[firstB rs p]? = some r ∧ (r.length : Int) ≤ p
  | [], _, h => absurd h (Nat.not_lt_zero _)
  | s :: rs, p, h => by
    unfold firstB at h ⊢
    split
    · rename_i hn
      exact ⟨s, rfl, hn⟩
    · rename_i hn
      rw [if_neg hn] at h
      obtain ⟨r, e, q⟩ := firstB_in rs p (Nat.lt_of_succ_lt_succ h)
      exact ⟨r, by simpa using e, q⟩
theorem firstB_is : ∀ (rs : List (List Int)) (p : Int) (i : Nat), i ≤ rs.length → (∀ j r, j < i → rs[j]? = some r → p < (r.length : Int)) → (∀ r, rs[i]? = some r → (r.length : Int) ≤ p) → firstB rs p = i
  | [], _, i, h, _, _ => by
    have : i = 0 := Nat.le_zero.mp h
    subst this
    rfl
  | s :: rs, p, 0, _, _, h2 => by
    unfold firstB
    rw [if_pos (h2 s rfl)]
  | s :: rs, p, i + 1, h, h1, h2 => by
    have h0 := h1 0 s (Nat.succ_pos _) rfl
    unfold firstB
    rw [if_neg (by omega), firstB_is rs p i (Nat.le_of_succ_le_succ h) (fun j r hj e => h1 (j + 1) r (Nat.succ_lt_succ hj) (by simpa using e)) fun r e => h2 r (by simpa using e)]
theorem place_new : ∀ (rs : List (List Int)) (a p : Int), firstB rs p = rs.length → place rs a p = rs ++ [[a]]
  | [], _, _, _ => rfl
  | r :: rs, a, p, h => by
    unfold firstB at h
    unfold place
    split at h
    · exact absurd h (by rw [List.length_cons]; omega)
    · rename_i hn
      rw [if_neg hn, place_new rs a p (by rw [List.length_cons] at h; omega)]
      rfl
theorem place_at : ∀ (rs : List (List Int)) (a p : Int) (r : List Int), rs[firstB rs p]? = some r → place rs a p = rs.set (firstB rs p) (r ++ [a])
  | [], _, _, _, h => by simp at h
  | s :: rs, a, p, r, h => by
    unfold firstB at h ⊢
    unfold place
    split
    · rename_i hn
      rw [if_pos hn] at h
      have e : s = r := Option.some.inj h
      subst e
      rfl
    · rename_i hn
      rw [if_neg hn] at h
      rw [place_at rs a p r (by simpa using h)]
      rfl
theorem place_len (rs : List (List Int)) (a p : Int) : (place rs a p).length = if firstB rs p = rs.length then rs.length + 1 else rs.length := by
  by_cases h : firstB rs p = rs.length
  · rw [if_pos h, place_new rs a p h, List.length_append]
    rfl
  · have hl := firstB_le rs p
    obtain ⟨r, e, _⟩ := firstB_in rs p (by omega)
    rw [if_neg h, place_at rs a p r e, List.length_set]
/-- all in order -/
def settleL (gs : List (Int × Int)) : List (List Int) := gs.foldl (fun rs g => place rs g.1 g.2) []
theorem settleL_snoc (gs : List (Int × Int)) (g : Int × Int) : settleL (gs ++ [g]) = place (settleL gs) g.1 g.2 := by
  unfold settleL
  rw [List.foldl_append]
  rfl
theorem settleL_take {gs : List (Int × Int)} {i : Nat} {g : Int × Int} (h : gs[i]? = some g) : settleL (gs.take (i + 1)) = place (settleL (gs.take i)) g.1 g.2 := by
  rw [List.take_add_one, h]
  exact settleL_snoc _ _
theorem place_count (rs : List (List Int)) (a p : Int) : (place rs a p).flatten.length = rs.flatten.length + 1 := by
  induction rs with
  | nil => rfl
  | cons r rs ih =>
    unfold place
    split
    · simp only [List.flatten_cons, List.length_append, List.length_cons, List.length_nil]
      omega
    · simp only [List.flatten_cons, List.length_append]
      omega
theorem settleL_count (gs : List (Int × Int)) : (settleL gs).flatten.length = gs.length := by
  suffices h : ∀ (gs : List (Int × Int)) (rs : List (List Int)), (gs.foldl (fun rs g => place rs g.1 g.2) rs).flatten.length = rs.flatten.length + gs.length by
    have q := h gs []
    rw [List.flatten_nil, List.length_nil, Nat.zero_add] at q
    exact q
  intro gs
  induction gs with
  | nil => intro rs; rfl
  | cons g gs ih =>
    intro rs
    rw [List.foldl_cons, ih, place_count, List.length_cons]
    omega
theorem place_ne (rs : List (List Int)) (a p : Int) (h : ∀ r ∈ rs, r ≠ []) : ∀ r ∈ place rs a p, r ≠ [] := by
  induction rs with
  | nil =>
    intro r hr
    rw [List.mem_singleton.mp hr]
    exact List.cons_ne_nil _ _
  | cons s rs ih =>
    unfold place
    split
    · intro r hr
      rcases List.mem_cons.mp hr with e | hr
      · rw [e]
        simp
      · exact h r (List.mem_cons_of_mem _ hr)
    · intro r hr
      rcases List.mem_cons.mp hr with e | hr
      · rw [e]
        exact h s List.mem_cons_self
      · exact ih (fun r hr => h r (List.mem_cons_of_mem _ hr)) r hr
theorem settleL_ne (gs : List (Int × Int)) : ∀ r ∈ settleL gs, r ≠ [] := by
  suffices h : ∀ (gs : List (Int × Int)) (rs : List (List Int)), (∀ r ∈ rs, r ≠ []) → ∀ r ∈ gs.foldl (fun rs g => place rs g.1 g.2) rs, r ≠ [] from h gs [] (fun r hr => absurd hr (by simp))
  intro gs
  induction gs with
  | nil => intro rs h; exact h
  | cons g gs ih =>
    intro rs h
    rw [List.foldl_cons]
    exact ih _ (place_ne rs _ _ h)
theorem len_le_flat : ∀ (rs : List (List Int)), (∀ r ∈ rs, r ≠ []) → rs.length ≤ rs.flatten.length
  | [], _ => Nat.le_refl _
  | r :: rs, h => by
    have h1 := h r List.mem_cons_self
    have h2 := len_le_flat rs fun r hr => h r (List.mem_cons_of_mem _ hr)
    have h3 : 0 < r.length := List.length_pos_iff.mpr h1
    rw [List.flatten_cons, List.length_append, List.length_cons]
    omega
theorem room_le_flat : ∀ (rs : List (List Int)) (r : List Int), r ∈ rs → r.length ≤ rs.flatten.length
  | s :: rs, r, h => by
    rw [List.flatten_cons, List.length_append]
    rcases List.mem_cons.mp h with e | h
    · rw [e]
      omega
    · have := room_le_flat rs r h
      omega
theorem settleL_len (gs : List (Int × Int)) : (settleL gs).length ≤ gs.length := by
  rw [← settleL_count gs]
  exact len_le_flat _ (settleL_ne gs)
theorem settleL_room {gs : List (Int × Int)} {r : List Int} (h : r ∈ settleL gs) : r.length ≤ gs.length := by
  rw [← settleL_count gs]
  exact room_le_flat _ _ h
/-- sizes never rise -/
def Falls (rs : List (List Int)) : Prop := rs.Pairwise fun r s => s.length ≤ r.length
theorem place_mem {rs : List (List Int)} {a p : Int} {r : List Int} (h : r ∈ place rs a p) : r ∈ rs ∨ (∃ s ∈ rs, r = s ++ [a] ∧ (s.length : Int) ≤ p) ∨ r = [a] := by
  induction rs with
  | nil => exact .inr (.inr (List.mem_singleton.mp h))
  | cons s rs ih =>
    unfold place at h
    split at h
    · rename_i hn
      rcases List.mem_cons.mp h with e | h
      · exact .inr (.inl ⟨s, List.mem_cons_self, e, hn⟩)
      · exact .inl (List.mem_cons_of_mem _ h)
    · rcases List.mem_cons.mp h with e | h
      · rw [e]
        exact .inl List.mem_cons_self
      · rcases ih h with q | ⟨t, ht, q⟩ | q
        · exact .inl (List.mem_cons_of_mem _ q)
        · exact .inr (.inl ⟨t, List.mem_cons_of_mem _ ht, q⟩)
        · exact .inr (.inr q)
theorem place_falls (rs : List (List Int)) (a p : Int) (hp : 0 ≤ p) (h : Falls rs) : Falls (place rs a p) := by
  induction rs with
  | nil => exact List.pairwise_singleton _ _
  | cons s rs ih =>
    obtain ⟨h1, h2⟩ := List.pairwise_cons.mp h
    unfold place
    split
    · refine List.pairwise_cons.mpr ⟨fun r hr => ?_, h2⟩
      have := h1 r hr
      rw [List.length_append]
      omega
    · rename_i hn
      refine List.pairwise_cons.mpr ⟨fun r hr => ?_, ih h2⟩
      rcases place_mem hr with q | ⟨t, ht, q, q2⟩ | q
      · exact h1 r q
      · rw [q, List.length_append, List.length_singleton]
        omega
      · rw [q, List.length_singleton]
        omega
theorem settleL_falls (gs : List (Int × Int)) (h : ∀ g ∈ gs, 0 ≤ g.2) : Falls (settleL gs) := by
  suffices q : ∀ (gs : List (Int × Int)) (rs : List (List Int)), (∀ g ∈ gs, 0 ≤ g.2) → Falls rs → Falls (gs.foldl (fun rs g => place rs g.1 g.2) rs) from q gs [] h List.Pairwise.nil
  intro gs
  induction gs with
  | nil => intro rs _ hr; exact hr
  | cons g gs ih =>
    intro rs hg hr
    rw [List.foldl_cons]
    exact ih _ (fun x hx => hg x (List.mem_cons_of_mem _ hx)) (place_falls rs _ _ (hg g List.mem_cons_self) hr)
/-! ### from the eldest on -/
def byAge (gs : List (Int × Int)) : List (Int × Int) := gs.mergeSort fun g h => decide (h.1 ≤ g.1)
theorem byAge_perm (gs : List (Int × Int)) : (byAge gs).Perm gs := List.mergeSort_perm _ _
theorem byAge_sorted (gs : List (Int × Int)) : (byAge gs).Pairwise fun g h => h.1 ≤ g.1 := by
  have q := List.pairwise_mergeSort (le := fun (g h : Int × Int) => decide (h.1 ≤ g.1)) (fun a b c h1 h2 => by
    have h1 := of_decide_eq_true h1
    have h2 := of_decide_eq_true h2
    exact decide_eq_true (by omega)) (fun a b => by
    by_cases h : b.1 ≤ a.1
    · simp [h]
    · have : a.1 ≤ b.1 := by omega
      simp [this]) gs
  exact q.imp fun h => of_decide_eq_true h
theorem byAge_length (gs : List (Int × Int)) : (byAge gs).length = gs.length := (byAge_perm gs).length_eq
theorem sorted_uniq {α : Type} (k : α → Int) : ∀ {l m : List α}, l.Perm m → (l.map k).Nodup → l.Pairwise (fun g h => k h ≤ k g) → m.Pairwise (fun g h => k h ≤ k g) → l = m
  | [], m, p, _, _, _ => by rw [List.nil_perm.mp p]
  | x :: l, [], p, _, _, _ => absurd p.length_eq (by simp)
  | x :: l, y :: m, p, nd, h1, h2 => by
    have nd' : (k x :: l.map k).Nodup := nd
    obtain ⟨n1, n2⟩ := List.nodup_cons.mp nd'
    obtain ⟨a1, a2⟩ := List.pairwise_cons.mp h1
    obtain ⟨b1, b2⟩ := List.pairwise_cons.mp h2
    have e : x = y := by
      rcases List.mem_cons.mp (p.mem_iff.mp List.mem_cons_self) with e | hx
      · exact e
      · have hy : y ∈ x :: l := p.mem_iff.mpr List.mem_cons_self
        rcases List.mem_cons.mp hy with e | hy
        · exact e.symm
        · have c1 := b1 x hx
          have c2 := a1 y hy
          have c3 : k x = k y := by omega
          exact absurd (List.mem_map.mpr ⟨y, hy, c3.symm⟩) n1
    subst e
    rw [sorted_uniq k (List.Perm.cons_inv p) n2 a2 b2]
def settle (gs : List (Int × Int)) : List (List Int) := settleL (byAge gs)
/-- guests that there can be -/
structure Fit (gs : List (Int × Int)) : Prop where
  nd : (gs.map (·.1)).Nodup
  pos : ∀ g ∈ gs, 0 ≤ g.2
theorem Fit.perm {gs hs : List (Int × Int)} (f : Fit gs) (p : hs.Perm gs) : Fit hs := ⟨((p.map (·.1)).nodup_iff).mpr f.nd, fun g hg => f.pos g (p.mem_iff.mp hg)⟩
theorem Fit.byAge {gs : List (Int × Int)} (f : Fit gs) : Fit (byAge gs) := f.perm (byAge_perm gs)
theorem byAge_of {gs hs : List (Int × Int)} (f : Fit gs) (p : hs.Perm gs) (h : hs.Pairwise fun g h => h.1 ≤ g.1) : hs = byAge gs :=
  sorted_uniq (·.1) (p.trans (byAge_perm gs).symm) (f.perm p).nd h (byAge_sorted gs)
theorem byAge_congr {gs hs : List (Int × Int)} (f : Fit gs) (p : hs.Perm gs) : byAge hs = byAge gs :=
  byAge_of f ((byAge_perm hs).trans p) (byAge_sorted hs)
theorem ages_of {gs : List (Int × Int)} (f : Fit gs) {ns : List Int} (p : ns.Perm (gs.map (·.1))) (h : ns.Pairwise (· ≥ ·)) : ns = (byAge gs).map (·.1) := by
  refine sorted_uniq (fun x : Int => x) (p.trans ((byAge_perm gs).map (·.1)).symm) ?_ (h.imp fun q => q) ?_
  · rw [List.map_id']
    exact (p.nodup_iff).mpr f.nd
  · rw [List.pairwise_map]
    exact byAge_sorted gs
theorem settle_congr {gs hs : List (Int × Int)} (f : Fit gs) (p : hs.Perm gs) : settle hs = settle gs := by
  unfold settle
  rw [byAge_congr f p]
end El
namespace El
/-- a crowd comes to a first room in which h live -/
def kst (h : Int) (c : Int × Int) : Int := if c.2 + 1 ≤ h then h else if h + c.1 ≤ c.2 + 1 then h + c.1 else c.2 + 1
def stay (cs : List (Int × Int)) (n : Int) : Int := cs.foldl kst n
def Crw (cs : List (Int × Int)) : Prop := ∀ c ∈ cs, 1 ≤ c.1 ∧ 0 ≤ c.2
theorem stay_snoc (cs : List (Int × Int)) (c : Int × Int) (n : Int) : stay (cs ++ [c]) n = kst (stay cs n) c := by
  unfold stay
  rw [List.foldl_append]
  rfl
theorem stay_cat (cs ds : List (Int × Int)) (n : Int) : stay (cs ++ ds) n = stay ds (stay cs n) := by
  unfold stay
  rw [List.foldl_append]
theorem stay_cons (c : Int × Int) (cs : List (Int × Int)) (n : Int) : stay (c :: cs) n = stay cs (kst n c) := rfl
theorem kst_ge (h : Int) (c : Int × Int) (k : 1 ≤ c.1) : h ≤ kst h c := by
  unfold kst
  split
  · omega
  · split <;> omega
/-- one elder more: as many, or one more -/
theorem kst_one (h h' : Int) (c : Int × Int) (k : 1 ≤ c.1) (d : h' = h ∨ h' = h + 1) : kst h' c = kst h c ∨ kst h' c = kst h c + 1 := by
  unfold kst
  split <;> split <;> (try split) <;> (try split) <;> omega
theorem Crw.cons {c : Int × Int} {cs : List (Int × Int)} (h : Crw (c :: cs)) : (1 ≤ c.1 ∧ 0 ≤ c.2) ∧ Crw cs := ⟨h c List.mem_cons_self, fun d m => h d (List.mem_cons_of_mem _ m)⟩
theorem Crw.cat {cs ds : List (Int × Int)} (h : Crw cs) (k : Crw ds) : Crw (cs ++ ds) := fun c m => (List.mem_append.mp m).elim (h c) (k c)
theorem stay_ge : ∀ {cs : List (Int × Int)}, Crw cs → ∀ n, n ≤ stay cs n
  | [], _, n => Int.le_refl _
  | c :: cs, h, n => by
    rw [stay_cons]
    exact Int.le_trans (kst_ge n c h.cons.1.1) (stay_ge h.cons.2 _)
theorem stay_one : ∀ {cs : List (Int × Int)}, Crw cs → ∀ n n', (n' = n ∨ n' = n + 1) → stay cs n' = stay cs n ∨ stay cs n' = stay cs n + 1
  | [], _, n, n', d => d
  | c :: cs, h, n, n', d => by
    rw [stay_cons, stay_cons]
    exact stay_one h.cons.2 _ _ (kst_one n n' c h.cons.1.1 d)
/-- a crowd parted in two -/
theorem kst_part (h : Int) (a b p : Int) (ha : 1 ≤ a) (hb : 1 ≤ b) : kst (kst h (a, p)) (b, p) = kst h (a + b, p) := by
  unfold kst
  dsimp only
  split <;> (try split) <;> (try split) <;> (try split) <;> (try split) <;> omega
end El
namespace El
theorem stay_lt {M : Int} : ∀ {cs : List (Int × Int)}, (∀ c ∈ cs, c.2 + 1 < M) → ∀ n, n < M → stay cs n < M
  | [], _, n, h => h
  | c :: cs, k, n, h => by
    rw [stay_cons]
    refine stay_lt (fun d m => k d (List.mem_cons_of_mem _ m)) _ ?_
    have := k c List.mem_cons_self
    unfold kst
    split
    · omega
    · split <;> omega
theorem kst_0 (h p : Int) : kst h (0, p) = h := by
  unfold kst
  dsimp only
  split
  · rfl
  · split <;> omega
theorem kst_succ (h p : Int) (k : Nat) : kst h (((k + 1 : Nat) : Int), p) = kst h ((k : Int), p) + (if decide (kst h ((k : Int), p) ≤ p) = true then 1 else 0) := by
  by_cases e : kst h ((k : Int), p) ≤ p
  · rw [decide_eq_true e, if_pos rfl]
    unfold kst at e ⊢
    dsimp only at e ⊢
    split <;> (try split) <;> (try split) <;> (try split) <;> (split at e) <;> (try split at e) <;> omega
  · rw [decide_eq_false e, if_neg (by decide), Int.add_zero]
    unfold kst at e ⊢
    dsimp only at e ⊢
    split <;> (try split) <;> (try split) <;> (try split) <;> (split at e) <;> (try split at e) <;> omega
end El
namespace El
/-- the number, of those ahead of whom this many are kept, from the last crowd on -/
def back : List (Int × Int) → Int → Int
  | [], L => L
  | c :: cs, L => if back cs L ≤ c.2 + 1 then back cs L - c.1 else back cs L
def lk (cs : List (Int × Int)) (L : Int) : Int := if back cs L > 0 then back cs L else 0
theorem back_iff : ∀ {cs : List (Int × Int)} {h L : Int}, Crw cs → (L ≤ stay cs h ↔ back cs L ≤ h)
  | [], h, L, _ => Iff.rfl
  | c :: cs, h, L, C => by
    rw [stay_cons, back_iff C.cons.2]
    have h1 := C.cons.1.1
    show back cs L ≤ kst h c ↔ (if back cs L ≤ c.2 + 1 then back cs L - c.1 else back cs L) ≤ h
    unfold kst
    split <;> (try split) <;> (try split) <;> omega
theorem lk_iff {cs : List (Int × Int)} {h L : Int} (C : Crw cs) (h0 : 0 ≤ h) : L ≤ stay cs h ↔ lk cs L ≤ h := by
  rw [back_iff C]
  unfold lk
  split <;> omega
theorem lk_nn (cs : List (Int × Int)) (L : Int) : 0 ≤ lk cs L := by
  unfold lk
  split <;> omega
/-- the turns, in their order -/
def turnsFrom (pre : List (Int × Int)) : List (Int × Int) → List Int
  | [] => []
  | c :: cs => lk pre (c.2 + 1 - c.1) :: lk pre (c.2 + 1) :: turnsFrom (pre ++ [c]) cs
def turnsL (cs : List (Int × Int)) : List Int := turnsFrom [] cs
theorem turnsFrom_snoc : ∀ (cs pre : List (Int × Int)) (c : Int × Int), turnsFrom pre (cs ++ [c]) = turnsFrom pre cs ++ [lk (pre ++ cs) (c.2 + 1 - c.1), lk (pre ++ cs) (c.2 + 1)]
  | [], pre, c => by
    rw [List.append_nil]
    rfl
  | d :: cs, pre, c => by
    show lk pre (d.2 + 1 - d.1) :: lk pre (d.2 + 1) :: turnsFrom (pre ++ [d]) (cs ++ [c]) = _
    rw [turnsFrom_snoc cs (pre ++ [d]) c, List.append_assoc]
    rfl
theorem turns_snoc (cs : List (Int × Int)) (c : Int × Int) : turnsL (cs ++ [c]) = turnsL cs ++ [lk cs (c.2 + 1 - c.1), lk cs (c.2 + 1)] := turnsFrom_snoc cs [] c
theorem turns_len (cs : List (Int × Int)) : (turnsL cs).length = 2 * cs.length := by
  have : ∀ (cs pre : List (Int × Int)), (turnsFrom pre cs).length = 2 * cs.length := by
    intro cs
    induction cs with
    | nil => intro _; rfl
    | cons c cs ih =>
      intro pre
      show (turnsFrom (pre ++ [c]) cs).length + 1 + 1 = 2 * (cs.length + 1)
      rw [ih]
      omega
  exact this cs []
theorem turns_nn (cs : List (Int × Int)) : ∀ t ∈ turnsL cs, 0 ≤ t := by
  have : ∀ (cs pre : List (Int × Int)), ∀ t ∈ turnsFrom pre cs, 0 ≤ t := by
    intro cs
    induction cs with
    | nil => intro _ t m; simp [turnsFrom] at m
    | cons c cs ih =>
      intro pre t m
      rcases List.mem_cons.mp m with rfl | m
      · exact lk_nn _ _
      · rcases List.mem_cons.mp m with rfl | m
        · exact lk_nn _ _
        · exact ih _ t m
  exact this cs []
theorem kst_bend (s : Int) (c : Int × Int) (h : 1 ≤ c.1) : kst (s + 1) c = kst s c + (if c.2 + 1 - c.1 ≤ s ∧ ¬ c.2 + 1 ≤ s then 0 else 1) := by
  unfold kst
  split <;> split <;> (try split) <;> (try split) <;> (try split) <;> omega
/-- where there is no turn, it goes on as it went -/
theorem no_turn (P : List (Int × Int) → Prop) : ∀ {cs : List (Int × Int)} {n : Int}, Crw cs → 0 ≤ n → n ∉ turnsL cs →
    (n = 0 → stay cs 1 = stay cs 0 + 1) ∧ (1 ≤ n → stay cs (n + 1) - stay cs n = stay cs n - stay cs (n - 1)) := by
  intro cs
  generalize hk : cs.length = k
  induction k generalizing cs with
  | zero =>
    intro n _ _ _
    obtain rfl := List.eq_nil_of_length_eq_zero hk
    exact ⟨fun _ => rfl, fun _ => by show n + 1 - n = n - (n - 1); omega⟩
  | succ k ih =>
    intro n C n0 hn
    obtain ⟨ds, c, rfl⟩ : ∃ ds c, cs = ds ++ [c] := by
      have hne : cs ≠ [] := fun e => by rw [e] at hk; simp at hk
      exact ⟨cs.dropLast, cs.getLast hne, (List.dropLast_concat_getLast hne).symm⟩
    have hk' : ds.length = k := by
      rw [List.length_append, List.length_singleton] at hk
      omega
    have Cd : Crw ds := fun x m => C x (List.mem_append_left _ m)
    have hc := (C c (List.mem_append_right _ (List.mem_singleton.mpr rfl))).1
    rw [turns_snoc] at hn
    have n1 : n ∉ turnsL ds := fun m => hn (List.mem_append_left _ m)
    have n2 : n ≠ lk ds (c.2 + 1 - c.1) := fun e => hn (List.mem_append_right _ (by rw [← e]; exact List.mem_cons_self))
    have n3 : n ≠ lk ds (c.2 + 1) := fun e => hn (List.mem_append_right _ (by rw [← e]; exact List.mem_cons_of_mem _ List.mem_cons_self))
    obtain ⟨i0, i1⟩ := ih hk' Cd n0 n1
    have p1 := lk_nn ds (c.2 + 1 - c.1)
    have p2 := lk_nn ds (c.2 + 1)
    refine ⟨fun e => ?_, fun e => ?_⟩
    · subst e
      rw [stay_snoc, stay_snoc, i0 rfl, kst_bend _ _ hc]
      have q1 := lk_iff (L := c.2 + 1 - c.1) Cd n0
      rw [if_neg (by omega)]
    · rw [stay_snoc, stay_snoc, stay_snoc]
      have q1 := lk_iff (L := c.2 + 1 - c.1) Cd n0
      have q2 := lk_iff (L := c.2 + 1) Cd n0
      have r1 := lk_iff (h := n - 1) (L := c.2 + 1 - c.1) Cd (by omega)
      have r2 := lk_iff (h := n - 1) (L := c.2 + 1) Cd (by omega)
      have s1 := stay_one Cd (n - 1) n (.inr (by omega))
      have e1 := i1 e
      rcases s1 with s1 | s1
      · have s2 : stay ds (n + 1) = stay ds n := by omega
        rw [s2, s1]
      · have s2 : stay ds (n + 1) = stay ds n + 1 := by omega
        have k1 := kst_bend (stay ds n) c hc
        have k2 := kst_bend (stay ds (n - 1)) c hc
        rw [s2, k1]
        have k3 : kst (stay ds n) c = kst (stay ds (n - 1)) c + (if c.2 + 1 - c.1 ≤ stay ds (n - 1) ∧ ¬ c.2 + 1 ≤ stay ds (n - 1) then 0 else 1) := by
          rw [s1]
          exact k2
        have hi : (c.2 + 1 - c.1 ≤ stay ds n ∧ ¬ c.2 + 1 ≤ stay ds n) ↔ (c.2 + 1 - c.1 ≤ stay ds (n - 1) ∧ ¬ c.2 + 1 ≤ stay ds (n - 1)) := by
          rw [q1, q2, r1, r2]
          omega
        by_cases hh : c.2 + 1 - c.1 ≤ stay ds n ∧ ¬ c.2 + 1 ≤ stay ds n
        · rw [if_pos hh]
          rw [if_pos (hi.mp hh)] at k3
          omega
        · rw [if_neg hh]
          rw [if_neg (fun z => hh (hi.mpr z))] at k3
          omega
/-- the least number at which they part -/
def Least (cs ds : List (Int × Int)) (n : Int) : Prop := 0 ≤ n ∧ stay cs n ≠ stay ds n ∧ ∀ m, 0 ≤ m → m < n → stay cs m = stay ds m
def Like (cs ds : List (Int × Int)) : Prop := ∀ n, 0 ≤ n → stay cs n = stay ds n
def askedL (cs ds : List (Int × Int)) : List Int := 0 :: (turnsL cs ++ turnsL ds).map (· + 1)
theorem least_asked {cs ds : List (Int × Int)} (C : Crw cs) (D : Crw ds) {n : Int} (h : Least cs ds n) : n ∈ askedL cs ds := by
  obtain ⟨h0, h1, h2⟩ := h
  by_cases e0 : n = 0
  · subst e0
    exact List.mem_cons_self
  refine List.mem_cons_of_mem _ (List.mem_map.mpr ⟨n - 1, ?_, by omega⟩)
  refine Classical.byContradiction fun hno => h1 ?_
  have n1 : n - 1 ∉ turnsL cs := fun m => hno (List.mem_append_left _ m)
  have n2 : n - 1 ∉ turnsL ds := fun m => hno (List.mem_append_right _ m)
  obtain ⟨a0, a1⟩ := no_turn (fun _ => True) C (show 0 ≤ n - 1 by omega) n1
  obtain ⟨b0, b1⟩ := no_turn (fun _ => True) D (show 0 ≤ n - 1 by omega) n2
  by_cases e1 : n = 1
  · subst e1
    have := a0 rfl
    have := b0 rfl
    have := h2 0 (by omega) (by omega)
    omega
  · have x1 := a1 (by omega)
    have x2 := b1 (by omega)
    have x3 := h2 (n - 1) (by omega) (by omega)
    have x4 := h2 (n - 1 - 1) (by omega) (by omega)
    rw [show n - 1 + 1 = n by omega] at x1 x2
    omega
theorem exists_least {cs ds : List (Int × Int)} : ∀ (k : Nat), stay cs (k : Int) ≠ stay ds (k : Int) → ∃ n, Least cs ds n := by
  intro k
  induction k using Nat.strongRecOn with
  | ind k ih =>
    intro h
    by_cases e : ∃ m : Nat, m < k ∧ stay cs (m : Int) ≠ stay ds (m : Int)
    · obtain ⟨m, hm, hs⟩ := e
      exact ih m hm hs
    · refine ⟨k, by omega, h, fun m m0 mk => ?_⟩
      obtain ⟨j, rfl⟩ : ∃ j : Nat, m = j := ⟨m.toNat, by omega⟩
      exact Classical.byContradiction fun z => e ⟨j, by omega, z⟩
theorem like_or (cs ds : List (Int × Int)) : Like cs ds ∨ ∃ n, Least cs ds n := by
  by_cases e : ∃ k : Nat, stay cs (k : Int) ≠ stay ds (k : Int)
  · obtain ⟨k, h⟩ := e
    exact .inr (exists_least k h)
  · refine .inl fun n n0 => ?_
    obtain ⟨j, rfl⟩ : ∃ j : Nat, n = j := ⟨n.toNat, by omega⟩
    exact Classical.byContradiction fun z => e ⟨j, z⟩
theorem least_min {cs ds : List (Int × Int)} {n m : Int} (h : Least cs ds n) (m0 : 0 ≤ m) (hm : stay cs m ≠ stay ds m) : n ≤ m := by
  refine Classical.byContradiction fun z => hm (h.2.2 m m0 (by omega))
theorem stay_high {T : Int} : ∀ {cs : List (Int × Int)}, (∀ c ∈ cs, c.2 < T) → ∀ n, T ≤ n → stay cs n = n
  | [], _, n, _ => rfl
  | c :: cs, h, n, hn => by
    rw [stay_cons]
    have := h c List.mem_cons_self
    rw [show kst n c = n by unfold kst; rw [if_pos (by omega)]]
    exact stay_high (fun d m => h d (List.mem_cons_of_mem _ m)) n hn
/-! ### the first crowd that there can't be -/
def badFrom : List (Int × Int) → Nat → Option Nat
  | [], _ => none
  | c :: cs, k => if 1 ≤ c.1 ∧ 0 ≤ c.2 then badFrom cs (k + 1) else some k
theorem bad_none : ∀ {cs : List (Int × Int)} {k : Nat}, badFrom cs k = none ↔ Crw cs
  | [], k => ⟨fun _ c m => by simp at m, fun _ => rfl⟩
  | c :: cs, k => by
    show (if 1 ≤ c.1 ∧ 0 ≤ c.2 then badFrom cs (k + 1) else some k) = none ↔ _
    by_cases h : 1 ≤ c.1 ∧ 0 ≤ c.2
    · rw [if_pos h, bad_none]
      exact ⟨fun C d m => (List.mem_cons.mp m).elim (fun e => e ▸ h) (C d), fun C => C.cons.2⟩
    · rw [if_neg h]
      exact ⟨fun e => (by cases e), fun C => absurd C.cons.1 h⟩
theorem bad_at : ∀ {cs : List (Int × Int)} {k i : Nat} {c : Int × Int}, cs[i]? = some c → ¬ (1 ≤ c.1 ∧ 0 ≤ c.2) → (∀ (j : Nat) (d : Int × Int), j < i → cs[j]? = some d → 1 ≤ d.1 ∧ 0 ≤ d.2) → badFrom cs k = some (i + k)
  | [], _, _, _, e, _, _ => by simp at e
  | c :: cs, k, 0, d, e, h, _ => by
    obtain rfl : c = d := Option.some.inj e
    show (if 1 ≤ c.1 ∧ 0 ≤ c.2 then badFrom cs (k + 1) else some k) = _
    rw [if_neg h, Nat.zero_add]
  | c :: cs, k, i + 1, d, e, h, hj => by
    show (if 1 ≤ c.1 ∧ 0 ≤ c.2 then badFrom cs (k + 1) else some k) = _
    rw [if_pos (hj 0 c (by omega) rfl), bad_at (i := i) (c := d) (by simpa using e) h fun j x hji ex => hj (j + 1) x (by omega) (by simpa using ex)]
    congr 1
    omega
theorem bad_lt : ∀ {cs : List (Int × Int)} {k i : Nat}, badFrom cs k = some i → i < cs.length + k
  | [], _, _, e => by cases e
  | c :: cs, k, i, e => by
    have e' : (if 1 ≤ c.1 ∧ 0 ≤ c.2 then badFrom cs (k + 1) else some k) = some i := e
    rw [List.length_cons]
    split at e'
    · have := bad_lt e'
      omega
    · have := Option.some.inj e'
      omega
end El
namespace El
open PySem PySem.Spec PyProof.Rows L2
/-! ### a def of the text as callers see it -/
structure Df (P : Program) (w : World) (K : PySem.W.Frag) (mg : Str → Option Value) (base : Heap) (k : Nat) (x : Str) (ps : List Str) (st : Stmt) (sp : Sp) : Prop where
  ex : ∃ (f : Addr) (fd : FuncData), Fun K x x st f fd ∧ mg x = some (.ref f) ∧ FnOk P w K mg base CX0 k f fd ps sp ∧ Binds K fd ps []
/-- where a def stands -/
structure At (K : PySem.W.Frag) (mg : Str → Option Value) (x : Str) (ps : List Str) (st : Stmt) : Prop where
  ex : ∃ (f : Addr) (fd : FuncData), Fun K x x st f fd ∧ mg x = some (.ref f) ∧ Binds K fd ps []
theorem At.df {P : Program} {w : World} {K : PySem.W.Frag} {mg : Str → Option Value} {base : Heap} {k : Nat} {x : Str} {ps : List Str} {st : Stmt} {sp : Sp} (A : At K mg x ps st)
    (h : ∀ f fd, Fun K x x st f fd → FnOk P w K mg base CX0 k f fd ps sp) : Df P w K mg base k x ps st sp := by
  obtain ⟨f, fd, F, m, b⟩ := A.ex
  exact ⟨f, fd, F, m, h f fd F, b⟩
section
variable {X : Cx} {k : Nat} {x : Str} {ps : List Str} {st : Stmt} {sp : Sp} {p pos : Pos} {e : Expr} {es : List Expr} {kws : List Keyword} {t tk : TA}
theorem pe_df (D : Df X.prog X.w X.K X.mg X.base k x ps st sp) (hr : Room k X.A) (hg : Gl X x) (ha : PA X (e :: es) t) (hdb : (x == ("__debug__" : Str)) = false := by decide)
    (he : starEach (e :: es) X.env = (false, eval e X.env) :: starEach es X.env := by rfl) (hpl : (backTo pos (starEach es X.env)).any (·.1) = false := by rfl) : PE X (.Call (.Name x p) (e :: es) [] pos) (tCall sp [] E0 t) := by
  obtain ⟨f, fd, F, m, G, b⟩ := D.ex
  exact pe_call G hr hg m F.kp b .nil pass0 ha hdb he hpl
theorem pe_df0 (D : Df X.prog X.w X.K X.mg X.base k x ps st sp) (hr : Room k X.A) (hg : Gl X x) (hdb : (x == ("__debug__" : Str)) = false := by decide) : PE X (.Call (.Name x p) [] [] pos) (tCall sp [] E0 tNil) := by
  obtain ⟨f, fd, F, m, G, b⟩ := D.ex
  exact pe_call0 G hr hg m F.kp b .nil pass0 hdb
def tCallW (n : Nat) (sp : Sp) (g : List V → List V) (tk : TA) : TE := fun σ H Q => tk σ H fun zs H2 => zs.length = n ∧ sp (g zs) H2 Q E0
/-- f(k = v, ..): keywords alone -/
theorem pe_dfK (D : Df X.prog X.w X.K X.mg X.base k x ps st sp) (ks : List Str) (g : {α : Type} → List α → List α) (hr : Room k X.A) (hg : Gl X x) (hkw : PK X kws tk)
    (hb : ∀ (kV doc pm : Value) (an : Option Addr) (cdv ct : Value) (ws : List Value), ws.length = ks.length → bindArgs (PySem.W.fnOf x x (defArgs st) (defBody st) (defScope st) .none kV doc pm an cdv ct) ⟨[], ks.zip ws⟩ = pure (ps.zip (g ws)))
    (hrel : ∀ {zs : List V} {ws : List Value}, Vals zs ws → Vals (g zs) (g ws))
    (hall : (backToKw pos (keywordEach kws X.env)).all (·.1.isSome) = true := by rfl) (hks : (backToKw pos (keywordEach kws X.env)).filterMap (·.1) = ks := by rfl) (hdb : (x == ("__debug__" : Str)) = false := by decide)
    (hpl : ((backTo pos (starEach [] X.env)).any (·.1) || (backToKw pos (keywordEach kws X.env)).any (·.1.isNone)) = false := by rfl) :
    PE X (.Call (.Name x p) [] kws pos) (tCallW ks.length sp (fun zs => g zs) tk) := by
  obtain ⟨f, fd, F, m, G, b⟩ := D.ex
  have kp := F.kp
  have KB : KBn X.K fd ps 0 ks (fun us ws => us ++ g ws) (fun vs zs => vs ++ g zs) := by
    obtain ⟨oc, od, kV, doc, pm, an, cdv, ct, osl, rfl, lk, hcd⟩ := F.ex
    refine ⟨fun s us ws hK l1 l2 => ?_, fun {vs us zs ws} r rz => Vals.append r (hrel rz)⟩
    obtain rfl := List.eq_nil_of_length_eq_zero l1
    exact .of_eq (hb kV doc pm an cdv ct ws l2)
  refine ⟨fun pins s σ H Q I h => ?_⟩
  refine wpAny_Call_Name_kw (ld_glob I hg m ?_ hdb)
  refine PySem.W.callWith_KW0 (h₀ := X.base) I.ok.mod.kin kp hall ?_ hpl
  refine thn (hkw.run pos pins s σ H _ I h) fun ws s2 ⟨zs, H2, I2, rz, l2, q2⟩ => ⟨I2.kIn, ?_⟩
  rw [hks]
  exact run_fnN (us := []) (vs := []) G hr KB pass0 I2 .nil rz rfl l2 q2
end
theorem Df.at {P : Program} {w : World} {K : PySem.W.Frag} {mg : Str → Option Value} {base : Heap} {k : Nat} {x : Str} {ps : List Str} {st : Stmt} {sp : Sp} {fa : Addr} {fd : FuncData} {oc : Value} {od : Option Addr} {sl : Array (Option Value)}
    (D : Df P w K mg base k x ps st sp) (hf : mg x = some (.ref fa)) (l : K.lookup fa = some ⟨oc, od, .func fd, sl⟩) : FnOk P w K mg base CX0 k fa fd ps sp := by
  obtain ⟨f, fd', F, m, G, b⟩ := D.ex
  obtain rfl : fa = f := by
    have e := hf.symm.trans m
    injection e with e
    injection e
  obtain ⟨oc', od', kV, doc, pm, an, cdv, ct, osl, e1, lk, hcd⟩ := F.ex
  have e := l.symm.trans lk
  injection e with e
  injection e with _ _ e _
  injection e with e
  rw [e]
  exact G
theorem At.mk' {K : PySem.W.Frag} {mg : Str → Option Value} {h : Heap} {x : Str} {ps : List Str} {st : Stmt} {f : Addr} {oc : Value} {od an : Option Addr} {osl : Array (Option Value)} {kV doc pm cdv ct : Value} (X : K.In h) (G : h.Ns mainGlobals mg)
    (a : PySem.W.nsIn K mainGlobals x = some (some (.ref f))) (l : K.lookup f = some ⟨oc, od, .func (PySem.W.fnOf x x (defArgs st) (defBody st) (defScope st) .none kV doc pm an cdv ct), osl⟩)
    (c : PySem.W.codeIn K cdv x = true) (k : PySem.W.keepIn K (.ref f) = true)
    (b : ∀ (kV doc pm : Value) (an : Option Addr) (cdv ct : Value) (us : List Value), us.length = ps.length → bindArgs (PySem.W.fnOf x x (defArgs st) (defBody st) (defScope st) .none kV doc pm an cdv ct) ⟨us, []⟩ = pure (ps.zip us)) : At K mg x ps st :=
  have F := fun_mk (st := st) l c k
  ⟨f, _, F, PySem.W.mg_of X G a, F.binds b⟩
end El
namespace El
open PySem PySem.Spec PyProof.Rows L2
section
variable {X : Cx}
/-! sorted(..., reverse=b) of anything whose walk is known -/
/-- partners: each pair is something of ours and the value that stands for it -/
abbrev Partners (P : List (V × Value)) : Prop := ∀ p ∈ P, RelV p.1 p.2
theorem partners_of : ∀ {xs : List V} {us : List Value}, Vals xs us → ∃ P, Partners P ∧ P.map Prod.fst = xs ∧ P.map Prod.snd = us
  | _, _, .nil => ⟨[], fun _ m => (List.not_mem_nil m).elim, rfl, rfl⟩
  | _, _, .cons h t =>
    let ⟨P, hP, e1, e2⟩ := partners_of t
    ⟨(_, _) :: P, fun p m => (List.mem_cons.mp m).elim (fun e => e ▸ h) (hP p), congrArg _ e1, congrArg _ e2⟩
theorem Partners.vals : ∀ {P : List (V × Value)}, Partners P → Vals (P.map Prod.fst) (P.map Prod.snd)
  | [], _ => .nil
  | _ :: _, h => .cons (h _ (.head _)) (Partners.vals fun p m => h p (.tail _ m))
/-- the values in another order: the partners go along -/
theorem go_along {α β : Type} {f : α → β} {ys : List β} : ∀ {P : List α}, ys.Perm (P.map f) → ∃ P' : List α, P'.Perm P ∧ P'.map f = ys := by
  suffices key : ∀ {as bs : List β}, as.Perm bs → ∀ P : List α, P.map f = as → ∃ P' : List α, P'.Perm P ∧ P'.map f = bs from
    fun {P} h => key h.symm P rfl
  intro as bs h
  induction h with
  | nil => exact fun P e => ⟨P, .refl _, e⟩
  | cons x _ ih =>
    intro P e
    match P, e with
    | q :: P, e =>
      obtain ⟨P', hp, e'⟩ := ih P (List.cons.inj e).2
      exact ⟨q :: P', hp.cons q, by rw [List.map_cons, e', (List.cons.inj e).1]⟩
  | swap x y l =>
    intro P e
    match P, e with
    | q :: r :: P, e => exact ⟨r :: q :: P, .swap .., by
        have e1 := List.cons.inj e
        have e2 := List.cons.inj e1.2
        rw [List.map_cons, List.map_cons, e1.1, e2.1, e2.2]⟩
  | trans _ _ ih1 ih2 =>
    intro P e
    obtain ⟨P1, h1, e1⟩ := ih1 P e
    obtain ⟨P2, h2, e2⟩ := ih2 P1 e1
    exact ⟨P2, h2.trans h1, e2⟩
/-- forwards or backwards -/
abbrev turn {α : Type} (b : Bool) (l : List α) : List α := if b = true then l.reverse else l
theorem turn_map {α β : Type} (f : α → β) (l : List α) : ∀ b, (turn b l).map f = turn b (l.map f)
  | true => List.map_reverse ..
  | false => rfl
theorem turn_perm {α : Type} (l : List α) : ∀ b, (turn b l).Perm l
  | true => l.reverse_perm
  | false => .refl _
theorem turn_arr {α : Type} (l : List α) : ∀ b : Bool, (if b = true then l.toArray.reverse else l.toArray) = (turn b l).toArray
  | true => List.reverse_toArray ..
  | false => rfl
/-- the walk over v gathers what stands for xs, and nothing that lay there is touched -/
def Gathers (X : Cx) (s : Shared) (v : Value) (xs : List V) : Prop :=
  ∀ R : List Value → Shared → Prop, (∀ us h t, Vals xs us → (∀ b o, s.heap.get? b = some o → h.get? b = some o) → R us { s with heap := h, toks := t }) → wpAny (model X.prog X.w) X.A.in1 (collect v) R X.xe s
theorem sorted_gathered {pins : List (Addr × Obj)} {σ : L2.St} {H : Hp} {s : Shared} {Q : VK} {b : Bool} {v : Value} {xs : List V} {less : Value → Value → Bool}
    (I : Inv X pins σ H s) (few : xs.length ≤ sizeLine) (walk : Gathers X s v xs) (O : SrtO.Swo less)
    (able : ∀ (us : List Value) (s' : Shared) (l : Addr), 2 ≤ us.length → Vals xs us → Inv X pins σ (upd H l (.lst xs)) s' → H l = none → SrtO.SortableO X.prog X.w X.A.in1.in1 s' l us less)
    (q : ∀ (P : List (V × Value)) (l : Addr), Partners P → (P.map Prod.fst).Perm xs → SrtO.Srtd less (P.map Prod.snd) → H l = none → Q (.ref l) (upd H l (.lst (turn b (P.map Prod.fst))))) :
    wpAny (model X.prog X.w) X.A (call (.builtin "sorted") [v] [(Str.ofString "reverse", .bool b)]) (EP X pins σ Q) X.xe s := by
  refine call_function_entry_kw kind_sorted plain_sorted entry_sorted (args_sorted_rev v (.bool b)) ?_
  refine wpAny_bind (m := checkCount "sorted" 1 1 _) (wpAny_pure ?_)
  refine wpAny_bind (walk _ fun us h t for_xs grown => ?_)
  have n2 : us.length ≤ sizeLine := for_xs.length ▸ few
  refine wpAny_bind (wpAny_newList (wpAny_bind (wpAny_holding ?_)) n2)
  -- the new list lies there, and is ours
  generalize hl : ({ s with heap := h, toks := t } : Shared).heap.objs.size = l
  have hl' : h.objs.size = l := hl
  have at_l : (h.push (seqObj "list" us.toArray 0)).get? l = some (seqObj "list" us.toArray 0) := hl' ▸ Heap.get?_push_size _ rfl
  have free : H l = none := hl' ▸ (I.kept (t' := t) grown).hok.fresh (Nat.le_refl _)
  have J : Inv X pins σ (upd H l (.lst xs)) { s with heap := h.push (seqObj "list" us.toArray 0), toks := t } :=
    (I.kept (t' := t) grown).laid (t' := t) (fun _ _ => Heap.get?_push_of_some _) (Nat.le_of_eq hl) ⟨few, _, 0, for_xs, at_l⟩
  -- it is sorted where it lies
  refine PyProof.Rows.wpAny_call_entry_kw slot_list_sort ⟨_, at_l, rfl⟩ entry_list_sort ?_ (args_list_sort_rev _ (.bool b))
  refine SrtR.list_sort_ordR O at_l n2 (fun two => able us _ l two for_xs J free) fun out up same => ⟨_, rfl, wpAny_pure ⟨_, rfl, ?_⟩⟩
  obtain ⟨P0, hP0, rfl, rfl⟩ := partners_of for_xs
  obtain ⟨P, p1, rfl⟩ := go_along (same.perm.trans (turn_perm (P0.map Prod.snd) b))
  rw [turn_arr]
  obtain ⟨e, he⟩ := sortedHeap_at (out := (turn b (P.map Prod.snd)).toArray) at_l
  have hP : Partners P := fun p m => hP0 p (p1.mem_iff.mp m)
  have ends : Partners (turn b P) := fun p m => hP p ((turn_perm P b).mem_iff.mp m)
  have done := J.write (o := .lst (turn b (P.map Prod.fst))) (t' := t) (h' := sortedHeap (h.push (seqObj "list" (P0.map Prod.snd).toArray 0)) l (P0.map Prod.snd) (turn b (P.map Prod.snd)).toArray)
    (by rw [upd_same]; trivial) (.inl rfl) (fun c u away there => (sortedHeap_old away (Heap.lt_size there)).trans there) ⟨_, he⟩
    ⟨by rw [((turn_perm _ b).trans (p1.map _)).length_eq]; exact few, _, e, by rw [← turn_map, ← turn_map]; exact ends.vals, he⟩
  rw [upd_upd] at done
  exact ⟨.ref l, _, done, rfl, q P l hP (p1.map _) up free⟩
/-- the walk over a dict: its keys -/
theorem gathers_dict {pins : List (Addr × Obj)} {σ : L2.St} {H : Hp} {s : Shared} {a : Addr} {kvs : List (L2.Key × V)} (calm : X.calm = true) (I : Inv X pins σ H s) (d : Rd H a (.dK kvs)) :
    kvs.length ≤ sizeLine ∧ Gathers X s (.ref a) (kvs.map fun e => kV e.1) := by
  have ⟨few, own, es, same, lies⟩ := dk_rd I.hok d
  have ⟨ep, lies⟩ := lies.dictAt
  have keys : (kvs.map fun e => kV e.1) = es.map fun e => kV e.1 := by
    have h := congrArg (List.map kV) same.keys
    rw [List.map_map, List.map_map] at h
    exact h
  refine ⟨few, fun R go => ?_⟩
  rw [keys] at go
  exact PySem.W.kdu_collect (PySem.W.kdl_dict (knd := mixKind X.prog X.w) own) (I.ok.hd calm) lies (same.length ▸ few)
    fun h t got grown is => go _ h t (keys_at (by simpa using is.1) fun j v at_j => is.2 j v (by simpa using at_j)) grown
theorem ints_back {us : List Value} {ns : List Int} (h : IntsAre us ns) : us.map SrtO.iv = ns := by
  induction h with
  | nil => rfl
  | cons n t _ ih => exact congrArg (n :: ·) ih
/-- sorted(d, reverse=b) of a dict whose keys are ints -/
def rSortedRevD (b : Bool) : List V → List V → Hp → VK → Prop := fun vs zs H Q => ∃ (a : Addr) (kvs : List (L2.Key × V)) (ks : List Int), vs = [V.ref a] ∧ zs = [.bl b] ∧ Rd H a (.dK kvs) ∧ kvs.map (·.1) = ks.map Sum.inl ∧
  ∀ (ns' : List Int) (p : Addr), ns'.Perm ks → OrdB b ns' → H p = none → Q (.ref p) (upd H p (.lst (ns'.map V.int)))
theorem cr_sortedRevD {b : Bool} (calm : X.calm = true) : CallRK X (.builtin "sorted") [Str.ofString "reverse"] (rSortedRevD b) := by
  rintro pins s σ H _ _ us ws Q I one by_kw ⟨a, kvs, ks, rfl, rfl, d, hks, q⟩
  obtain ⟨v, w, rfl, rfl, rfl, rfl⟩ : ∃ v w, us = [v] ∧ ws = [w] ∧ v = .ref a ∧ w = .bool b := by
    cases one with | cons e1 t1 => cases t1; cases by_kw with | cons e2 t2 => cases t2; exact ⟨_, _, rfl, rfl, e1, e2⟩
  have keys : (kvs.map fun e => kV e.1) = ks.map V.int := by
    have h := congrArg (List.map kV) hks
    rw [List.map_map, List.map_map] at h
    exact h
  have ⟨few, walk⟩ := gathers_dict calm I d
  rw [keys] at walk
  refine sorted_gathered I (by rw [← keys, List.length_map]; exact few) walk SrtO.swo_int (fun us _ _ two r _ _ => SrtO.ints_sortable r.ints two) fun P l hP perm up free => ?_
  obtain ⟨ns, np, en⟩ := go_along perm
  have back := ints_back (Vals.ints (en ▸ hP.vals))
  rw [← en, ← turn_map]
  refine q _ l ((turn_perm ns b).trans np) ?_ free
  have rise : ns.Pairwise (· ≤ ·) := by
    rw [← back, List.pairwise_map]
    exact up.imp fun h => Int.not_lt.mp (of_decide_eq_false h)
  cases b with
  | false => exact rise
  | true => exact List.pairwise_reverse.mpr rise
end
end El
namespace El
open PySem PySem.Spec PyProof.Rows L2
/-! set(xs) and sorted(set(..)) of ints, as many as a set may have -/
section
variable {P : Program} {w : World} {A : Around} {E : Value → Shared → Prop} {s : Shared}
theorem ints_get : ∀ {us : List Value} {ns : List Int} {i : Nat} {v : Value}, IntsAre us ns → us[i]? = some v → ∃ k t, ns[i]? = some k ∧ v = .int k t
  | _, _, 0, _, .cons n t _, e => ⟨n, t, rfl, (Option.some.inj e).symm⟩
  | _, _, i + 1, _, .cons _ _ r, e => ints_get (i := i) r e
theorem set_of_list (calm : A.handled = none) {l : Addr} {us : List Value} {ns : List Int} {Q : Value → Shared → Prop} (hl : s.heap.IsList l us.toArray) (hi : IntsAre us ns) (few : ns.length + 1 < scanBound)
    (fin : ∀ (s' : Shared) (S : Addr) (c : Nat), (∀ b o, s.heap.get? b = some o → s'.heap.get? b = some o) → s'.gens = s.gens → s'.drawn = s.drawn → s'.os = s.os → s.heap.objs.size ≤ S → c ≤ ns.length →
      SetR w s'.heap S (fun j => decide (j ∈ ns)) c → Q (.ref S) s') : wpAny (model P w) A (call (.type "set") [.ref l]) Q E s := by
  have T := PySem.F.called_set
  have ⟨_, _, order⟩ := T.mro
  have by_new := T.made
  have is_set := T.sub
  have no_type := T.notType
  have makes := T.canCreate
  have fits := PySem.F.typeCall_set_1 (.ref l)
  refine wpAny_call (codeAny_of_tree (wpAny_pure ⟨Code.quiet_builtin _ (by decide +kernel), codeAny_builtin PySem.F.entry_type_call ?_⟩))
  rw [Around.under_plain (weight_type_call_type "set" [.ref l] []) rfl]
  repeat (any_goals (first | assumption | wp_step))
  generalize hS : s.heap.objs.size = S at fin
  generalize hg : s.heap.push { cls := .type "set", dict := none, data := .set #[] 0 (.fresh 0 0 (!w.params.followText "set-order")) } = g
  have at_S : g.get? S = some { cls := .type "set", dict := none, data := .set #[] 0 (.fresh 0 0 (!w.params.followText "set-order")) } := by rw [← hg, ← hS]; exact Heap.get?_push_size _ rfl
  have stays : ∀ b o, s.heap.get? b = some o → g.get? b = some o := fun b o e => hg ▸ Heap.get?_push_of_some _ e
  have ty : Shared.TypeIs { s with heap := g } (.ref S) "set" := ⟨_, at_S, rfl⟩
  refine codeAny_mono (code_set_led1 (.ref l) (E := E) (Q₁ := fun o s1 => o = .ref S ∧ s1 = { s with heap := g }) (by rw [hS, hg]; exact ⟨rfl, rfl⟩)) fun r s1 got => ?_
  rcases r with e | fl
  · exact got
  · obtain ⟨v, rfl⟩ : ∃ v, fl = .ret v := by
      cases fl with
      | ret v => exact ⟨v, rfl⟩
      | _ => exact got.elim
    obtain ⟨rfl, rfl⟩ : v = .ref S ∧ s1 = { s with heap := g } := got
    refine wpAny_bind (wpAny_isInstance ty is_set ?_)
    refine wpAny_ite_split (fun no => nomatch no) fun _ => ?_
    refine wpAny_bind (wpAny_holding (wpAny_callSpecial?_slot ty T.init (wpAny_call (codeAny_call_builtin T.init.plain PySem.F.entry_set_init ?_))))
    refine check_set_init_1 ty ?_
    have lt : ({ s with heap := g } : Shared).TypeIs (.ref l) "list" := ⟨_, stays _ _ hl.choose_spec.1, hl.choose_spec.2.1⟩
    have not_set : isSubtype (.type "list") (.type "set") = pure false := by rw [isSubtype_type]; kernel_rfl
    have not_frozen : isSubtype (.type "list") (.type "frozenset") = pure false := by rw [isSubtype_type]; kernel_rfl
    unfold Builtin.«set.__init__»
    have there : g.IsList l us.toArray := let ⟨o, a, r⟩ := hl; ⟨o, stays _ _ a, r⟩
    repeat (any_goals (first | assumption | (with_reducible refine wpAny_pyIter_list there ?_) | ((fail_if_success with_reducible refine wpAny_runValue ?_); wp_step)))
    have far : l < g.objs.size := let ⟨_, a, _⟩ := there; Heap.lt_size a
    have farS : S < g.objs.size := Heap.lt_size at_S
    have lS : l ≠ S := let ⟨_, a, _⟩ := hl; Nat.ne_of_lt (hS ▸ Heap.lt_size a)
    have walk := (Walks.list (prog := P) (w := w) (A := A.in1.in1.in1) calm g.objs.size l (Nat.ne_of_lt far) us.toArray).toS
    refine wpAny_runValue (set_update_ints walk S (by simp [Nat.ne_of_lt farS, lS.symm]) ns (by rw [List.size_toArray, IntsAre.length hi]) few (fun i v e => ints_get hi (by rw [List.getElem?_toArray] at e; exact e)) us.length 0 _ (by rw [List.size_toArray, Nat.sub_zero]) (Nat.zero_le _)
      ⟨⟨_, Heap.get?_push_size _ rfl, rfl, rfl⟩, there.push _⟩ ⟨0, Nat.le_refl _, setR_new_at (Heap.get?_push_of_some _ at_S)⟩ fun s' c moved hc made => ?_)
    refine wpAny_pure (wpAny_pure ?_)
    refine wpAny_pure ?_
    refine fin s' S c (fun b o e => ?_) moved.gens moved.drawn moved.os (Nat.le_refl _) (by rw [List.size_toArray, IntsAre.length hi] at hc; exact hc) made
    have hb : b < S := hS ▸ Heap.lt_size e
    exact moved.heap b o (by simp [Nat.ne_of_lt hb, Nat.ne_of_lt (Nat.lt_trans hb farS)]) (Heap.get?_push_of_some _ (stays b o e))
end
end El
namespace El
open PySem PySem.Spec PyProof.Rows L2
section
variable {X : Cx}
theorem inv_grown {pins : List (Addr × Obj)} {σ : L2.St} {H : Hp} {s s1 : Shared} (I : Inv X pins σ H s) (grown : ∀ b o, s.heap.get? b = some o → s1.heap.get? b = some o) (g : s1.gens = s.gens) (o : s1.os = s.os) : Inv X pins σ H s1 :=
  I.call' (ch := []) o (Un.kept grown) (I.hok.kept grown) (g ▸ I.bare) fun _ m => nomatch m
def rSetL (K : PySem.W.Frag) (w : World) : List V → Hp → VK → Prop := fun vs H Q => ∃ (a : Addr) (ns : List Int), vs = [V.ref a] ∧ SqL K H a (ns.map V.int) ∧ ns.length + 1 < scanBound ∧
  ∀ p c, c ≤ ns.length → H p = none → Q (.ref p) (upd H p (SetO w p (fun j => decide (j ∈ ns)) c))
theorem cr_setL (calm : X.calm = true) : CallR X (.type "set") (rSetL X.K X.w) := by
  rintro pins s σ H _ us Q I one ⟨a, ns, rfl, here, few, q⟩
  obtain ⟨v, rfl, rfl⟩ : ∃ v, us = [v] ∧ v = .ref a := by
    cases one with | cons e1 t1 => cases t1; exact ⟨_, rfl, e1⟩
  have ⟨its, r, at_a, _⟩ := I.list here
  refine set_of_list (I.ok.hd calm) at_a.isList r.ints few fun s' S c grown g d o size hc made => ?_
  obtain ⟨h1, g1, d1, t1, o1⟩ := s'
  obtain rfl : g1 = s.gens := g
  obtain rfl : d1 = s.drawn := d
  obtain rfl : o1 = s.os := o
  exact ⟨.ref S, _, I.laid (t' := t1) grown size (setO_new made), rfl, q S c hc (I.hok.fresh size)⟩
/-- sorted(v) of what a walk gathers, ints -/
theorem sorted_walked {pins : List (Addr × Obj)} {σ : L2.St} {H : Hp} {s : Shared} {Q : VK} {v : Value} {W : List Int → Prop}
    (walk : ∀ R : List Value → Shared → Prop, (∀ us ns s1, Vals (ns.map V.int) us → W ns → ns.length ≤ sizeLine → Inv X pins σ H s1 → R us s1) → wpAny (model X.prog X.w) X.A.in1 (collect v) R X.xe s)
    (q : ∀ (ns ns' : List Int) (l : Addr), W ns → ns'.Perm ns → ns'.Pairwise (· ≤ ·) → H l = none → Q (.ref l) (upd H l (.lst (ns'.map V.int)))) : wpAny (model X.prog X.w) X.A (call (.builtin "sorted") [v]) (EP X pins σ Q) X.xe s := by
  refine Calls.call_function_entry kind_sorted plain_sorted entry_sorted (args_sorted1 v) (wpAny_bind (m := checkCount "sorted" 1 1 _) (wpAny_pure (wpAny_bind (walk _ fun us ns s1 told W few I => ?_))))
  have n1 : (ns.map V.int).length ≤ sizeLine := by rw [List.length_map]; exact few
  have n2 : us.length ≤ sizeLine := told.length ▸ n1
  refine wpAny_bind (wpAny_newList (wpAny_bind (wpAny_holding ?_)) n2)
  generalize hl : s1.heap.objs.size = l
  have at_l : (s1.heap.push (seqObj "list" us.toArray 0)).get? l = some (seqObj "list" us.toArray 0) := hl ▸ Heap.get?_push_size _ rfl
  have free : H l = none := hl ▸ I.hok.fresh (Nat.le_refl _)
  have J : Inv X pins σ (upd H l (.lst (ns.map V.int))) { s1 with heap := s1.heap.push (seqObj "list" us.toArray 0) } :=
    I.laid (t' := s1.toks) (fun _ _ => Heap.get?_push_of_some _) (Nat.le_of_eq hl) ⟨n1, _, 0, told, at_l⟩
  refine wpAny_call_entry slot_list_sort ⟨_, at_l, rfl⟩ entry_list_sort (SrtO.list_sort_ord SrtO.swo_int at_l n2 (fun two => SrtO.ints_sortable told.ints two) fun out up same => ⟨_, rfl, wpAny_pure ⟨_, rfl, ?_⟩⟩) (args_list_sort _)
  obtain ⟨P0, hP0, e0, rfl⟩ := partners_of told
  obtain ⟨P, p1, rfl⟩ := go_along same.perm
  obtain ⟨ms, pm, em⟩ := go_along (f := V.int) (P := ns) (ys := P.map Prod.fst) (e0 ▸ p1.map _)
  have hP : Partners P := fun p m => hP0 p (p1.mem_iff.mp m)
  have back := ints_back (Vals.ints (em ▸ hP.vals))
  have rise : ms.Pairwise (· ≤ ·) := by
    rw [← back, List.pairwise_map]
    exact up.imp fun h => Int.not_lt.mp (of_decide_eq_false h)
  obtain ⟨e, he⟩ := sortedHeap_at (out := (P.map Prod.snd).toArray) at_l
  have done := J.write (o := .lst (ms.map V.int)) (t' := s1.toks) (h' := sortedHeap (s1.heap.push (seqObj "list" (P0.map Prod.snd).toArray 0)) l (P0.map Prod.snd) (P.map Prod.snd).toArray)
    (by rw [upd_same]; trivial) (.inl rfl) (fun c u away there => (sortedHeap_old away (Heap.lt_size there)).trans there) ⟨_, he⟩
    ⟨by rw [List.length_map, pm.length_eq]; exact few, _, e, em ▸ hP.vals, he⟩
  rw [upd_upd] at done
  exact ⟨.ref l, _, done, rfl, q ns ms l W pm rise free⟩
def rSortedSetN (w : World) : List V → Hp → VK → Prop := fun vs H Q => ∃ (a : Addr) (S : Int → Bool) (n : Nat), vs = [V.ref a] ∧ H a = some (SetO w a S n) ∧
  ∀ (ns : List Int) (p : Addr), ns.Pairwise (· < ·) → (∀ k : Int, k ∈ ns ↔ S k = true) → ns.length = n → H p = none → Q (.ref p) (upd H p (.lst (ns.map V.int)))
theorem cr_sortedSetN (calm : X.calm = true) : CallR X (.builtin "sorted") (rSortedSetN X.w) := by
  rintro pins s σ H _ us Q I one ⟨a, S, n, rfl, here, q⟩
  obtain ⟨v, rfl, rfl⟩ : ∃ v, us = [v] ∧ v = .ref a := by
    cases one with | cons e1 t1 => cases t1; exact ⟨_, rfl, e1⟩
  have ⟨o, es, ep, t, at_a, ex, data, good, nd, mem, few, fits, size, ris, led⟩ := setO_get I here
  have values : ∀ {l : List (Int × Value)}, (∀ e ∈ l, GoodE e) → Vals ((l.map keyOf).map V.int) (l.map Prod.snd) := fun {l} => by
    induction l with
    | nil => exact fun _ => .nil
    | cons e l ih =>
      intro h
      have ⟨k, tk, e2, _⟩ := h e (.head _)
      have e3 : keyOf e = k := by unfold keyOf; rw [e2]
      exact .cons (show ∃ t, e.2 = Value.int (keyOf e) t from ⟨tk, by rw [e3]; exact e2⟩) (ih fun e m => h e (.tail _ m))
  refine sorted_walked (H := H) (W := fun ns => ns.Perm (es.toList.map keyOf)) (fun R go => ?_) fun ns ns' l pn p up free => ?_
  · refine collect_set (I.ok.hd calm) ⟨o, at_a, ex.1, data⟩ fits few ris led fun s1 out grown _ g os perm => ?_
    have told := values good
    obtain ⟨P0, hP0, e0, e1⟩ := partners_of told
    obtain ⟨P, p1, rfl⟩ := go_along (e1 ▸ perm)
    obtain ⟨ms, pm, em⟩ := go_along (f := V.int) (P := es.toList.map keyOf) (ys := P.map Prod.fst) (e0 ▸ p1.map _)
    have hP : Partners P := fun p m => hP0 p (p1.mem_iff.mp m)
    refine go _ ms s1 (em ▸ hP.vals) pm ?_ (inv_grown I grown g os)
    rw [pm.length_eq, List.length_map, Array.length_toList]
    exact Nat.le_trans (Nat.le_of_lt few) (by decide)
  · have pall := p.trans pn
    have nd' : ns'.Nodup := pall.nodup_iff.mpr nd
    refine q ns' l ((List.pairwise_and_iff.mpr ⟨up, nd'⟩).imp fun h => by omega) (fun k => by rw [pall.mem_iff, ← mem k]) ?_ free
    rw [pall.length_eq, List.length_map, Array.length_toList]
    exact size
end
end El
namespace El
open PySem PySem.Spec PyProof.Rows L2
/-! ### heaps -/
/-- what B names stays as it was -/
def Kp (B : Addr → Prop) (H H' : Hp) : Prop := ∀ b o, B b → H b = some o → H' b = some o
theorem Kp.refl {B : Addr → Prop} {H : Hp} : Kp B H H := fun _ _ _ e => e
theorem Kp.trans {B : Addr → Prop} {H H1 H2 : Hp} (h : Kp B H H1) (k : Kp B H1 H2) : Kp B H H2 := fun b o hb e => k b o hb (h b o hb e)
theorem Kp.of {B : Addr → Prop} {H H' : Hp} (h : Same H H') : Kp B H H' := fun b o _ e => h b o e
theorem Kp.same {H H' : Hp} (h : Kp (fun _ => True) H H') : Same H H' := fun b o e => h b o trivial e
theorem same_new {H : Hp} {p : Addr} {o : HO} (h : H p = none) : Same H (upd H p o) := fun b u e => by
  rw [upd_ne (ne_of_none e h)]
  exact e
theorem Same.mut {H H' : Hp} {p : Addr} {o : HO} (e : Same H H') (h : H p = none) : Same H (upd H' p o) := fun b u q => by
  rw [upd_ne (ne_of_none q h)]
  exact e b u q
theorem Kp.mut {B : Addr → Prop} {H H' : Hp} {p : Addr} {o : HO} (e : Kp B H H') (h : ¬ B p) : Kp B H (upd H' p o) := fun b u hb q => by
  have n : b ≠ p := fun z => h (z ▸ hb)
  rw [upd_ne n]
  exact e b u hb q
theorem Kp.new {B : Addr → Prop} {H H' : Hp} {p : Addr} {o : HO} (e : Kp B H H') (h : H' p = none) : Kp B H (upd H' p o) := e.trans (Kp.of (same_new h))
theorem Kp.mutF {B : Addr → Prop} {H H' : Hp} {p : Addr} {o : HO} (e : Kp B H H') (h : H p = none) : Kp B H (upd H' p o) := fun b u hb q => by
  rw [upd_ne (ne_of_none q h)]
  exact e b u hb q
theorem Kp.none {B : Addr → Prop} {H H' : Hp} (e : Kp B H H') {p : Addr} (hb : B p) (h : H' p = none) : H p = none := by
  cases z : H p with
  | none => rfl
  | some x =>
    have := e _ _ hb z
    rw [h] at this
    cases this
theorem no_of {H : Hp} {a p : Addr} {o : HO} (h : H a = some o) (hp : H p = none) : p ≠ a := fun z => by
  rw [z, h] at hp
  cases hp
theorem same_none {H H' : Hp} (e : Same H H') {p : Addr} (h : H' p = none) : H p = none := e.free h
theorem ils {n : Nat} (h : n ≤ 100000) : n < sizeLine := Nat.lt_of_le_of_lt h (by decide)
theorem ile {n : Nat} (h : n ≤ 100000) : n ≤ sizeLine := Nat.le_of_lt (ils h)
theorem ints_at {ns : List Int} {i : Nat} {x : V} (h : (ns.map V.int)[i]? = some x) : ∃ n, ns[i]? = some n ∧ x = .int n := by
  rw [List.getElem?_map] at h
  cases e : ns[i]? with
  | none => rw [e] at h; cases h
  | some n => rw [e] at h; exact ⟨n, rfl, (Option.some.inj h).symm⟩
theorem refs_at {ts : List Addr} {i : Nat} {x : V} (h : (ts.map V.ref)[i]? = some x) : ∃ t, ts[i]? = some t ∧ x = .ref t := by
  rw [List.getElem?_map] at h
  cases e : ts[i]? with
  | none => rw [e] at h; cases h
  | some t => rw [e] at h; exact ⟨t, rfl, (Option.some.inj h).symm⟩
theorem at_lt {α : Type} {l : List α} {i : Nat} {x : α} (h : l[i]? = some x) : i < l.length := (List.getElem?_eq_some_iff.mp h).1
theorem at_some {α : Type} {l : List α} {i : Nat} (h : i < l.length) : ∃ x, l[i]? = some x := ⟨l[i], List.getElem?_eq_getElem h⟩
theorem take_snoc {α : Type} {l : List α} {i : Nat} {x : α} (h : l[i]? = some x) : l.take (i + 1) = l.take i ++ [x] := by
  rw [List.take_add_one, h]
  rfl
theorem take_full {α : Type} (l : List α) : l.take l.length = l := List.take_length
/-! ### a list of pairs of ints -/
structure GsAt (H : Hp) (B : Addr → Prop) (a : Addr) (ts : List Addr) (gs : List (Int × Int)) : Prop where
  top : H a = some (.lst (ts.map V.ref))
  ba : B a
  len : ts.length = gs.length
  at' : ∀ (i : Nat) (t : Addr) (g : Int × Int), ts[i]? = some t → gs[i]? = some g → H t = some (.tup [.int g.1, .int g.2])
  b : ∀ t ∈ ts, B t
theorem GsAt.keep {H H' : Hp} {B : Addr → Prop} {a : Addr} {ts : List Addr} {gs : List (Int × Int)} (h : GsAt H B a ts gs) (k : Kp B H H') : GsAt H' B a ts gs :=
  ⟨k _ _ h.ba h.top, h.ba, h.len, fun i t g e f => k _ _ (h.b t (List.mem_of_getElem? e)) (h.at' i t g e f), h.b⟩
theorem GsAt.same {H H' : Hp} {B : Addr → Prop} {a : Addr} {ts : List Addr} {gs : List (Int × Int)} (h : GsAt H B a ts gs) (k : Same H H') : GsAt H' B a ts gs := h.keep (.of k)
theorem GsAt.weaken {H : Hp} {B B' : Addr → Prop} {a : Addr} {ts : List Addr} {gs : List (Int × Int)} (h : GsAt H B a ts gs) (k : ∀ b, B b → B' b) : GsAt H B' a ts gs :=
  ⟨h.top, k _ h.ba, h.len, h.at', fun t m => k _ (h.b t m)⟩
theorem GsAt.seq {K : PySem.W.Frag} {H : Hp} {B : Addr → Prop} {a : Addr} {ts : List Addr} {gs : List (Int × Int)} (h : GsAt H B a ts gs) : SqL K H a (ts.map V.ref) := SqL.of h.top
theorem GsAt.get {H : Hp} {B : Addr → Prop} {a : Addr} {ts : List Addr} {gs : List (Int × Int)} (h : GsAt H B a ts gs) {i : Nat} {x : V} (e : (ts.map V.ref)[i]? = some x) : ∃ t g, x = .ref t ∧ gs[i]? = some g ∧ H t = some (.tup [.int g.1, .int g.2]) := by
  obtain ⟨t, e1, rfl⟩ := refs_at e
  have hi := at_lt e1
  rw [h.len] at hi
  obtain ⟨g, e2⟩ := at_some hi
  exact ⟨t, g, rfl, e2, h.at' i t g e1 e2⟩
/-- pushed -/
theorem GsAt.push {H : Hp} {B : Addr → Prop} {a : Addr} {ts : List Addr} {gs : List (Int × Int)} (h : GsAt H B a ts gs) (hn : a ∉ ts) {q : Addr} {g : Int × Int} (e : H q = some (.tup [.int g.1, .int g.2])) (bq : B q) :
    GsAt (upd H a (.lst (ts.map V.ref ++ [.ref q]))) B a (ts ++ [q]) (gs ++ [g]) := by
  refine ⟨?_, h.ba, ?_, fun i t x e1 e2 => ?_, fun t m => ?_⟩
  · rw [upd_same, List.map_append]
    rfl
  · rw [List.length_append, List.length_append, h.len]
    rfl
  · have nq : q ≠ a := fun z => by
      rw [z, h.top] at e
      cases e
    by_cases hi : i < ts.length
    · rw [List.getElem?_append_left hi] at e1
      rw [List.getElem?_append_left (by rw [← h.len]; exact hi)] at e2
      have nt : t ≠ a := fun z => hn (z ▸ List.mem_of_getElem? e1)
      rw [upd_ne nt]
      exact h.at' i t x e1 e2
    · have hi' : i = ts.length := by
        have := at_lt e1
        rw [List.length_append, List.length_singleton] at this
        omega
      subst hi'
      rw [List.getElem?_append_right (Nat.le_refl _), Nat.sub_self] at e1
      rw [h.len, List.getElem?_append_right (Nat.le_refl _), Nat.sub_self] at e2
      have e1' : q = t := Option.some.inj e1
      have e2' : g = x := Option.some.inj e2
      subst e1' e2'
      rw [upd_ne nq]
      exact e
  · rcases List.mem_append.mp m with m | m
    · exact h.b t m
    · rw [List.mem_singleton.mp m]
      exact bq
theorem GsAt.there {H : Hp} {B : Addr → Prop} {a : Addr} {ts : List Addr} {gs : List (Int × Int)} (h : GsAt H B a ts gs) : ∀ b, (b = a ∨ b ∈ ts) → ∃ x, H b = some x := fun b m => by
  rcases m with rfl | m
  · exact ⟨_, h.top⟩
  · obtain ⟨i, e⟩ := List.mem_iff_getElem?.mp m
    have hl := at_lt e
    rw [h.len] at hl
    obtain ⟨g, eg⟩ := at_some hl
    exact ⟨_, h.at' i b g e eg⟩
theorem GsAt.reB {H : Hp} {B B' : Addr → Prop} {a : Addr} {ts : List Addr} {gs : List (Int × Int)} (h : GsAt H B a ts gs) (k : ∀ b, (b = a ∨ b ∈ ts) → B b → B' b) : GsAt H B' a ts gs :=
  ⟨h.top, k _ (.inl rfl) h.ba, h.len, h.at', fun t m => k _ (.inr m) (h.b t m)⟩
/-- what stands in H and is named by B -/
def Liv (H : Hp) (B : Addr → Prop) (b : Addr) : Prop := (∃ x, H b = some x) ∧ B b
theorem GsAt.liv {H : Hp} {B : Addr → Prop} {a : Addr} {ts : List Addr} {gs : List (Int × Int)} (h : GsAt H B a ts gs) : GsAt H (Liv H B) a ts gs := h.reB fun b m hb => ⟨h.there b m, hb⟩
theorem Liv.no {H : Hp} {B : Addr → Prop} {p : Addr} (h : H p = none) : ¬ Liv H B p := fun ⟨⟨x, e⟩, _⟩ => by
  rw [h] at e
  cases e
theorem Liv.of {H : Hp} {B : Addr → Prop} {p : Addr} {o : HO} (h : H p = some o) (b : B p) : Liv H B p := ⟨⟨o, h⟩, b⟩
theorem Kp.weak {B B' : Addr → Prop} {H H' : Hp} (k : Kp B H H') (h : ∀ b, B' b → B b) : Kp B' H H' := fun b o hb e => k b o (h b hb) e
theorem Kp.liv {B : Addr → Prop} {H0 H H' : Hp} (k : Kp B H H') : Kp (Liv H0 B) H H' := k.weak fun _ h => h.2
/-! ### a list of lists of ints, each its own -/
structure RmsAt (H : Hp) (B : Addr → Prop) (o : Addr) (ts : List Addr) (rs : List (List Int)) : Prop where
  top : H o = some (.lst (ts.map V.ref))
  bo : B o
  nd : ts.Nodup
  no : o ∉ ts
  len : ts.length = rs.length
  at' : ∀ (i : Nat) (t : Addr) (r : List Int), ts[i]? = some t → rs[i]? = some r → H t = some (.lst (r.map V.int))
  b : ∀ t ∈ ts, B t
theorem RmsAt.keep {H H' : Hp} {B : Addr → Prop} {a : Addr} {ts : List Addr} {rs : List (List Int)} (h : RmsAt H B a ts rs) (k : Kp B H H') : RmsAt H' B a ts rs :=
  ⟨k _ _ h.bo h.top, h.bo, h.nd, h.no, h.len, fun i t g e f => k _ _ (h.b t (List.mem_of_getElem? e)) (h.at' i t g e f), h.b⟩
theorem RmsAt.same {H H' : Hp} {B : Addr → Prop} {a : Addr} {ts : List Addr} {rs : List (List Int)} (h : RmsAt H B a ts rs) (k : Same H H') : RmsAt H' B a ts rs := h.keep (.of k)
theorem RmsAt.weaken {H : Hp} {B B' : Addr → Prop} {a : Addr} {ts : List Addr} {rs : List (List Int)} (h : RmsAt H B a ts rs) (k : ∀ b, B b → B' b) : RmsAt H B' a ts rs :=
  ⟨h.top, k _ h.bo, h.nd, h.no, h.len, h.at', fun t m => k _ (h.b t m)⟩
theorem RmsAt.seq {K : PySem.W.Frag} {H : Hp} {B : Addr → Prop} {a : Addr} {ts : List Addr} {rs : List (List Int)} (h : RmsAt H B a ts rs) : SqL K H a (ts.map V.ref) := SqL.of h.top
theorem RmsAt.get {H : Hp} {B : Addr → Prop} {a : Addr} {ts : List Addr} {rs : List (List Int)} (h : RmsAt H B a ts rs) {i : Nat} {x : V} (e : (ts.map V.ref)[i]? = some x) : ∃ t r, x = .ref t ∧ ts[i]? = some t ∧ rs[i]? = some r ∧ H t = some (.lst (r.map V.int)) := by
  obtain ⟨t, e1, rfl⟩ := refs_at e
  have hi := at_lt e1
  rw [h.len] at hi
  obtain ⟨g, e2⟩ := at_some hi
  exact ⟨t, g, rfl, e1, e2, h.at' i t g e1 e2⟩
theorem RmsAt.of {H : Hp} {B : Addr → Prop} {a : Addr} {ts : List Addr} {rs : List (List Int)} (h : RmsAt H B a ts rs) {i : Nat} {r : List Int} (e : rs[i]? = some r) : ∃ t, ts[i]? = some t ∧ H t = some (.lst (r.map V.int)) := by
  have hi := at_lt e
  rw [← h.len] at hi
  obtain ⟨t, e2⟩ := at_some hi
  exact ⟨t, e2, h.at' i t r e2 e⟩
theorem RmsAt.nil {H : Hp} {B : Addr → Prop} {o : Addr} (h : H o = some (.lst [])) (bo : B o) : RmsAt H B o [] [] :=
  ⟨h, bo, List.nodup_nil, by simp, rfl, fun i t r e _ => by simp at e, fun t m => by simp at m⟩
/-- a new empty list behind -/
theorem RmsAt.push {H : Hp} {B : Addr → Prop} {o : Addr} {ts : List Addr} {rs : List (List Int)} (h : RmsAt H B o ts rs) {q : Addr} {r : List Int} (hq : H q = none) (bq : B q) :
    RmsAt (upd (upd H q (.lst (r.map V.int))) o (.lst (ts.map V.ref ++ [.ref q]))) B o (ts ++ [q]) (rs ++ [r]) := by
  have nq : q ≠ o := no_of h.top hq
  have nqt : ∀ t ∈ ts, q ≠ t := fun t m => by
    obtain ⟨i, hi⟩ := List.mem_iff_getElem?.mp m
    have hl := at_lt hi
    rw [h.len] at hl
    obtain ⟨r', er⟩ := at_some hl
    exact no_of (h.at' i t r' hi er) hq
  refine ⟨?_, h.bo, ?_, ?_, ?_, fun i t x e1 e2 => ?_, fun t m => ?_⟩
  · rw [upd_same, List.map_append]
    rfl
  · rw [List.nodup_append]
    exact ⟨h.nd, by simp, fun a ha b hb => by
      rw [List.mem_singleton.mp hb]
      exact (nqt a ha).symm⟩
  · intro m
    rcases List.mem_append.mp m with m | m
    · exact h.no m
    · exact nq (List.mem_singleton.mp m).symm
  · rw [List.length_append, List.length_append, h.len]
    rfl
  · by_cases hi : i < ts.length
    · rw [List.getElem?_append_left hi] at e1
      rw [List.getElem?_append_left (by rw [← h.len]; exact hi)] at e2
      have nt : t ≠ o := fun z => h.no (z ▸ List.mem_of_getElem? e1)
      rw [upd_ne nt, upd_ne (nqt t (List.mem_of_getElem? e1)).symm]
      exact h.at' i t x e1 e2
    · have hi' : i = ts.length := by
        have := at_lt e1
        rw [List.length_append, List.length_singleton] at this
        omega
      subst hi'
      rw [List.getElem?_append_right (Nat.le_refl _), Nat.sub_self] at e1
      rw [h.len, List.getElem?_append_right (Nat.le_refl _), Nat.sub_self] at e2
      have e1' : q = t := Option.some.inj e1
      have e2' : r = x := Option.some.inj e2
      subst e1' e2'
      rw [upd_ne nq, upd_same]
  · rcases List.mem_append.mp m with m | m
    · exact h.b t m
    · rw [List.mem_singleton.mp m]
      exact bq
/-- one of them changed -/
theorem RmsAt.set {H : Hp} {B : Addr → Prop} {o : Addr} {ts : List Addr} {rs : List (List Int)} (h : RmsAt H B o ts rs) {i : Nat} {t : Addr} (e : ts[i]? = some t) (r : List Int) :
    RmsAt (upd H t (.lst (r.map V.int))) B o ts (rs.set i r) := by
  have nt : t ≠ o := fun z => h.no (z ▸ List.mem_of_getElem? e)
  refine ⟨?_, h.bo, h.nd, h.no, ?_, fun j u x e1 e2 => ?_, h.b⟩
  · rw [upd_ne nt.symm]
    exact h.top
  · rw [List.length_set]
    exact h.len
  · by_cases hj : j = i
    · subst hj
      have e' : u = t := Option.some.inj (e1.symm.trans e)
      subst e'
      rw [upd_same]
      have hl := at_lt e1
      rw [h.len] at hl
      rw [List.getElem?_set_self hl] at e2
      have : r = x := Option.some.inj e2
      rw [this]
    · rw [List.getElem?_set_ne (fun z => hj z.symm)] at e2
      have hut : u ≠ t := fun z => by
        subst z
        exact hj (nd_ix h.nd e1 e)
      rw [upd_ne hut]
      exact h.at' j u x e1 e2
theorem RmsAt.newTop {H H' : Hp} {B B' : Addr → Prop} {o : Addr} {ts : List Addr} {rs : List (List Int)} (h : RmsAt H B o ts rs) (k : ∀ b u, (b = o ∨ b ∈ ts) → H b = some u → H' b = some u) (kb : ∀ b, (b = o ∨ b ∈ ts) → B' b) : RmsAt H' B' o ts rs :=
  ⟨k _ _ (.inl rfl) h.top, kb _ (.inl rfl), h.nd, h.no, h.len, fun i t r e f => k _ _ (.inr (List.mem_of_getElem? e)) (h.at' i t r e f), fun t m => kb t (.inr m)⟩
/-! ### the dict of patience -/
def pks (gs : List (Int × Int)) : List (L2.Key × V) := gs.map fun g => (Sum.inl g.1, V.int g.2)
theorem pks_len (gs : List (Int × Int)) : (pks gs).length = gs.length := List.length_map _
theorem pks_keys (gs : List (Int × Int)) : (pks gs).map (·.1) = (gs.map (·.1)).map Sum.inl := by
  unfold pks
  rw [List.map_map, List.map_map]
  rfl
theorem pks_snoc (gs : List (Int × Int)) (g : Int × Int) : pks (gs ++ [g]) = pks gs ++ [(Sum.inl g.1, V.int g.2)] := List.map_append
theorem pks_none {gs : List (Int × Int)} {a : Int} (h : a ∉ gs.map (·.1)) : valV (pks gs) (Sum.inl a) = none := by
  induction gs with
  | nil => rfl
  | cons g gs ih =>
    have h' : ¬ (a = g.1 ∨ a ∈ gs.map (·.1)) := fun z => h (by rw [List.map_cons]; exact List.mem_cons.mpr z)
    have n : ¬ (Sum.inl g.1 : L2.Key) = Sum.inl a := fun z => h' (.inl (Sum.inl.inj z).symm)
    show valV ((Sum.inl g.1, V.int g.2) :: pks gs) (Sum.inl a) = none
    rw [valV_neg n]
    exact ih fun z => h' (.inr z)
theorem pks_some : ∀ {gs : List (Int × Int)} {g : Int × Int}, (gs.map (·.1)).Nodup → g ∈ gs → valV (pks gs) (Sum.inl g.1) = some (.int g.2)
  | x :: gs, g, nd, h => by
    have nd' : (x.1 :: gs.map (·.1)).Nodup := nd
    obtain ⟨n1, n2⟩ := List.nodup_cons.mp nd'
    show valV ((Sum.inl x.1, V.int x.2) :: pks gs) (Sum.inl g.1) = some (.int g.2)
    rcases List.mem_cons.mp h with e | h
    · subst e
      rw [valV_pos rfl]
    · have n : ¬ (Sum.inl x.1 : L2.Key) = Sum.inl g.1 := fun z => n1 (by
        rw [Sum.inl.inj z]
        exact List.mem_map.mpr ⟨g, h, rfl⟩)
      rw [valV_neg n]
      exact pks_some n2 h
theorem putK_snoc {gs : List (Int × Int)} {g : Int × Int} (h : g.1 ∉ gs.map (·.1)) : putK (pks gs) (Sum.inl g.1) (V.int g.2) = pks (gs ++ [g]) := by
  rw [putK_new _ (pks_none h), pks_snoc]
theorem Fit.take_no {gs : List (Int × Int)} (f : Fit gs) {i : Nat} {g : Int × Int} (h : gs[i]? = some g) : g.1 ∉ (gs.take i).map (·.1) := by
  intro m
  have e : gs = gs.take i ++ g :: gs.drop (i + 1) := by
    have hl := at_lt h
    have e2 : gs[i] = g := by
      rw [List.getElem?_eq_getElem hl] at h
      exact Option.some.inj h
    rw [← e2, List.getElem_cons_drop, List.take_append_drop]
  have nd := f.nd
  rw [e, List.map_append, List.nodup_append] at nd
  exact nd.2.2 _ m g.1 (by rw [List.map_cons]; exact List.mem_cons_self) rfl
/-! ### rules by a written part that is named (for what stands in a comprehension) -/
section
variable {X : Cx}
theorem lenK (K : PySem.W.Frag) (e : X.K = K := by rfl) : CallR X (.builtin "len") (fun xs H Q => ∃ p ys, xs = [.ref p] ∧ (SqL K H p ys ∨ SqT K H p ys) ∧ Q (.int ys.length) H) := by
  subst e
  exact call_len_seq
theorem ixlK (K : PySem.W.Frag) (e : X.K = K := by rfl) : IxR X (rIxL K) := by
  subst e
  exact ix_list
theorem ixtK (K : PySem.W.Frag) (e : X.K = K := by rfl) : IxR X (rIxT K) := by
  subst e
  exact ix_tup
theorem sllK (K : PySem.W.Frag) (e : X.K = K := by rfl) : SlR X (rSlL K) := by
  subst e
  exact sl_list
theorem eqDK (K : PySem.W.Frag) (hu : X.A.units + 64 < cLine) (e : X.K = K := by rfl) : OpR X (compareOp .Eq) (rEqD K) := by
  subst e
  exact op_eqD hu
theorem neDK (K : PySem.W.Frag) (hu : X.A.units + 64 < cLine) (e : X.K = K := by rfl) : OpR X (compareOp .NotEq) (rNeD K) := by
  subst e
  exact op_neD hu
theorem isiK (K : PySem.W.Frag) (e : X.K = K := by rfl) : CallR X (.builtin "isinstance") (rIsi K) := by
  subst e
  exact call_isi
theorem sumK (K : PySem.W.Frag) (hc : X.calm = true) (e : X.K = K := by rfl) : CallR X (.builtin "sum") (rSum K) := by
  subst e
  exact cr_sum hc
theorem inK (K : PySem.W.Frag) (e : X.K = K := by rfl) : OpR X (compareOp .In) (rIn K false) := by
  subst e
  exact op_in_seq
theorem notInK (K : PySem.W.Frag) (e : X.K = K := by rfl) : OpR X (compareOp .NotIn) (rIn K true) := by
  subst e
  exact op_notIn_seq
theorem listOfK (K : PySem.W.Frag) (e : X.K = K := by rfl) : CallR X (.type "list") (fun xs H Q => ∃ p ys, xs = [.ref p] ∧ (SqL K H p ys ∨ SqT K H p ys) ∧ ∀ l, H l = none → Q (.ref l) (upd H l (.lst ys))) := by
  subst e
  exact call_list_of
theorem pgTupK {es : List Expr} {k : Nat} {t : TGs} {pos : Pos} (K : PySem.W.Frag) (n : Nat) (hc : X.calm = true) (h : PGs X es t)
    (hn : (assignEach es X.env).length = n := by rfl) (hst : (assignEach es X.env).findIdx? (·.1) = none := by rfl) (e : X.K = K := by rfl) : PG X (.Tuple es k pos) (gTup K n t) := by
  subst e
  exact pg_tup hc h hn hst
theorem bmK {T : String} {name : Str} {id : String} {o e : Expr} {es : List Expr} {to : TE} {t : TA} {apos cpos : Pos} {r : V → List V → Hp → VK → Prop} (K : PySem.W.Frag) (pa : PlainAttrs T) (slot : Slot T name id) (hty : typeOf (.builtin id) = pure (.type "method_descriptor")) (hm : MtR X id r) (ho : PE X o to) (ha : PA X (e :: es) t)
    (hbase : attributeBase o name X.env (eval o X.env) = eval o X.env := by rfl)
    (hfew : ((backTo cpos (starEach (e :: es) X.env)).all (fun x => !x.1) && (backToKw cpos (keywordEach [] X.env)).all (fun x => x.1.isSome)
      && decide ((e :: es).length + ([] : List Keyword).length + (if ([] : List Keyword).isEmpty then 0 else 1) < 30)) = true := by rfl)
    (hline : (apos.endLine == cpos.line) = true := by rfl) (hs : starEach (e :: es) X.env = (false, eval e X.env) :: starEach es X.env := by rfl) (hplain : (backTo cpos (starEach es X.env)).any (·.1) = false := by rfl) (eK : X.K = K := by rfl) :
    PE X (.Call (.Attribute o name apos) (e :: es) [] cpos) (tBM K T r to t) := by
  subst eK
  exact pe_bm pa slot hty hm ho ha hbase hfew hline hs hplain
end
/-! ### cuts: what holds between two parts of a body -/
section
variable {σ : L2.St} {H : Hp} {D : Ends} {c : TT} {t u tb : TS}
theorem while_to (W : Nat → L2.St → Hp → Prop) (E : L2.St → Hp → Prop) (h0 : ∃ m, W m σ H) (hd : ∀ σ H, E σ H → D.nx σ H)
    (hs : ∀ X : L2.St → Hp → Prop, (∀ σ H, E σ H → X σ H) → ∀ m σ H, W m σ H → c σ H fun b H1 => if b = true then ∃ N : L2.St → Hp → Prop, (∀ σ' H', N σ' H' → ∃ m', m' < m ∧ W m' σ' H') ∧ tb { D with nx := N, ct := N, bk := X } σ H1 else X σ H1) : tWhile c tb D σ H := ⟨W, h0, hs D.nx hd⟩
theorem seq_to (E : L2.St → Hp → Prop) (h1 : ∀ X : L2.St → Hp → Prop, (∀ σ H, E σ H → X σ H) → t { D with nx := X } σ H) (h2 : ∀ σ H, E σ H → u D σ H) : tSeq t u D σ H := h1 (u D) h2
theorem seq_set {i : Nat} {v : V} (h : u D (σ.set i (some v)) H) : tSeq (tAsg (tC v) (gName i)) u D σ H := h
theorem st_to (E : L2.St → Hp → Prop) (h1 : ∀ X : L2.St → Hp → Prop, (∀ σ H, E σ H → X σ H) → t { D with nx := X } σ H) (h2 : ∀ σ H, E σ H → D.nx σ H) : t D σ H := h1 D.nx h2
end
theorem ixN_of {n j : Nat} (hj : j < n) : ixN n (j : Int) = some j := by
  unfold ixN
  rw [if_pos (by omega), if_pos (by omega), Int.toNat_natCast]
theorem seq_ix {n j : Nat} (hj : j < n) : seqIndex? (j : Int) n = some j := (ixN_seq (ixN_of hj)).1
theorem at_pick {xs : List V} {r : Int} (h0 : 0 ≤ r) (h1 : r < xs.length) : ∃ v, atI xs r = some v ∧ v ∈ xs := by
  obtain ⟨k, rfl⟩ : ∃ k : Nat, r = k := ⟨r.toNat, by omega⟩
  obtain ⟨v, e⟩ := at_some (show k < xs.length by omega)
  exact ⟨v, atI_nat e, List.mem_of_getElem? e⟩
theorem erase_perm {α : Type} : ∀ {l : List α} {k : Nat} {x : α}, l[k]? = some x → (x :: l.eraseIdx k).Perm l
  | [], _, _, h => by simp at h
  | a :: l, 0, x, h => by
    obtain rfl : a = x := Option.some.inj h
    exact List.Perm.refl _
  | a :: l, k + 1, x, h => by
    have ih := erase_perm (l := l) (k := k) (x := x) (by simpa using h)
    exact (List.Perm.swap a x (l.eraseIdx k)).trans (ih.cons a)
/-! ### data -/
def dInts (ns : List Int) : PyData := .list (ns.map .int)
def dGs (gs : List (Int × Int)) : PyData := .list (gs.map fun g => .tuple [.int g.1, .int g.2])
def dRows (rs : List (List Int)) : PyData := .list (rs.map dInts)
theorem canAll : ∀ {xs : List PyData}, (∀ x ∈ xs, x.canLay0 = true) → PyData.canLayAll0 xs = true
  | [], _ => by simp [PyData.canLayAll0]
  | x :: xs, h => by
    rw [PyData.canLayAll0, h x List.mem_cons_self, canAll fun y hy => h y (List.mem_cons_of_mem _ hy)]
    rfl
theorem depAll {n : Nat} : ∀ {xs : List PyData}, (∀ x ∈ xs, x.depth ≤ n) → PyData.depthAll xs ≤ n
  | [], _ => by simp [PyData.depthAll]
  | x :: xs, h => by
    rw [PyData.depthAll]
    exact Nat.max_le.mpr ⟨h x List.mem_cons_self, depAll fun y hy => h y (List.mem_cons_of_mem _ hy)⟩
structure Oks (n : Nat) (d : PyData) : Prop where
  can : d.canLay0 = true
  dep : d.depth ≤ n
theorem Oks.int (i : Int) : Oks 0 (.int i) := ⟨by simp [PyData.canLay0], by simp [PyData.depth]⟩
theorem Oks.mono {n m : Nat} {d : PyData} (h : Oks n d) (k : n ≤ m) : Oks m d := ⟨h.can, Nat.le_trans h.dep k⟩
theorem Oks.lst {n : Nat} {xs : List PyData} (h : ∀ x ∈ xs, Oks n x) : Oks (n + 1) (.list xs) := ⟨by rw [PyData.canLay0]; exact canAll fun x m => (h x m).can, by rw [PyData.depth]; exact Nat.succ_le_succ (depAll fun x m => (h x m).dep)⟩
theorem Oks.tup {n : Nat} {xs : List PyData} (h : ∀ x ∈ xs, Oks n x) : Oks (n + 1) (.tuple xs) := ⟨by rw [PyData.canLay0]; exact canAll fun x m => (h x m).can, by rw [PyData.depth]; exact Nat.succ_le_succ (depAll fun x m => (h x m).dep)⟩
theorem Oks.ints (ns : List Int) : Oks 1 (dInts ns) := .lst fun x m => by
  obtain ⟨n, _, rfl⟩ := List.mem_map.mp m
  exact .int n
theorem Oks.gs (gs : List (Int × Int)) : Oks 2 (dGs gs) := .lst fun x m => by
  obtain ⟨g, _, rfl⟩ := List.mem_map.mp m
  refine .tup fun y hy => ?_
  rcases List.mem_cons.mp hy with rfl | hy
  · exact .int _
  · rw [List.mem_singleton.mp hy]
    exact .int _
theorem Oks.rows (rs : List (List Int)) : Oks 2 (dRows rs) := .lst fun x m => by
  obtain ⟨r, _, rfl⟩ := List.mem_map.mp m
  exact .ints r
theorem Oks.shaped {n : Nat} {d : PyData} (h : Oks n d) (k : n ≤ 64 := by decide) : SeqAt.shaped d = true := by
  unfold SeqAt.shaped
  rw [h.can, decide_eq_true (Nat.le_trans h.dep k)]
  rfl
theorem Oks.eqv {n : Nat} {d : PyData} (h : Oks n d) : PyData.eqv d d = true := SeqAt.eqv_refl d h.can
theorem dp_ints {K : PySem.W.Frag} {H : Hp} {ns : List Int} : DpAll K H (ns.map V.int) (ns.map .int) := by
  induction ns with
  | nil => exact .nil
  | cons n ns ih => exact .cons (.int n) ih
theorem Dp.ints {K : PySem.W.Frag} {H : Hp} {a : Addr} {ns : List Int} (h : H a = some (.lst (ns.map V.int))) : Dp K H (.ref a) (dInts ns) := .lst (SqL.of h) dp_ints
theorem dpAll_of {K : PySem.W.Frag} {H : Hp} : ∀ {vs : List V} {ds : List PyData}, vs.length = ds.length → (∀ (i : Nat) (v : V) (d : PyData), vs[i]? = some v → ds[i]? = some d → Dp K H v d) → DpAll K H vs ds
  | [], [], _, _ => .nil
  | v :: vs, d :: ds, hl, h => .cons (h 0 v d rfl rfl) (dpAll_of (by simpa using hl) fun i v d e f => h (i + 1) v d (by simpa using e) (by simpa using f))
  | [], _ :: _, hl, _ => by simp at hl
  | _ :: _, [], hl, _ => by simp at hl
theorem GsAt.dp {K : PySem.W.Frag} {H : Hp} {B : Addr → Prop} {a : Addr} {ts : List Addr} {gs : List (Int × Int)} (h : GsAt H B a ts gs) : Dp K H (.ref a) (dGs gs) := by
  refine .lst h.seq (dpAll_of (by rw [List.length_map, List.length_map, h.len]) fun i v d e f => ?_)
  obtain ⟨t, g, rfl, eg, et⟩ := h.get e
  rw [List.getElem?_map, eg] at f
  obtain rfl := Option.some.inj f
  exact .tup (SqT.of et) (.cons (.int _) (.cons (.int _) .nil))
theorem RmsAt.dp {K : PySem.W.Frag} {H : Hp} {B : Addr → Prop} {a : Addr} {ts : List Addr} {rs : List (List Int)} (h : RmsAt H B a ts rs) : Dp K H (.ref a) (dRows rs) := by
  refine .lst h.seq (dpAll_of (by rw [List.length_map, List.length_map, h.len]) fun i v d e f => ?_)
  obtain ⟨t, r, rfl, _, er, et⟩ := h.get e
  rw [List.getElem?_map, er] at f
  obtain rfl := Option.some.inj f
  exact Dp.ints et
theorem eqv_nil (gs : List Int) : PyData.eqv (dInts gs) (dInts []) = gs.isEmpty := by
  cases gs with
  | nil => rfl
  | cons x r => rfl
theorem relTy (n : String) : RelV (.ty n) (.type n) := rfl
theorem FnOk.or {P : Program} {w : World} {K : PySem.W.Frag} {mg : Str → Option Value} {base : Heap} {CX : CXT} {k : Nat} {f : Addr} {fd : FuncData} {ps : List Str} {sp sp' : Sp} (F : FnOk P w K mg base CX k f fd ps sp) (F' : FnOk P w K mg base CX k f fd ps sp') :
    FnOk P w K mg base CX k f fd ps (fun vs H Q E => sp vs H Q E ∨ sp' vs H Q E) :=
  ⟨fun vs H Q E h => h.elim (F.len vs H Q E) (F'.len vs H Q E), fun A outer s H args us vs Q E hr e0 hb r h => h.elim (F.run A outer s H args us vs Q E hr e0 hb r) (F'.run A outer s H args us vs Q E hr e0 hb r)⟩
/-! ### built-ins by their names -/
structure Bi (mg : Str → Option Value) : Prop where
  len : mg "len" = none
  range : mg "range" = none
  enumerate : mg "enumerate" = none
  sorted : mg "sorted" = none
  sum : mg "sum" = none
  min : mg "min" = none
  max : mg "max" = none
  isinstance : mg "isinstance" = none
  zip : mg "zip" = none
  list_ : mg "list" = none
  tuple_ : mg "tuple" = none
  int_ : mg "int" = none
  bool_ : mg "bool" = none
  str_ : mg "str" = none
  abs : mg "abs" = none
  repr : mg "repr" = none
  dict_ : mg "dict" = none
  any : mg "any" = none
  all : mg "all" = none
  set_ : mg "set" = none
  reversed : mg "reversed" = none
  ValueError_ : mg "ValueError" = none
  divmod : mg "divmod" = none
end El
namespace El
open PySem PySem.Spec PyProof.Rows L2
/-- how many live in each -/
def lens (rs : List (List Int)) : List Int := rs.map fun r => (r.length : Int)
theorem lens_length (rs : List (List Int)) : (lens rs).length = rs.length := List.length_map _
theorem lens_at {rs : List (List Int)} {i : Nat} {r : List Int} (h : rs[i]? = some r) : (lens rs)[i]? = some (r.length : Int) := by
  unfold lens
  rw [List.getElem?_map, h]
  rfl
theorem cut_to (xs : List V) (j : Nat) : cutV xs none (some (j : Int)) = xs.take j := by
  unfold cutV
  rw [HT.sIx_none, HT.sIx_nat]
  show (List.drop 0 xs).take (min j xs.length - 0) = _
  rw [List.drop_zero, Nat.sub_zero, ← List.take_eq_take_min]
/-- the pair that stands at a value -/
def prOf (H : Hp) : V → Int × Int
  | .ref t => match H t with
    | some (.tup [.int i, .int j]) => (i, j)
    | _ => (0, 0)
  | _ => (0, 0)
theorem prOf_is {H : Hp} {t : Addr} {g : Int × Int} (h : H t = some (.tup [.int g.1, .int g.2])) : prOf H (.ref t) = g := by
  show (match H t with
    | some (.tup [.int i, .int j]) => (i, j)
    | _ => (0, 0)) = g
  rw [h]
theorem GsAt.prs {H : Hp} {B : Addr → Prop} {a : Addr} {ts : List Addr} {gs : List (Int × Int)} (h : GsAt H B a ts gs) : (ts.map V.ref).map (prOf H) = gs := by
  refine List.ext_getElem? fun i => ?_
  rw [List.getElem?_map]
  cases e : (ts.map V.ref)[i]? with
  | none =>
    have hl : (ts.map V.ref).length ≤ i := List.getElem?_eq_none_iff.mp e
    rw [List.length_map, h.len] at hl
    rw [List.getElem?_eq_none_iff.mpr hl]
    rfl
  | some x =>
    obtain ⟨t, g, rfl, eg, et⟩ := h.get e
    rw [eg]
    show some (prOf H (.ref t)) = some g
    rw [prOf_is et]
theorem GsAt.mem {H : Hp} {B : Addr → Prop} {a : Addr} {ts : List Addr} {gs : List (Int × Int)} (h : GsAt H B a ts gs) : ∀ x ∈ ts.map V.ref, ∃ t, x = V.ref t ∧ H t = some (.tup [.int (prOf H x).1, .int (prOf H x).2]) := fun x m => by
  obtain ⟨i, e⟩ := List.mem_iff_getElem?.mp m
  obtain ⟨t, g, rfl, eg, et⟩ := h.get e
  refine ⟨t, rfl, ?_⟩
  rw [prOf_is et]
  exact et
theorem sorted_prs {k : V → Int × Int} {ys xs : List V} {gs : List (Int × Int)} (f : Fit gs) (hx : xs.map k = gs) (hs : SrtO.Srtd (ltP k) ys) (hb : SrtO.Stb (ltP k) ys xs) : ys.reverse.map k = byAge gs := by
  refine byAge_of f ?_ ?_
  · rw [← hx]
    exact ((List.reverse_perm ys).trans hb.perm).map k
  · rw [List.map_reverse, List.pairwise_reverse, List.pairwise_map]
    refine hs.imp fun {a b} h => ?_
    have h' : SrtO.lexB (k b) (k a) = false := h
    rw [SrtO.lexB_no] at h'
    omega
theorem cut_1 (xs : List V) : cutV xs (some 1) none = xs.drop 1 := by
  unfold cutV
  rw [show HT.sIx xs.length 0 (some 1) = min 1 xs.length from HT.sIx_nat xs.length 0 1, HT.sIx_none]
  cases xs with
  | nil => rfl
  | cons x r =>
    rw [show min 1 (x :: r).length = 1 by
      rw [List.length_cons]
      omega]
    show (List.take ((x :: r).length - 1) r) = r
    rw [List.length_cons, Nat.add_sub_cancel]
    exact List.take_length
theorem lens_falls {gs : List (Int × Int)} (f : Fit gs) {i : Nat} {x y : Int} (h1 : (lens (settle gs))[i]? = some x) (h2 : ((lens (settle gs)).drop 1)[i]? = some y) : ¬ x < y := by
  rw [List.getElem?_drop] at h2
  unfold lens at h1 h2
  rw [List.getElem?_map] at h1 h2
  have hp := settleL_falls (byAge gs) f.byAge.pos
  cases e1 : (settle gs)[i]? with
  | none => rw [e1] at h1; cases h1
  | some r =>
    cases e2 : (settle gs)[1 + i]? with
    | none => rw [e2] at h2; cases h2
    | some s =>
      rw [e1] at h1
      rw [e2] at h2
      obtain rfl : (r.length : Int) = x := Option.some.inj h1
      obtain rfl : (s.length : Int) = y := Option.some.inj h2
      obtain ⟨l1, q1⟩ := List.getElem?_eq_some_iff.mp (show (settleL (byAge gs))[i]? = some r from e1)
      obtain ⟨l2, q2⟩ := List.getElem?_eq_some_iff.mp (show (settleL (byAge gs))[1 + i]? = some s from e2)
      have := List.pairwise_iff_getElem.mp hp i (1 + i) l1 l2 (by omega)
      rw [q1, q2] at this
      omega
theorem dget_pks {H : Hp} {d : Addr} {gs : List (Int × Int)} {g : Int × Int} (h : H d = some (.dK (pks gs))) (f : Fit gs) (m : g ∈ gs) : DGet H d (.int g.1) (some (.int g.2)) := by
  have q := DGet.k (k := Sum.inl g.1) h
  rw [pks_some f.nd m] at q
  exact q
theorem log_lt {m : Int} {k : Nat} (h0 : 0 < m) (h : m < 2 ^ k) : m.natAbs.log2 < k := by
  obtain ⟨j, rfl⟩ : ∃ j : Nat, m = j := ⟨m.toNat, by omega⟩
  have h' : j < 2 ^ k := by exact_mod_cast h
  rw [Int.natAbs_natCast]
  exact (Nat.log2_lt (by omega)).mpr h'
theorem GsAt.mix {H : Hp} {B B' : Addr → Prop} {a m : Addr} {ts : List Addr} {gs : List (Int × Int)} {ys : List V} (h : GsAt H B a ts gs) (e : H m = some (.lst ys)) (bm : B' m) (hb : ∀ b, B b → B' b) (p : ys.Perm (ts.map V.ref)) :
    ∃ ts' gs', GsAt H B' m ts' gs' ∧ gs'.Perm gs := by
  have hm : ∀ y ∈ ys, ∃ t, y = V.ref t ∧ t ∈ ts := fun y hy => by
    obtain ⟨t, ht, rfl⟩ := List.mem_map.mp (p.mem_iff.mp hy)
    exact ⟨t, rfl, ht⟩
  obtain ⟨us, rfl, hu⟩ : ∃ us : List Addr, ys = us.map V.ref ∧ ∀ u ∈ us, u ∈ ts := by
    clear p e
    induction ys with
    | nil => exact ⟨[], rfl, fun u hu => absurd hu (by simp)⟩
    | cons y ys ih =>
      obtain ⟨t, rfl, ht⟩ := hm y List.mem_cons_self
      obtain ⟨us, rfl, hu⟩ := ih fun z hz => hm z (List.mem_cons_of_mem _ hz)
      exact ⟨t :: us, rfl, fun u h => by
        rcases List.mem_cons.mp h with rfl | h
        · exact ht
        · exact hu u h⟩
  refine ⟨us, (us.map V.ref).map (prOf H), ⟨e, bm, by rw [List.length_map, List.length_map], fun i t g e1 e2 => ?_, fun t ht => hb t (h.b t (hu t ht))⟩, ?_⟩
  · rw [List.getElem?_map, List.getElem?_map, e1] at e2
    have e2' : prOf H (.ref t) = g := Option.some.inj e2
    obtain ⟨j, ej⟩ := List.mem_iff_getElem?.mp (hu t (List.mem_of_getElem? e1))
    obtain ⟨t', g', e3, eg, et⟩ := h.get (i := j) (x := .ref t) (by rw [List.getElem?_map, ej]; rfl)
    injection e3 with e3
    subst e3
    rw [prOf_is et] at e2'
    rw [← e2']
    exact et
  · have := p.map (prOf H)
    rw [h.prs] at this
    exact this
/-- put in anywhere -/
theorem GsAt.ins {H : Hp} {B : Addr → Prop} {a : Addr} {ts : List Addr} {gs : List (Int × Int)} {ys : List V} (h : GsAt H B a ts gs) (hn : a ∉ ts) {q : Addr} {g : Int × Int} (e : H q = some (.tup [.int g.1, .int g.2])) (bq : B q) (p : ys.Perm (ts.map V.ref ++ [.ref q])) :
    ∃ ts' gs', GsAt (upd H a (.lst ys)) B a ts' gs' ∧ gs'.Perm (gs ++ [g]) ∧ a ∉ ts' ∧ ys = ts'.map V.ref := by
  have nq : q ≠ a := fun z => by
    rw [z, h.top] at e
    cases e
  have hm : ∀ y ∈ ys, ∃ t, y = V.ref t ∧ t ∈ ts ++ [q] := fun y hy => by
    rcases List.mem_append.mp (p.mem_iff.mp hy) with m | m
    · obtain ⟨t, ht, rfl⟩ := List.mem_map.mp m
      exact ⟨t, rfl, List.mem_append_left _ ht⟩
    · exact ⟨q, List.mem_singleton.mp m, List.mem_append_right _ (List.mem_singleton.mpr rfl)⟩
  obtain ⟨us, rfl, hu⟩ : ∃ us : List Addr, ys = us.map V.ref ∧ ∀ u ∈ us, u ∈ ts ++ [q] := by
    clear p
    induction ys with
    | nil => exact ⟨[], rfl, fun u hu => absurd hu (by simp)⟩
    | cons y ys ih =>
      obtain ⟨t, rfl, ht⟩ := hm y List.mem_cons_self
      obtain ⟨us, rfl, hu⟩ := ih fun z hz => hm z (List.mem_cons_of_mem _ hz)
      exact ⟨t :: us, rfl, fun u h => by
        rcases List.mem_cons.mp h with rfl | h
        · exact ht
        · exact hu u h⟩
  have ha : ∀ u ∈ us, u ≠ a ∧ B u ∧ ∃ x : Int × Int, H u = some (.tup [.int x.1, .int x.2]) := fun u m => by
    rcases List.mem_append.mp (hu u m) with m | m
    · obtain ⟨j, ej⟩ := List.mem_iff_getElem?.mp m
      obtain ⟨t', g', e3, eg, et⟩ := h.get (i := j) (x := .ref u) (by rw [List.getElem?_map, ej]; rfl)
      injection e3 with e3
      subst e3
      exact ⟨fun z => hn (z ▸ m), h.b u m, g', et⟩
    · rw [List.mem_singleton.mp m]
      exact ⟨nq, bq, g, e⟩
  refine ⟨us, (us.map V.ref).map (prOf H), ⟨upd_same, h.ba, by rw [List.length_map, List.length_map], fun i t x e1 e2 => ?_, fun t m => (ha t m).2.1⟩, ?_, fun m => (ha a m).1 rfl, rfl⟩
  · rw [List.getElem?_map, List.getElem?_map, e1] at e2
    have e2' : prOf H (.ref t) = x := Option.some.inj e2
    obtain ⟨n1, _, y, ey⟩ := ha t (List.mem_of_getElem? e1)
    rw [prOf_is ey] at e2'
    subst e2'
    rw [upd_ne n1]
    exact ey
  · have := p.map (prOf H)
    rw [List.map_append, h.prs] at this
    rw [show [V.ref q].map (prOf H) = [g] by show [prOf H (.ref q)] = [g]; rw [prOf_is e]] at this
    exact this
theorem GsAt.cat {H : Hp} {B : Addr → Prop} {a l : Addr} {ts : List Addr} {gs : List (Int × Int)} (h : GsAt H B a ts gs) {q : Addr} {g : Int × Int} (e : H q = some (.tup [.int g.1, .int g.2])) (el : H l = some (.lst (ts.map V.ref ++ [.ref q]))) :
    GsAt H (fun _ => True) l (ts ++ [q]) (gs ++ [g]) := by
  refine ⟨by rw [List.map_append]; exact el, trivial, by rw [List.length_append, List.length_append, h.len]; rfl, fun i t x e1 e2 => ?_, fun _ _ => trivial⟩
  by_cases hi : i < ts.length
  · rw [List.getElem?_append_left hi] at e1
    rw [List.getElem?_append_left (by rw [← h.len]; exact hi)] at e2
    exact h.at' i t x e1 e2
  · have hi' : i = ts.length := by
      have := at_lt e1
      rw [List.length_append, List.length_singleton] at this
      omega
    subst hi'
    rw [List.getElem?_append_right (Nat.le_refl _), Nat.sub_self] at e1
    rw [h.len, List.getElem?_append_right (Nat.le_refl _), Nat.sub_self] at e2
    obtain rfl : q = t := Option.some.inj e1
    obtain rfl : g = x := Option.some.inj e2
    exact e
theorem inV_ints (x : Int) (ns : List Int) : inV (.int x) (ns.map V.int) = decide (x ∈ ns) := by
  unfold inV
  rw [List.any_map]
  induction ns with
  | nil => rfl
  | cons n ns ih =>
    rw [List.any_cons, ih]
    have e : ((fun y => eqV y (V.int x)) ∘ V.int) n = decide (x = n) := by
      show eqV (.int n) (.int x) = decide (x = n)
      have e2 : eqV (.int n) (.int x) = decide (n = x) := by
        unfold eqV
        first | rfl | simp
      rw [e2]
      by_cases h : n = x
      · subst h; simp
      · rw [decide_eq_false h, decide_eq_false (fun z => h z.symm)]
    rw [e]
    by_cases h : x = n
    · subst h
      simp
    · rw [decide_eq_false h, Bool.false_or]
      by_cases h2 : x ∈ ns
      · rw [decide_eq_true h2, decide_eq_true (List.mem_cons_of_mem _ h2)]
      · rw [decide_eq_false h2, decide_eq_false (fun z => (List.mem_cons.mp z).elim h h2)]
theorem flat_ints (ns : List Int) : (ns.map V.int).all flatV = true := by
  rw [List.all_map, List.all_eq_true]
  intro x _
  rfl
theorem eqvAll_ints : ∀ a b : List Int, PyData.eqvAll (a.map .int) (b.map .int) = decide (a = b)
  | [], [] => rfl
  | [], y :: b => by
    rw [decide_eq_false (by simp)]
    rfl
  | x :: a, [] => by
    rw [decide_eq_false (by simp)]
    rfl
  | x :: a, y :: b => by
    rw [List.map_cons, List.map_cons, PyData.eqvAll, eqvAll_ints a b]
    show ((x == y) && decide (a = b)) = _
    by_cases h : x = y
    · subst h
      by_cases h2 : a = b
      · subst h2
        simp
      · rw [decide_eq_false h2, decide_eq_false (fun z => h2 (List.cons.inj z).2)]
        simp
    · have : (x == y) = false := by simpa using h
      rw [this, decide_eq_false (fun z => h (List.cons.inj z).1)]
      rfl
theorem eqv_ints (a b : List Int) : PyData.eqv (dInts a) (dInts b) = decide (a = b) := by
  unfold dInts
  rw [PyData.eqv]
  exact eqvAll_ints a b
theorem cut_at (xs : List V) (k : Nat) : cutV xs (some (k : Int)) (some ((k : Int) + 1)) = (xs.drop k).take 1 := by
  unfold cutV
  rw [HT.sIx_nat, show (k : Int) + 1 = ((k + 1 : Nat) : Int) by omega, HT.sIx_nat]
  by_cases h : k < xs.length
  · rw [Nat.min_eq_left (by omega), Nat.min_eq_left (by omega), Nat.add_sub_cancel_left]
  · have h1 : min k xs.length = xs.length := by omega
    have h2 : min (k + 1) xs.length = xs.length := by omega
    rw [h1, h2, Nat.sub_self, List.take_zero, List.drop_of_length_le (show xs.length ≤ k by omega)]
    rfl
theorem drop_take1 (L : List Int) (k : Nat) : (L.drop k).take 1 = L[k]?.toList := by
  by_cases h : k < L.length
  · rw [List.getElem?_eq_getElem h, List.drop_eq_getElem_cons h]
    rfl
  · rw [List.getElem?_eq_none (by omega), List.drop_of_length_le (by omega)]
    rfl
end El
namespace El
open PySem PySem.Spec PyProof.Rows L2
/-- [f(a, b) for a, b in gs], pairs of ints to ints -/
theorem lc_prs {K : PySem.W.Frag} {B : Addr → Prop} {a D : Addr} {ts : List Addr} {gs : List (Int × Int)} {i j : Nat} {te : TE} {vs : List Nat} {σ : L2.St} {H1 : Hp} {Qd : Hp → Prop} (f : Int × Int → Int) (hG : GsAt H1 B a ts gs) (hD : H1 D = none) (hl : gs.length ≤ 1000)
    (he : ∀ (z : Int × Int) (H' : Hp), z ∈ gs → Same H1 H' → ∀ Q : VK, Q (.int (f z)) H' → te (((wipe σ vs).set i (some (.int z.1))).set j (some (.int z.2))) H' Q) (hw : ∀ z : Int × Int, wipe (((wipe σ vs).set i (some (.int z.1))).set j (some (.int z.2))) vs = wipe σ vs)
    (hd : ∀ H2, Same H1 H2 → H2 D = some (.lst ((gs.map f).map V.int)) → Qd H2) :
    ∃ W : Nat → Nat → Hp → Prop, (∃ m, W 0 m (upd H1 D (.lst []))) ∧ ∀ k m H, W k m H →
      ((Itl K a).stop k H ∧ Qd H) ∨ ((Itl K a).go k H ∧ ∃ Nx : Hp → Prop, (∀ H', Nx H' → ∃ m', m' < m ∧ W (k + 1) m' H') ∧ ∀ x H', (Itl K a).yld k H x H' → gTup K 2 (gCons (gName i) (gCons (gName j) gNil)) x (wipe σ vs) H' fun σ2 H2 => wipe σ2 vs = wipe σ vs ∧ tYes σ2 H2 fun b H3 =>
        if b = true then te σ2 H3 fun y H4 => ∃ acc, H4 D = some (.lst acc) ∧ acc.length < sizeLine ∧ Nx (upd H4 D (.lst (acc ++ [y]))) else Nx H3) := by
  refine lc_it (walk_list (xs := ts.map V.ref)) (fun k H2 => Same H1 H2 ∧ H2 D = some (.lst (((gs.take k).map f).map V.int))) ⟨same_new hD, upd_same⟩ (fun k H2 _ hW => ?_) (fun k x H2 H3 hk hW hY => ?_) (fun H2 hW => ?_)
  · exact (hG.same hW.1).seq
  · obtain ⟨sm, e⟩ := hW
    obtain ⟨rfl, hx⟩ := hY
    obtain ⟨t, z, rfl, ez, et⟩ := (hG.same sm).get hx
    refine ⟨t, _, rfl, SqT.of et, rfl, .int z.1, _, rfl, .int z.2, _, rfl, rfl, ?_⟩
    refine ⟨hw z, he z H3 (List.mem_of_getElem? ez) sm _ ⟨_, e, ils (by rw [List.length_map, List.length_map, List.length_take]; omega), Same.mut sm hD, ?_⟩⟩
    rw [upd_same, take_snoc ez, List.map_append, List.map_append]
    rfl
  · obtain ⟨sm, e⟩ := hW
    rw [List.length_map, hG.len, take_full] at e
    exact hd H2 sm e
theorem GsAt.top' {H : Hp} {B : Addr → Prop} {a : Addr} {ts : List Addr} {gs : List (Int × Int)} (h : GsAt H B a ts gs) {b : Addr} (e : H b = some (.lst (ts.map V.ref))) : GsAt H (fun _ => True) b ts gs := ⟨e, trivial, h.len, h.at', fun _ _ => trivial⟩
/-- a pair of a list of pairs, by its place -/
theorem GsAt.at_ {H : Hp} {B : Addr → Prop} {a : Addr} {ts : List Addr} {gs : List (Int × Int)} (h : GsAt H B a ts gs) {i : Nat} {g : Int × Int} (e : gs[i]? = some g) : ∃ t, (ts.map V.ref)[i]? = some (.ref t) ∧ H t = some (.tup [.int g.1, .int g.2]) := by
  have hl := at_lt e
  rw [← h.len] at hl
  obtain ⟨t, e2⟩ := at_some hl
  exact ⟨t, by rw [List.getElem?_map, e2]; rfl, h.at' i t g e2 e⟩
theorem pick2 {P : Int → Prop} {a b r : Int} (h0 : 0 ≤ r) (h1 : r < 2) (pa : P a) (pb : P b) : ∃ v : Int, atI [V.int a, .int b] r = some (.int v) ∧ P v := by
  obtain ⟨v, hv, mv⟩ := at_pick (xs := [V.int a, .int b]) h0 h1
  rcases List.mem_cons.mp mv with rfl | mv
  · exact ⟨_, hv, pa⟩
  · obtain rfl := List.mem_singleton.mp mv
    exact ⟨_, hv, pb⟩
theorem pick3 {P : Int → Prop} {a b c r : Int} (h0 : 0 ≤ r) (h1 : r < 3) (pa : P a) (pb : P b) (pc : P c) : ∃ v : Int, atI [V.int a, .int b, .int c] r = some (.int v) ∧ P v := by
  obtain ⟨v, hv, mv⟩ := at_pick (xs := [V.int a, .int b, .int c]) h0 h1
  rcases List.mem_cons.mp mv with rfl | mv
  · exact ⟨_, hv, pa⟩
  rcases List.mem_cons.mp mv with rfl | mv
  · exact ⟨_, hv, pb⟩
  · obtain rfl := List.mem_singleton.mp mv
    exact ⟨_, hv, pc⟩
theorem pick4 {P : Int → Prop} {a b c d r : Int} (h0 : 0 ≤ r) (h1 : r < 4) (pa : P a) (pb : P b) (pc : P c) (pd : P d) : ∃ v : Int, atI [V.int a, .int b, .int c, .int d] r = some (.int v) ∧ P v := by
  obtain ⟨v, hv, mv⟩ := at_pick (xs := [V.int a, .int b, .int c, .int d]) h0 h1
  rcases List.mem_cons.mp mv with rfl | mv
  · exact ⟨_, hv, pa⟩
  rcases List.mem_cons.mp mv with rfl | mv
  · exact ⟨_, hv, pb⟩
  rcases List.mem_cons.mp mv with rfl | mv
  · exact ⟨_, hv, pc⟩
  · obtain rfl := List.mem_singleton.mp mv
    exact ⟨_, hv, pd⟩
theorem pickL {P : Int → Prop} {L : List Int} {r : Int} (h0 : 0 ≤ r) (h1 : r < L.length) (p : ∀ x ∈ L, P x) : ∃ v : Int, atI (L.map V.int) r = some (.int v) ∧ P v := by
  obtain ⟨v, hv, mv⟩ := at_pick (xs := L.map V.int) h0 (by rw [List.length_map]; exact h1)
  obtain ⟨x, mx, rfl⟩ := List.mem_map.mp mv
  exact ⟨x, hv, p x mx⟩
/-- pairs that stand at these, whatever list tells them -/
structure Prs (H : Hp) (ts : List Addr) (gs : List (Int × Int)) : Prop where
  len : ts.length = gs.length
  at' : ∀ (i : Nat) (t : Addr) (g : Int × Int), ts[i]? = some t → gs[i]? = some g → H t = some (.tup [.int g.1, .int g.2])
theorem GsAt.pr {H : Hp} {B : Addr → Prop} {a : Addr} {ts : List Addr} {gs : List (Int × Int)} (h : GsAt H B a ts gs) : Prs H ts gs := ⟨h.len, h.at'⟩
theorem Prs.gs {H : Hp} {a : Addr} {ts : List Addr} {gs : List (Int × Int)} (h : Prs H ts gs) (e : H a = some (.lst (ts.map V.ref))) : GsAt H (fun _ => True) a ts gs := ⟨e, trivial, h.len, h.at', fun _ _ => trivial⟩
theorem Prs.same {H H' : Hp} {ts : List Addr} {gs : List (Int × Int)} (h : Prs H ts gs) (k : Same H H') : Prs H' ts gs := ⟨h.len, fun i t g e f => k _ _ (h.at' i t g e f)⟩
theorem Prs.nil {H : Hp} : Prs H [] [] := ⟨rfl, fun i t g e _ => by simp at e⟩
theorem Prs.cons {H : Hp} {t : Addr} {g : Int × Int} {ts : List Addr} {gs : List (Int × Int)} (e : H t = some (.tup [.int g.1, .int g.2])) (h : Prs H ts gs) : Prs H (t :: ts) (g :: gs) := by
  refine ⟨by rw [List.length_cons, List.length_cons, h.len], fun i u x e1 e2 => ?_⟩
  cases i with
  | zero =>
    obtain rfl : t = u := Option.some.inj e1
    obtain rfl : g = x := Option.some.inj e2
    exact e
  | succ i => exact h.at' i u x (by simpa using e1) (by simpa using e2)
theorem Prs.cat {H : Hp} {ts us : List Addr} {gs hs : List (Int × Int)} (h : Prs H ts gs) (k : Prs H us hs) : Prs H (ts ++ us) (gs ++ hs) := by
  refine ⟨by rw [List.length_append, List.length_append, h.len, k.len], fun i t r e1 e2 => ?_⟩
  by_cases hi : i < ts.length
  · rw [List.getElem?_append_left hi] at e1
    rw [List.getElem?_append_left (by rw [← h.len]; exact hi)] at e2
    exact h.at' i t r e1 e2
  · rw [List.getElem?_append_right (by omega)] at e1
    rw [List.getElem?_append_right (by rw [← h.len]; omega), ← h.len] at e2
    exact k.at' _ t r e1 e2
theorem Prs.take {H : Hp} {ts : List Addr} {gs : List (Int × Int)} (h : Prs H ts gs) (n : Nat) : Prs H (ts.take n) (gs.take n) := by
  refine ⟨by rw [List.length_take, List.length_take, h.len], fun i t r e1 e2 => ?_⟩
  rw [List.getElem?_take] at e1 e2
  split at e1
  · rename_i hi
    rw [if_pos hi] at e2
    exact h.at' i t r e1 e2
  · cases e1
theorem Prs.drop {H : Hp} {ts : List Addr} {gs : List (Int × Int)} (h : Prs H ts gs) (n : Nat) : Prs H (ts.drop n) (gs.drop n) := by
  refine ⟨by rw [List.length_drop, List.length_drop, h.len], fun i t r e1 e2 => ?_⟩
  rw [List.getElem?_drop] at e1 e2
  exact h.at' _ t r e1 e2
theorem cutFrom (xs : List V) (j : Nat) : cutV xs (some (j : Int)) none = xs.drop j := by
  unfold cutV
  rw [HT.sIx_none, HT.sIx_nat]
  show (List.drop (min j xs.length) xs).take (xs.length - min j xs.length) = _
  by_cases h : j ≤ xs.length
  · rw [Nat.min_eq_left h, List.take_of_length_le (by rw [List.length_drop]; omega)]
  · rw [Nat.min_eq_right (by omega), List.drop_of_length_le (Nat.le_refl _), List.drop_of_length_le (show xs.length ≤ j by omega), List.take_nil]
theorem iteX {c : Bool} {A B : Prop} (hc : c = false) (h : B) : if c = true then A else B := by
  rw [hc]
  exact iteF h
theorem nd_self (x : V) : (!decide (x = x)) = false := by rw [decide_eq_true rfl]; rfl
theorem log2_lt {x : Int} {k : Nat} (h0 : 0 ≤ x) (h1 : x < 2 ^ k) (hk : 0 < k) : x.natAbs.log2 < k := by
  by_cases h4 : x.natAbs = 0
  · rw [h4]; exact Nat.lt_of_le_of_lt (by decide) hk
  · refine (Nat.log2_lt h4).mpr ?_
    have : ((x.natAbs : Nat) : Int) < ((2 ^ k : Nat) : Int) := by
      rw [show ((x.natAbs : Nat) : Int) = x by omega]
      exact_mod_cast h1
    exact_mod_cast this
theorem part_at {gs : List (Int × Int)} {i : Nat} {g : Int × Int} (e : gs[i]? = some g) : gs = gs.take i ++ [g] ++ gs.drop (i + 1) := by
  have hi := at_lt e
  have h2 := List.getElem_cons_drop (as := gs) (i := i) hi
  rw [List.getElem?_eq_getElem hi] at e
  rw [Option.some.inj e] at h2
  rw [List.append_assoc]
  show gs = gs.take i ++ (g :: gs.drop (i + 1))
  rw [h2, List.take_append_drop]
theorem rg0 {i : Nat} {x : V} (h : x = V.int (0 + (i : Int))) : x = V.int (i : Int) := by
  rw [h, Int.zero_add]
end El
namespace El
open PySem PySem.Spec PyProof.Rows L2
open PySem.W (minOf maxOf DatumOrd HoldAll min_list_datum_default max_list_datum_default)
/-! ### min(xs, default=d), max(xs, default=d), xs of ints -/
def rMinDf (K : PySem.W.Frag) : List V → List V → Hp → VK → Prop := fun vs zs H Q => ∃ (a : Addr) (ns : List Int) (v : V), vs = [.ref a] ∧ zs = [v] ∧ SqL K H a (ns.map V.int) ∧ (ns = [] → Q v H) ∧ ∀ m, m ∈ ns → (∀ y, y ∈ ns → m ≤ y) → Q (.int m) H
def rMaxDf (K : PySem.W.Frag) : List V → List V → Hp → VK → Prop := fun vs zs H Q => ∃ (a : Addr) (ns : List Int) (v : V), vs = [.ref a] ∧ zs = [v] ∧ SqL K H a (ns.map V.int) ∧ (ns = [] → Q v H) ∧ ∀ m, m ∈ ns → (∀ y, y ∈ ns → y ≤ m) → Q (.int m) H
theorem minOf_is : ∀ (ys : List Int) (y : Int), minOf y ys ∈ y :: ys ∧ ∀ z ∈ y :: ys, minOf y ys ≤ z
  | [], y => ⟨List.mem_cons_self, fun z m => by rw [List.mem_singleton.mp m]; exact Int.le_refl _⟩
  | x :: ys, y => by
    show minOf (if DatumOrd.lt x y = true then x else y) ys ∈ _ ∧ _
    obtain ⟨h1, h2⟩ := minOf_is ys (if DatumOrd.lt x y = true then x else y)
    have hxy : DatumOrd.lt x y = decide (x < y) := rfl
    rw [hxy] at h1 h2
    show minOf (if DatumOrd.lt x y = true then x else y) ys ∈ y :: x :: ys ∧ ∀ z ∈ y :: x :: ys, minOf (if DatumOrd.lt x y = true then x else y) ys ≤ z
    rw [hxy]
    by_cases h : x < y
    · rw [decide_eq_true h, if_pos rfl] at h1 h2 ⊢
      refine ⟨List.mem_cons_of_mem _ h1, fun z m => ?_⟩
      rcases List.mem_cons.mp m with rfl | m
      · have := h2 x List.mem_cons_self
        omega
      · exact h2 z m
    · rw [decide_eq_false h, if_neg Bool.false_ne_true] at h1 h2 ⊢
      refine ⟨?_, fun z m => ?_⟩
      · rcases List.mem_cons.mp h1 with e | m
        · rw [e]; exact List.mem_cons_self
        · exact List.mem_cons_of_mem _ (List.mem_cons_of_mem _ m)
      · rcases List.mem_cons.mp m with rfl | m
        · exact h2 _ List.mem_cons_self
        · rcases List.mem_cons.mp m with rfl | m
          · have := h2 y List.mem_cons_self
            omega
          · exact h2 z (List.mem_cons_of_mem _ m)
theorem maxOf_is : ∀ (ys : List Int) (y : Int), maxOf y ys ∈ y :: ys ∧ ∀ z ∈ y :: ys, z ≤ maxOf y ys
  | [], y => ⟨List.mem_cons_self, fun z m => by rw [List.mem_singleton.mp m]; exact Int.le_refl _⟩
  | x :: ys, y => by
    show maxOf (if DatumOrd.lt y x = true then x else y) ys ∈ y :: x :: ys ∧ ∀ z ∈ y :: x :: ys, z ≤ maxOf (if DatumOrd.lt y x = true then x else y) ys
    obtain ⟨h1, h2⟩ := maxOf_is ys (if DatumOrd.lt y x = true then x else y)
    have hxy : DatumOrd.lt y x = decide (y < x) := rfl
    rw [hxy] at h1 h2 ⊢
    by_cases h : y < x
    · rw [decide_eq_true h, if_pos rfl] at h1 h2 ⊢
      refine ⟨List.mem_cons_of_mem _ h1, fun z m => ?_⟩
      rcases List.mem_cons.mp m with rfl | m
      · have := h2 x List.mem_cons_self
        omega
      · exact h2 z m
    · rw [decide_eq_false h, if_neg Bool.false_ne_true] at h1 h2 ⊢
      refine ⟨?_, fun z m => ?_⟩
      · rcases List.mem_cons.mp h1 with e | m
        · rw [e]; exact List.mem_cons_self
        · exact List.mem_cons_of_mem _ (List.mem_cons_of_mem _ m)
      · rcases List.mem_cons.mp m with rfl | m
        · exact h2 _ List.mem_cons_self
        · rcases List.mem_cons.mp m with rfl | m
          · have := h2 y List.mem_cons_self
            omega
          · exact h2 z (List.mem_cons_of_mem _ m)
section
variable {X : Cx}
theorem cr_minDf (K : PySem.W.Frag) (hu : X.A.units + 64 < cLine) (hc : X.calm = true) (e : X.K = K := by rfl) : CallRK X (.builtin "min") [Str.ofString "default"] (rMinDf K) := by
  subst e
  intro pins s σ H vs0 zs us ws Q I r rz h
  obtain ⟨a, ns, v, rfl, rfl, hs, q0, q1⟩ := h
  obtain rfl := Vals.ref1 r
  obtain ⟨w1, rfl, e1⟩ := vals1 rz
  obtain ⟨its, rv, hl, _⟩ := I.list hs
  refine min_list_datum_default (I.ok.hd hc) hl.isList (HoldAll.of_ints rv.ints) (by show X.A.units + 1 + 0 < cLine; omega) (fun e0 h' tk k => ⟨v, H, I.kept k, e1, q0 e0⟩) fun y ys i u h' tk en hi hm k => ?_
  obtain ⟨h1, h2⟩ := minOf_is ys y
  rw [← en] at h1 h2
  obtain ⟨as, hm⟩ := hm
  cases hm
  exact ⟨.int (minOf y ys), H, I.kept k, ⟨_, rfl⟩, q1 _ h1 h2⟩
theorem cr_maxDf (K : PySem.W.Frag) (hu : X.A.units + 64 < cLine) (hc : X.calm = true) (e : X.K = K := by rfl) : CallRK X (.builtin "max") [Str.ofString "default"] (rMaxDf K) := by
  subst e
  intro pins s σ H vs0 zs us ws Q I r rz h
  obtain ⟨a, ns, v, rfl, rfl, hs, q0, q1⟩ := h
  obtain rfl := Vals.ref1 r
  obtain ⟨w1, rfl, e1⟩ := vals1 rz
  obtain ⟨its, rv, hl, _⟩ := I.list hs
  refine max_list_datum_default (I.ok.hd hc) hl.isList (HoldAll.of_ints rv.ints) (by show X.A.units + 1 + 0 < cLine; omega) (fun e0 h' tk k => ⟨v, H, I.kept k, e1, q0 e0⟩) fun y ys i u h' tk en hi hm k => ?_
  obtain ⟨h1, h2⟩ := maxOf_is ys y
  rw [← en] at h1 h2
  obtain ⟨as, hm⟩ := hm
  cases hm
  exact ⟨.int (maxOf y ys), H, I.kept k, ⟨_, rfl⟩, q1 _ h1 h2⟩
end
end El
namespace El
open PySem PySem.Spec PyProof.Rows L2
def topS (i : Nat) : Stmt := PySem.Challenge.pw_elderinn_k36_parting_told.main.body.getD i (.Pass ⟨0, 0, 0, 0⟩)
end El
namespace El
open PySem PySem.Spec PyProof.Rows L2
section
variable {P : Program} {w : World} {K : PySem.W.Frag} {mg : Str → Option Value} {base : Heap}
abbrev s_is_crowd : Stmt := topS 4
abbrev N_is_crowd : List Str := ["count", "patience"]
abbrev P_is_crowd : List Str := ["count", "patience"]
theorem sc_is_crowd : FnScope N_is_crowd P_is_crowd (defScope s_is_crowd) := ⟨rfl, rfl, rfl, by decide +kernel, rfl, by decide +kernel, by decide +kernel⟩
def sp_is_crowd : Sp := fun vs H Q _ => ∃ c p : Int, vs = [.int c, .int p] ∧ Q (.bl (decide (1 ≤ c) && decide (0 ≤ p))) H
theorem ok_is_crowd (A : At K mg "is_crowd" P_is_crowd s_is_crowd) : Df P w K mg base 1 "is_crowd" P_is_crowd s_is_crowd sp_is_crowd := by
  refine A.df fun f fd F => F.ok sc_is_crowd (fun vs H Q E h => ?_) (fun cdv AA outer s H vs Q E hr h => ?_)
  · obtain ⟨_, _, rfl, _⟩ := h
    rfl
  · obtain ⟨c, p, rfl, q⟩ := h
    have nd := sc_is_crowd.nd
    refine ⟨_, (pss_one (ps_ret (pe_and (pe_cmpR op_ge (pv 0) pe_int (nomark _)) (pe_one (pe_cmpR op_ge (pv 1) pe_int (nomark _)))))), ?_⟩
    refine ⟨.int c, rfl, _, _, rfl, rfl, _, rfl, ite2 (fun e => ?_) (fun e => ?_)⟩
    · have e := of_decide_eq_true e
      rw [decide_eq_true e, Bool.true_and] at q
      exact ⟨.int p, rfl, _, _, rfl, rfl, q⟩
    · rw [decide_eq_false (fun z => e (decide_eq_true z)), Bool.false_and] at q
      exact q
end
end El
namespace El
open PySem PySem.Spec PyProof.Rows L2
section
variable {P : Program} {w : World} {K : PySem.W.Frag} {mg : Str → Option Value} {base : Heap}
abbrev s_check_crowds : Stmt := topS 5
abbrev N_check_crowds : List Str := ["crowds", "number", "count", "patience"]
abbrev P_check_crowds : List Str := ["crowds"]
theorem sc_check_crowds : FnScope N_check_crowds P_check_crowds (defScope s_check_crowds) := ⟨rfl, rfl, rfl, by decide +kernel, rfl, by decide +kernel, by decide +kernel⟩
def sp_check_crowds : Sp := fun vs H Q _ => ∃ (B : Addr → Prop) (a : Addr) (ts : List Addr) (cs : List (Int × Int)), vs = [.ref a] ∧ GsAt H B a ts cs ∧ Crw cs ∧ ∀ H', Same H H' → Q .non H'
theorem ok_check_crowds (A : At K mg "check_crowds" P_check_crowds s_check_crowds) (B : Bi mg) (D_is_crowd : Df P w K mg base 1 "is_crowd" P_is_crowd s_is_crowd sp_is_crowd) : Df P w K mg base 2 "check_crowds" P_check_crowds s_check_crowds sp_check_crowds := by
  refine A.df fun f fd F => F.ok sc_check_crowds (fun vs H Q E h => ?_) (fun cdv AA outer s H vs Q E hr h => ?_)
  · obtain ⟨_, _, _, _, rfl, _⟩ := h
    rfl
  · obtain ⟨BB, a, ts, cs, rfl, hG, hC, q⟩ := h
    have nd := sc_check_crowds.nd
    refine ⟨_, (pss_one (ps_for PassesOwn.never rfl (pi_enum (by rfl) B.enumerate (pa_cons (pv 0) pa_nil)) (pg_tup (by rfl) (pgs_cons (pg_name (i := 1) nd rfl (.inl rfl)) (pgs_cons (pg_tup (by rfl) (pgs_cons (pg_name (i := 2) nd rfl (.inl rfl)) (pgs_cons (pg_name (i := 3) nd rfl (.inl rfl)) pgs_nil))) pgs_nil))) (pss_one (ps_if (pt_not (pt_val (pe_df D_is_crowd (hr.mono (by decide)) (by rfl) (pa_cons (pv 2) (pa_cons (pv 3) pa_nil))))) (pss_one ps_never) pss_nil)))), ?_⟩
    refine ⟨.ref a, rfl, a, ts.map V.ref, rfl, hG.seq, ?_⟩
    refine for_it (walk_enum (xs := ts.map V.ref)) (fun i σ H2 => ∃ y2 y3 y4, σ = [some (.ref a), y2, y3, y4] ∧ Same H H2) ⟨none, none, none, rfl, Same.refl _⟩ (fun i σ H2 _ hW => ?_) (fun i x σ H2 H3 hi hW hY => ?_) (fun σ H2 hW => ?_)
    · obtain ⟨_, _, _, _, sm⟩ := hW
      exact (hG.same sm).seq
    · obtain ⟨y2, y3, y4, rfl, sm⟩ := hW
      obtain ⟨T, x1, x2, rfl, nT, rfl, f1, f2⟩ := hY
      obtain rfl : V.int ↑i = x1 := Option.some.inj f1
      obtain ⟨t, g, rfl, eg, et⟩ := (hG.same sm).get f2
      have s3 : Same H2 (upd H2 T (.tup [.int i, .ref t])) := same_new nT
      refine ⟨T, [.int i, .ref t], rfl, SqT.of upd_same, rfl, .int i, [.ref t], rfl, .ref t, [], rfl, ?_⟩
      refine ⟨t, _, rfl, SqT.of (s3 _ _ et), rfl, .int g.1, [.int g.2], rfl, .int g.2, [], rfl, rfl, rfl, ?_⟩
      have hg := hC g (List.mem_of_getElem? eg)
      refine ⟨.int g.1, rfl, .int g.2, rfl, g.1, g.2, rfl, _, rfl, ?_⟩
      rw [decide_eq_true hg.1, decide_eq_true hg.2]
      refine iteF ?_
      exact ⟨_, _, _, rfl, sm.trans s3⟩
    · obtain ⟨y2, y3, y4, rfl, sm⟩ := hW
      exact q H2 sm
end
end El
namespace El
open PySem PySem.Spec PyProof.Rows L2
section
variable {P : Program} {w : World} {K : PySem.W.Frag} {mg : Str → Option Value} {base : Heap}
abbrev s_kept_with : Stmt := topS 8
abbrev N_kept_with : List Str := ["crowds", "n", "told", "count", "patience"]
abbrev P_kept_with : List Str := ["crowds", "n"]
theorem sc_kept_with : FnScope N_kept_with P_kept_with (defScope s_kept_with) := ⟨rfl, rfl, rfl, by decide +kernel, rfl, by decide +kernel, by decide +kernel⟩
def sp_kept_with : Sp := fun vs H Q _ => ∃ (B : Addr → Prop) (a : Addr) (ts : List Addr) (cs : List (Int × Int)) (n : Int), vs = [.ref a, .int n] ∧ GsAt H B a ts cs ∧ Crw cs ∧ Q (.int (stay cs n)) H
theorem ok_kept_with (A : At K mg "kept_with" P_kept_with s_kept_with) (B : Bi mg) : Df P w K mg base 1 "kept_with" P_kept_with s_kept_with sp_kept_with := by
  refine A.df fun f fd F => F.ok sc_kept_with (fun vs H Q E h => ?_) (fun cdv AA outer s H vs Q E hr h => ?_)
  · obtain ⟨_, _, _, _, _, rfl, _⟩ := h
    rfl
  · obtain ⟨BB, a, ts, cs, n, rfl, hG, hC, q⟩ := h
    have nd := sc_kept_with.nd
    refine ⟨_, (pss_cons (ps_set (i := 2) nd rfl (.inl rfl) (pv 1))
    (pss_cons (ps_for PassesOwn.never rfl (pi_list (pv 0)) (pg_tup (by rfl) (pgs_cons (pg_name (i := 3) nd rfl (.inl rfl)) (pgs_cons (pg_name (i := 4) nd rfl (.inl rfl)) pgs_nil))) (pss_one (ps_set (i := 2) nd rfl (.inl rfl) (pe_callB (call_max2 rfl) (by rfl) B.max (by decide +kernel) (pa_cons (pv 2) (pa_cons (pe_callB (call_min2 rfl) (by rfl) B.min (by decide +kernel) (pa_cons (pe_op op_add (pv 2) (pv 3)) (pa_cons (pe_op op_add (pv 4) pe_int) pa_nil))) pa_nil))))))
    (pss_one (ps_ret (pv 2))))), ?_⟩
    refine ⟨.int n, rfl, .ref a, rfl, a, rfl, ⟨_, hG.seq⟩, ?_⟩
    refine for_it (walk_list (xs := ts.map V.ref)) (fun i σ H2 => ∃ y3 y4, σ = [some (.ref a), some (.int n), some (.int (stay (cs.take i) n)), y3, y4] ∧ H2 = H) ⟨none, none, rfl, rfl⟩ (fun i σ H2 _ hW => ?_) (fun i x σ H2 H3 hi hW hY => ?_) (fun σ H2 hW => ?_)
    · obtain ⟨_, _, _, rfl⟩ := hW
      exact hG.seq
    · obtain ⟨y3, y4, rfl, rfl⟩ := hW
      obtain ⟨rfl, hx⟩ := hY
      obtain ⟨t, g, rfl, eg, et⟩ := hG.get hx
      have hg := hC g (List.mem_of_getElem? eg)
      refine ⟨t, _, rfl, SqT.of et, rfl, .int g.1, _, rfl, .int g.2, _, rfl, rfl, ?_⟩
      refine ⟨_, rfl, _, rfl, _, rfl, _, _, rfl, rfl, _, rfl, _, _, rfl, rfl, _, _, rfl, _, _, rfl, ?_⟩
      have e : (if (if g.2 + 1 < stay (cs.take i) n + g.1 then g.2 + 1 else stay (cs.take i) n + g.1) > stay (cs.take i) n then (if g.2 + 1 < stay (cs.take i) n + g.1 then g.2 + 1 else stay (cs.take i) n + g.1) else stay (cs.take i) n) = kst (stay (cs.take i) n) g := by
        unfold kst
        split <;> split <;> (try split) <;> (try split) <;> omega
      refine ⟨some (.int g.1), some (.int g.2), ?_, rfl⟩
      rw [take_snoc eg, stay_snoc, ← e]
      rfl
    · obtain ⟨y3, y4, rfl, rfl⟩ := hW
      rw [show (ts.map V.ref).length = cs.length by rw [List.length_map, hG.len], take_full]
      exact ⟨_, rfl, q⟩
end
end El
namespace El
open PySem PySem.Spec PyProof.Rows L2
section
variable {P : Program} {w : World} {K : PySem.W.Frag} {mg : Str → Option Value} {base : Heap}
abbrev s_least_that_keeps : Stmt := topS 10
abbrev N_least_that_keeps : List Str := ["crowds", "many", "least", "count", "patience"]
abbrev P_least_that_keeps : List Str := ["crowds", "many"]
theorem sc_least_that_keeps : FnScope N_least_that_keeps P_least_that_keeps (defScope s_least_that_keeps) := ⟨rfl, rfl, rfl, by decide +kernel, rfl, by decide +kernel, by decide +kernel⟩
def sp_least_that_keeps : Sp := fun vs H Q _ => ∃ (B : Addr → Prop) (a : Addr) (ts : List Addr) (cs : List (Int × Int)) (L : Int), vs = [.ref a, .int L] ∧ GsAt H B a ts cs ∧ Q (.int (lk cs L)) H
theorem ok_least_that_keeps (A : At K mg "least_that_keeps" P_least_that_keeps s_least_that_keeps) (B : Bi mg) : Df P w K mg base 1 "least_that_keeps" P_least_that_keeps s_least_that_keeps sp_least_that_keeps := by
  refine A.df fun f fd F => F.ok sc_least_that_keeps (fun vs H Q E h => ?_) (fun cdv AA outer s H vs Q E hr h => ?_)
  · obtain ⟨_, _, _, _, _, rfl, _⟩ := h
    rfl
  · obtain ⟨BB, a, ts, cs, L, rfl, hG, q⟩ := h
    have nd := sc_least_that_keeps.nd
    refine ⟨_, (pss_cons (ps_set (i := 2) nd rfl (.inl rfl) (pv 1))
    (pss_cons (ps_for PassesOwn.never rfl (pi_reversed (by rfl) B.reversed (pa_cons (pv 0) pa_nil)) (pg_tup (by rfl) (pgs_cons (pg_name (i := 3) nd rfl (.inl rfl)) (pgs_cons (pg_name (i := 4) nd rfl (.inl rfl)) pgs_nil))) (pss_one (ps_if (pt_cmpR op_le (pv 2) (pe_op op_add (pv 4) pe_int) (nomark _)) (pss_one (ps_aug (i := 2) nd rfl (.inl rfl) (pv 3) ip_sub)) pss_nil)))
    (pss_one (ps_ret (pe_callB (call_max2 rfl) (by rfl) B.max (by decide +kernel) (pa_cons pe_int (pa_cons (pv 2) pa_nil))))))), ?_⟩
    refine ⟨.int L, rfl, .ref a, rfl, a, _, rfl, hG.seq, ?_⟩
    have hlen : (ts.map V.ref).length = cs.length := by rw [List.length_map, hG.len]
    refine for_it (walk_rev (xs := ts.map V.ref)) (fun i σ H2 => ∃ y3 y4, σ = [some (.ref a), some (.int L), some (.int (back (cs.drop (cs.length - i)) L)), y3, y4] ∧ H2 = H) ⟨none, none, ?_, rfl⟩ (fun i σ H2 _ hW => ?_) (fun i x σ H2 H3 hi hW hY => ?_) (fun σ H2 hW => ?_)
    · rw [Nat.sub_zero, List.drop_length]
      rfl
    · obtain ⟨_, _, _, rfl⟩ := hW
      exact hG.seq
    · obtain ⟨y3, y4, rfl, rfl⟩ := hW
      obtain ⟨rfl, hx⟩ := hY
      rw [hlen] at hi hx
      obtain ⟨t, g, rfl, eg, et⟩ := hG.get hx
      have e1 : cs.drop (cs.length - (i + 1)) = g :: cs.drop (cs.length - i) := by
        have hl := at_lt eg
        have h2 := List.drop_eq_getElem_cons hl
        rw [List.getElem?_eq_getElem hl] at eg
        rw [Option.some.inj eg] at h2
        rw [show cs.length - (i + 1) = cs.length - 1 - i by omega, h2, show cs.length - 1 - i + 1 = cs.length - i by omega]
      rw [e1]
      show ∃ a_1, _
      have e2 : back (g :: cs.drop (cs.length - i)) L = if back (cs.drop (cs.length - i)) L ≤ g.2 + 1 then back (cs.drop (cs.length - i)) L - g.1 else back (cs.drop (cs.length - i)) L := rfl
      rw [e2]
      generalize back (cs.drop (cs.length - i)) L = l
      refine ⟨t, _, rfl, SqT.of et, rfl, .int g.1, _, rfl, .int g.2, _, rfl, rfl, ?_⟩
      refine ⟨_, rfl, _, rfl, _, _, rfl, rfl, _, _, rfl, rfl, _, rfl, ite2 (fun e => ?_) (fun e => ?_)⟩
      · have e := of_decide_eq_true e
        refine ⟨_, rfl, _, rfl, _, _, rfl, rfl, some (.int g.1), some (.int g.2), ?_, rfl⟩
        rw [if_pos e]
        rfl
      · have e : ¬ l ≤ g.2 + 1 := fun z => e (decide_eq_true z)
        refine ⟨some (.int g.1), some (.int g.2), ?_, rfl⟩
        rw [if_neg e]
        rfl
    · obtain ⟨y3, y4, rfl, rfl⟩ := hW
      rw [hlen, Nat.sub_self, List.drop_zero]
      exact ⟨_, rfl, _, _, rfl, q⟩
end
end El
namespace El
open PySem PySem.Spec PyProof.Rows L2
section
variable {P : Program} {w : World} {K : PySem.W.Frag} {mg : Str → Option Value} {base : Heap}
abbrev s_turns : Stmt := topS 9
abbrev N_turns : List Str := ["crowds", "told", "number", "count", "patience", "ahead"]
abbrev P_turns : List Str := ["crowds"]
theorem sc_turns : FnScope N_turns P_turns (defScope s_turns) := ⟨rfl, rfl, rfl, by decide +kernel, rfl, by decide +kernel, by decide +kernel⟩
def sp_turns : Sp := fun vs H Q _ => ∃ (B : Addr → Prop) (a : Addr) (ts : List Addr) (cs : List (Int × Int)), vs = [.ref a] ∧ GsAt H B a ts cs ∧ cs.length ≤ 1000 ∧ ∀ H' o, Same H H' → H o = none → H' o = some (.lst ((turnsL cs).map V.int)) → Q (.ref o) H'
theorem ok_turns (A : At K mg "turns" P_turns s_turns) (B : Bi mg) (D_least_that_keeps : Df P w K mg base 1 "least_that_keeps" P_least_that_keeps s_least_that_keeps sp_least_that_keeps) : Df P w K mg base 2 "turns" P_turns s_turns sp_turns := by
  refine A.df fun f fd F => F.ok sc_turns (fun vs H Q E h => ?_) (fun cdv AA outer s H vs Q E hr h => ?_)
  · obtain ⟨_, _, _, _, rfl, _⟩ := h
    rfl
  · obtain ⟨BB, a, ts, cs, rfl, hG, hl, q⟩ := h
    have nd := sc_turns.nd
    refine ⟨_, (pss_cons (ps_set (i := 1) nd rfl (.inl rfl) (pe_lst pa_nil))
    (pss_cons (ps_for PassesOwn.never rfl (pi_enum (by rfl) B.enumerate (pa_cons (pv 0) pa_nil)) (pg_tup (by rfl) (pgs_cons (pg_name (i := 2) nd rfl (.inl rfl)) (pgs_cons (pg_tup (by rfl) (pgs_cons (pg_name (i := 3) nd rfl (.inl rfl)) (pgs_cons (pg_name (i := 4) nd rfl (.inl rfl)) pgs_nil))) pgs_nil))) (pss_one (ps_for PassesOwn.never rfl (pi_tup (pe_tup (pa_cons (pe_op op_sub (pe_op op_add (pv 4) pe_int) (pv 3)) (pa_cons (pe_op op_add (pv 4) pe_int) pa_nil)))) (pg_name (i := 5) nd rfl (.inl rfl)) (pss_one (ps_expr (pe_bm PySem.F.plainAttrs_list PySem.F.slot_list_append PySem.F.type_list_append mt_append (pv 1) (pa_cons (pe_df D_least_that_keeps (hr.mono (by decide)) (by rfl) (pa_cons (pe_slice sl_list (pv 0) po_none (po_some (pv 2))) (pa_cons (pv 5) pa_nil))) pa_nil)))))))
    (pss_one (ps_ret (pv 1))))), ?_⟩
    refine ⟨Nat.zero_le _, fun o no => ?_⟩
    have so := same_new (o := .lst []) no
    refine ⟨.ref a, rfl, a, ts.map V.ref, rfl, (hG.same so).seq, ?_⟩
    refine for_it (walk_enum (xs := ts.map V.ref)) (fun i σ H2 => ∃ y2 y3 y4 y5, σ = [some (.ref a), some (.ref o), y2, y3, y4, y5] ∧ Same H H2 ∧ H2 o = some (.lst ((turnsL (cs.take i)).map V.int))) ⟨none, none, none, none, rfl, so, upd_same⟩ (fun i σ H2 _ hW => ?_) (fun i x σ H2 H3 hi hW hY => ?_) (fun σ H2 hW => ?_)
    · obtain ⟨_, _, _, _, _, sm, _⟩ := hW
      exact (hG.same sm).seq
    · obtain ⟨y2, y3, y4, y5, rfl, sm, eo⟩ := hW
      obtain ⟨T, x1, x2, rfl, nT, rfl, f1, f2⟩ := hY
      obtain rfl : V.int ↑i = x1 := Option.some.inj f1
      obtain ⟨t, g, rfl, eg, et⟩ := (hG.same sm).get f2
      have hi' := at_lt eg
      have s3 : Same H2 (upd H2 T (.tup [.int i, .ref t])) := same_new nT
      refine ⟨T, [.int i, .ref t], rfl, SqT.of upd_same, rfl, .int i, [.ref t], rfl, .ref t, [], rfl, ?_⟩
      refine ⟨t, _, rfl, SqT.of (s3 _ _ et), rfl, .int g.1, [.int g.2], rfl, .int g.2, [], rfl, rfl, rfl, ?_⟩
      refine ⟨_, rfl, _, _, rfl, rfl, _, rfl, _, _, rfl, rfl, _, rfl, _, _, rfl, rfl, (by show 2 ≤ sizeLine; decide), fun u nu => ⟨u, rfl, ⟨_, SqT.of upd_same⟩, ?_⟩⟩
      have sm3 := sm.trans s3
      have eo3 := s3 _ _ eo
      have su := same_new (o := .tup [.int (g.2 + 1 - g.1), .int (g.2 + 1)]) nu
      have e1 : turnsL (cs.take (i + 1)) = turnsL (cs.take i) ++ [lk (cs.take i) (g.2 + 1 - g.1), lk (cs.take i) (g.2 + 1)] := by rw [take_snoc eg, turns_snoc]
      have htl : (turnsL (cs.take i)).length ≤ 2000 := by
        rw [turns_len, List.length_take]
        omega
      revert eo3 su sm3
      generalize upd H2 T (.tup [.int i, .ref t]) = H4
      intro sm3 eo3 su
      refine for_it (walk_tup (xs := [V.int (g.2 + 1 - g.1), .int (g.2 + 1)])) (fun k σ H5 => ∃ y5, σ = [some (.ref a), some (.ref o), some (.int i), some (.int g.1), some (.int g.2), y5] ∧ Same H H5 ∧ H5 u = some (.tup [.int (g.2 + 1 - g.1), .int (g.2 + 1)]) ∧ H5 o = some (.lst ((turnsL (cs.take i) ++ [lk (cs.take i) (g.2 + 1 - g.1), lk (cs.take i) (g.2 + 1)].take k).map V.int)))
        ⟨y5, rfl, sm3.trans su, upd_same, by rw [List.take_zero, List.append_nil]; exact su _ _ eo3⟩ (fun k σ H5 _ hW => ?_) (fun k x σ H5 H6 hk hW hY => ?_) (fun σ H5 hW => ?_)
      · obtain ⟨_, _, _, eu, _⟩ := hW
        exact SqT.of eu
      · obtain ⟨z5, rfl, sm5, eu, eo5⟩ := hW
        obtain ⟨rfl, hx⟩ := hY
        obtain ⟨L, hL, rfl⟩ : ∃ L : Int, [g.2 + 1 - g.1, g.2 + 1][k]? = some L ∧ x = .int L := by
          match k, hk, hx with
          | 0, _, hx => exact ⟨_, rfl, (Option.some.inj hx).symm⟩
          | 1, _, hx => exact ⟨_, rfl, (Option.some.inj hx).symm⟩
        have hG6 := hG.same sm5
        refine ⟨.ref o, rfl, .inl ⟨rfl, _, SqL.of eo5⟩, .ref a, rfl, _, rfl, _, rfl, a, _, rfl, hG6.seq, fun p np => ?_⟩
        rw [cut_to, ← List.map_take]
        have sp := same_new (o := .lst ((ts.take i).map V.ref)) np
        have hGp := ((hG6.same sp).pr.take i).gs (a := p) upd_same
        refine ⟨_, rfl, _, p, _, _, L, rfl, hGp, o, _, _, rfl, rfl, sp _ _ eo5, ils (by rw [List.length_map, List.length_append, List.length_take]; show _ + min k 2 ≤ 100000; omega), ?_⟩
        refine ⟨_, rfl, Same.mut (sm5.trans sp) no, ?_, ?_⟩
        · rw [upd_ne (fun z => ?_)]
          · exact sp _ _ eu
          · rw [z] at eu
            rw [eu] at eo5
            cases eo5
        · have e3 : [lk (cs.take i) (g.2 + 1 - g.1), lk (cs.take i) (g.2 + 1)][k]? = some (lk (cs.take i) L) := by
            match k, hk, hL with
            | 0, _, hL =>
              obtain rfl := Option.some.inj hL
              rfl
            | 1, _, hL =>
              obtain rfl := Option.some.inj hL
              rfl
          rw [upd_same, take_snoc e3, ← List.append_assoc, List.map_append (l₂ := [lk (cs.take i) L])]
          rfl
      · obtain ⟨z5, rfl, sm5, eu, eo5⟩ := hW
        refine ⟨_, _, _, _, rfl, sm5, ?_⟩
        rw [e1]
        exact eo5
    · obtain ⟨y2, y3, y4, y5, rfl, sm, eo⟩ := hW
      rw [show (ts.map V.ref).length = cs.length by rw [List.length_map, hG.len], take_full] at eo
      exact ⟨_, rfl, q H2 o sm no eo⟩
end
end El
namespace El
open PySem PySem.Spec PyProof.Rows L2
section
variable {P : Program} {w : World} {K : PySem.W.Frag} {mg : Str → Option Value} {base : Heap}
abbrev s_parting : Stmt := topS 7
abbrev N_parting : List Str := ["one", "other", "asked", "turn", "n"]
abbrev P_parting : List Str := ["one", "other"]
theorem sc_parting : FnScope N_parting P_parting (defScope s_parting) := ⟨rfl, rfl, rfl, by decide +kernel, rfl, by decide +kernel, by decide +kernel⟩
def sp_parting : Sp := fun vs H Q _ => ∃ (B B' : Addr → Prop) (a o : Addr) (ts us : List Addr) (cs ds : List (Int × Int)), vs = [.ref a, .ref o] ∧ GsAt H B a ts cs ∧ GsAt H B' o us ds ∧ cs.length ≤ 1000 ∧ ds.length ≤ 1000 ∧ Crw cs ∧ Crw ds ∧
  (Like cs ds → ∀ H', Same H H' → Q .non H') ∧ (∀ n, Least cs ds n → ∀ H', Same H H' → Q (.int n) H')
theorem ok_parting (A : At K mg "parting" P_parting s_parting) (B : Bi mg) (D_check_crowds : Df P w K mg base 2 "check_crowds" P_check_crowds s_check_crowds sp_check_crowds) (D_turns : Df P w K mg base 2 "turns" P_turns s_turns sp_turns)
    (D_kept_with : Df P w K mg base 1 "kept_with" P_kept_with s_kept_with sp_kept_with) : Df P w K mg base 3 "parting" P_parting s_parting sp_parting := by
  refine A.df fun f fd F => F.ok sc_parting (fun vs H Q E h => ?_) (fun cdv AA outer s H vs Q E hr h => ?_)
  · obtain ⟨_, _, _, _, _, _, _, _, rfl, _⟩ := h
    rfl
  · obtain ⟨BB, BB', a, o, ts, us, cs, ds, rfl, hG, hG', hl, hl', C1, C2, qn, qi⟩ := h
    have nd := sc_parting.nd
    refine ⟨_, (pss_cons (ps_expr (pe_df D_check_crowds (hr.mono (by decide)) (by rfl) (pa_cons (pv 0) pa_nil)))
    (pss_cons (ps_expr (pe_df D_check_crowds (hr.mono (by decide)) (by rfl) (pa_cons (pv 1) pa_nil)))
    (pss_cons (ps_set (i := 2) nd rfl (.inl rfl) (pe_op op_cat (pe_lst (pa_cons pe_int pa_nil)) (pe_lc (own := [("turn", 3)]) (tt := tYes) rfl nd (pi_list (pe_op op_cat (pe_df D_turns (hr.mono (by decide)) (by rfl) (pa_cons (pv 0) pa_nil)) (pe_df D_turns (hr.mono (by decide)) (by rfl) (pa_cons (pv 1) pa_nil)))) (blkOk_by (N := N_parting) (sc := defScope s_parting) (by decide +kernel)) (fun _ _ _ _ _ => (pg_name (i := 3) nd rfl (.inl rfl))) (fun _ _ _ _ _ => pts_nil) (fun _ _ _ _ _ => (pe_op op_add (pv 3) pe_int)))))
    (pss_one (ps_ret (pe_callBK (cr_minDf K hr.units rfl) (by rfl) B.min (by decide +kernel) (pa_cons (pe_lc (own := [("n", 4)]) rfl nd (pi_list (pv 2)) (blkOk_by (N := N_parting) (sc := defScope s_parting) (by decide +kernel)) (fun _ _ _ _ _ => (pg_name (i := 4) nd rfl (.inl rfl))) (fun _ _ _ _ _ => (pts_one (pt_cmpR op_ne (pe_df D_kept_with (hr.mono (by decide)) (by rfl) (pa_cons (pv 0) (pa_cons (pv 4) pa_nil))) (pe_df D_kept_with (hr.mono (by decide)) (by rfl) (pa_cons (pv 1) (pa_cons (pv 4) pa_nil))) (nomark _)))) (fun _ _ _ _ _ => (pv 4))) pa_nil) (pk_cons pe_non pk_nil))))))), ?_⟩
    refine ⟨.ref a, rfl, BB, a, ts, cs, rfl, hG, C1, fun H1 s1 => ?_⟩
    refine ⟨.ref o, rfl, BB', o, us, ds, rfl, hG'.same s1, C2, fun H2 s2 => ?_⟩
    have s02 := s1.trans s2
    -- asked
    refine ⟨(by show 1 ≤ sizeLine; decide), fun z nz => ?_⟩
    have sz := same_new (o := .lst [.int 0]) nz
    refine ⟨.ref a, rfl, _, a, ts, cs, rfl, hG.same (s02.trans sz), hl, fun H4 t1 s4 n4 et1 => ?_⟩
    refine ⟨.ref o, rfl, _, o, us, ds, rfl, hG'.same (s02.trans (sz.trans s4)), hl', fun H5 t2 s5 n5 et2 => ?_⟩
    refine ⟨t1, t2, _, _, rfl, rfl, s5 _ _ et1, et2, ile (by rw [List.length_map, List.length_map, turns_len, turns_len]; omega), fun c nc => ?_⟩
    have sc := same_new (o := .lst ((turnsL cs).map V.int ++ (turnsL ds).map V.int)) nc
    have s06 := s02.trans (sz.trans (s4.trans (s5.trans sc)))
    have ez := (s4.trans (s5.trans sc)) _ _ (upd_same (H := H2) (a := z) (o := .lst [.int 0]))
    have ec : upd H5 c (.lst ((turnsL cs).map V.int ++ (turnsL ds).map V.int)) c = some (.lst ((turnsL cs ++ turnsL ds).map V.int)) := by rw [upd_same, List.map_append]
    revert s06 ez ec
    generalize upd H5 c (.lst ((turnsL cs).map V.int ++ (turnsL ds).map V.int)) = H6
    intro s06 ez ec
    refine ⟨c, rfl, ⟨_, SqL.of ec⟩, fun D nD => ?_⟩
    have htl : (turnsL cs ++ turnsL ds).length ≤ 4000 := by
      rw [List.length_append, turns_len, turns_len]
      omega
    refine lc_it (walk_list (xs := (turnsL cs ++ turnsL ds).map V.int)) (fun k H2 => Same H6 H2 ∧ H2 D = some (.lst ((((turnsL cs ++ turnsL ds).take k).map (· + 1)).map V.int))) ⟨same_new nD, upd_same⟩ (fun k H2 _ hW => ?_) (fun k x H7 H8 hk hW hY => ?_) (fun H7 hW => ?_)
    · exact SqL.of (hW.1 _ _ ec)
    · obtain ⟨sm, e⟩ := hW
      obtain ⟨rfl, hx⟩ := hY
      obtain ⟨x, ex, rfl⟩ := ints_at hx
      refine ⟨rfl, _, rfl, _, _, rfl, rfl, _, e, ils (by rw [List.length_map, List.length_map, List.length_take]; omega), Same.mut sm nD, ?_⟩
      rw [upd_same, take_snoc ex, List.map_append, List.map_append]
      rfl
    · obtain ⟨s7, eD⟩ := hW
      rw [List.length_map, take_full] at eD
      refine ⟨z, D, _, _, rfl, rfl, s7 _ _ ez, eD, ile (by rw [List.length_map, List.length_map]; show 1 + _ ≤ 100000; omega), fun c2 nc2 => ?_⟩
      have sc2 := same_new (o := .lst ([V.int 0] ++ ((turnsL cs ++ turnsL ds).map (· + 1)).map V.int)) nc2
      have s08 := s06.trans (s7.trans sc2)
      have ec2 : upd H7 c2 (.lst ([V.int 0] ++ ((turnsL cs ++ turnsL ds).map (· + 1)).map V.int)) c2 = some (.lst ((askedL cs ds).map V.int)) := by
        rw [upd_same]
        rfl
      have hal : (askedL cs ds).length ≤ 4001 := by
        show ((turnsL cs ++ turnsL ds).map (· + 1)).length + 1 ≤ 4001
        rw [List.length_map]
        omega
      have hnn : ∀ x ∈ askedL cs ds, 0 ≤ x := fun x m => by
        rcases List.mem_cons.mp m with rfl | m
        · exact Int.le_refl _
        · obtain ⟨y, my, rfl⟩ := List.mem_map.mp m
          rcases List.mem_append.mp my with my | my
          · have := turns_nn _ _ my
            omega
          · have := turns_nn _ _ my
            omega
      revert s08 ec2
      generalize upd H7 c2 (.lst ([V.int 0] ++ ((turnsL cs ++ turnsL ds).map (· + 1)).map V.int)) = H8
      intro s08 ec2
      have G1 := hG.same s08
      have G2 := hG'.same s08
      -- those that part
      refine ⟨.ref c2, rfl, c2, rfl, ⟨_, SqL.of ec2⟩, fun D2 nD2 => ?_⟩
      refine lc_it (walk_list (xs := (askedL cs ds).map V.int)) (fun k H2 => Same H8 H2 ∧ H2 D2 = some (.lst ((((askedL cs ds).take k).filter fun n => !decide (stay cs n = stay ds n)).map V.int))) ⟨same_new nD2, upd_same⟩ (fun k H2 _ hW => ?_) (fun k x H9 H10 hk hW hY => ?_) (fun H9 hW => ?_)
      · exact SqL.of (hW.1 _ _ ec2)
      · obtain ⟨sm, e⟩ := hW
        obtain ⟨rfl, hx⟩ := hY
        obtain ⟨x, ex, rfl⟩ := ints_at hx
        refine ⟨rfl, .ref a, rfl, _, rfl, _, a, ts, cs, x, rfl, G1.same sm, C1, ?_⟩
        refine ⟨.ref o, rfl, _, rfl, _, o, us, ds, x, rfl, G2.same sm, C2, ?_⟩
        refine ⟨rfl, _, rfl, ?_⟩
        have hd : (!decide (V.int (stay cs x) = V.int (stay ds x))) = !decide (stay cs x = stay ds x) := by
          congr 1
          by_cases h : stay cs x = stay ds x
          · rw [h, decide_eq_true rfl, decide_eq_true rfl]
          · rw [decide_eq_false h, decide_eq_false]
            intro z
            injection z with z
            exact h z
        show if (!decide (V.int (stay cs x) = V.int (stay ds x))) = true then _ else _
        rw [hd]
        by_cases h : stay cs x = stay ds x
        · rw [decide_eq_true h]
          refine iteF ⟨sm, ?_⟩
          rw [take_snoc ex, List.filter_append, List.filter_cons_of_neg (by simpa using h), List.filter_nil, List.append_nil]
          exact e
        · rw [decide_eq_false h]
          refine iteT ⟨.int x, rfl, _, e, ils (by rw [List.length_map]; exact Nat.le_trans (List.length_filter_le _ _) (by rw [List.length_take]; omega)), Same.mut sm nD2, ?_⟩
          rw [upd_same, take_snoc ex, List.filter_append, List.filter_cons_of_pos (by simpa using h), List.filter_nil, List.map_append]
          rfl
      · obtain ⟨s9, eD2⟩ := hW
        rw [List.length_map, take_full] at eD2
        have s09 := s08.trans s9
        refine ⟨D2, _, .non, rfl, rfl, SqL.of eD2, fun en => ?_, fun m hm hle => ?_⟩
        · rcases like_or cs ds with hL | ⟨n, hn⟩
          · exact qn hL _ s09
          · have this : n ∈ (askedL cs ds).filter fun n => !decide (stay cs n = stay ds n) := List.mem_filter.mpr ⟨least_asked C1 C2 hn, by simpa using hn.2.1⟩
            rw [en] at this
            cases this
        · obtain ⟨m1, m2⟩ := List.mem_filter.mp hm
          have m2 : stay cs m ≠ stay ds m := by simpa using m2
          rcases like_or cs ds with hL | ⟨n, hn⟩
          · exact absurd (hL m (hnn m m1)) m2
          · have h1 := least_min hn (hnn m m1) m2
            have hin : n ∈ (askedL cs ds).filter fun n => !decide (stay cs n = stay ds n) := List.mem_filter.mpr ⟨least_asked C1 C2 hn, by simpa using hn.2.1⟩
            have h2 := hle n hin
            obtain rfl : m = n := by omega
            exact qi m hn _ s09
end
end El
namespace El
open PySem PySem.Spec PyProof.Rows L2
section
variable {P : Program} {w : World} {K : PySem.W.Frag} {mg : Str → Option Value} {base : Heap}
abbrev s__law_stay : Stmt := topS 15
abbrev N__law_stay : List Str := ["hosts", "elders", "here", "count", "bears", "room_left"]
abbrev P__law_stay : List Str := ["hosts", "elders"]
theorem sc__law_stay : FnScope N__law_stay P__law_stay (defScope s__law_stay) := ⟨rfl, rfl, rfl, by decide +kernel, rfl, by decide +kernel, by decide +kernel⟩
def sp__law_stay : Sp := fun vs H Q _ => ∃ (B : Addr → Prop) (a : Addr) (ts : List Addr) (cs : List (Int × Int)) (n : Int), vs = [.ref a, .int n] ∧ GsAt H B a ts cs ∧ Crw cs ∧ Q (.int (stay cs n)) H
theorem ok__law_stay (A : At K mg "_law_stay" P__law_stay s__law_stay) (B : Bi mg) : Df P w K mg base 1 "_law_stay" P__law_stay s__law_stay sp__law_stay := by
  refine A.df fun f fd F => F.ok sc__law_stay (fun vs H Q E h => ?_) (fun cdv AA outer s H vs Q E hr h => ?_)
  · obtain ⟨_, _, _, _, _, rfl, _⟩ := h
    rfl
  · obtain ⟨BB, a, ts, cs, n, rfl, hG, hC, q⟩ := h
    have nd := sc__law_stay.nd
    refine ⟨_, (pss_cons (ps_set (i := 2) nd rfl (.inl rfl) (pv 1))
    (pss_cons (ps_for PassesOwn.never rfl (pi_list (pv 0)) (pg_tup (by rfl) (pgs_cons (pg_name (i := 3) nd rfl (.inl rfl)) (pgs_cons (pg_name (i := 4) nd rfl (.inl rfl)) pgs_nil))) (pss_cons (ps_set (i := 5) nd rfl (.inl rfl) (pe_op op_sub (pe_op op_add (pv 4) pe_int) (pv 2))) (pss_one (ps_if (pt_cmpR op_gt (pv 5) pe_int (nomark _)) (pss_one (ps_aug (i := 2) nd rfl (.inl rfl) (pe_callB (call_min2 rfl) (by rfl) B.min (by decide +kernel) (pa_cons (pv 3) (pa_cons (pv 5) pa_nil))) ip_add)) pss_nil))))
    (pss_one (ps_ret (pv 2))))), ?_⟩
    refine ⟨.int n, rfl, .ref a, rfl, a, rfl, ⟨_, hG.seq⟩, ?_⟩
    refine for_it (walk_list (xs := ts.map V.ref)) (fun i σ H2 => ∃ y3 y4 y5, σ = [some (.ref a), some (.int n), some (.int (stay (cs.take i) n)), y3, y4, y5] ∧ H2 = H) ⟨none, none, none, rfl, rfl⟩ (fun i σ H2 _ hW => ?_) (fun i x σ H2 H3 hi hW hY => ?_) (fun σ H2 hW => ?_)
    · obtain ⟨_, _, _, _, rfl⟩ := hW
      exact hG.seq
    · obtain ⟨y3, y4, y5, rfl, rfl⟩ := hW
      obtain ⟨rfl, hx⟩ := hY
      obtain ⟨t, g, rfl, eg, et⟩ := hG.get hx
      have hg := hC g (List.mem_of_getElem? eg)
      have e1 : stay (cs.take (i + 1)) n = kst (stay (cs.take i) n) g := by rw [take_snoc eg, stay_snoc]
      refine ⟨t, _, rfl, SqT.of et, rfl, .int g.1, _, rfl, .int g.2, _, rfl, rfl, ?_⟩
      refine ⟨.int g.2, rfl, _, _, rfl, rfl, .int (stay (cs.take i) n), rfl, _, _, rfl, rfl, ?_⟩
      refine ⟨_, rfl, _, _, rfl, rfl, _, rfl, ite2 (fun e => ?_) (fun e => ?_)⟩
      · have e := of_decide_eq_true e
        refine ⟨_, rfl, _, rfl, _, rfl, _, _, rfl, _, _, rfl, rfl, ?_⟩
        refine ⟨some (.int g.1), some (.int g.2), some (.int (g.2 + 1 - stay (cs.take i) n)), ?_, rfl⟩
        rw [e1]
        have e2 : stay (cs.take i) n + (if g.2 + 1 - stay (cs.take i) n < g.1 then g.2 + 1 - stay (cs.take i) n else g.1) = kst (stay (cs.take i) n) g := by
          unfold kst
          split <;> split <;> (try split) <;> omega
        rw [← e2]
        rfl
      · have e : ¬ (g.2 + 1 - stay (cs.take i) n > 0) := fun z => e (decide_eq_true z)
        refine ⟨some (.int g.1), some (.int g.2), some (.int (g.2 + 1 - stay (cs.take i) n)), ?_, rfl⟩
        rw [e1]
        have e2 : stay (cs.take i) n = kst (stay (cs.take i) n) g := by
          unfold kst
          split <;> (try split) <;> omega
        rw [← e2]
        rfl
    · obtain ⟨y3, y4, y5, rfl, rfl⟩ := hW
      rw [show (ts.map V.ref).length = cs.length by rw [List.length_map, hG.len], take_full]
      exact ⟨_, rfl, q⟩
end
end El
namespace El
open PySem PySem.Spec PyProof.Rows L2
section
variable {P : Program} {w : World} {K : PySem.W.Frag} {mg : Str → Option Value} {base : Heap}
abbrev s__law_led_back : Stmt := topS 17
abbrev N__law_led_back : List Str := ["hosts", "goal", "few", "many", "middle"]
abbrev P__law_led_back : List Str := ["hosts", "goal"]
theorem sc__law_led_back : FnScope N__law_led_back P__law_led_back (defScope s__law_led_back) := ⟨rfl, rfl, rfl, by decide +kernel, rfl, by decide +kernel, by decide +kernel⟩
def sp__law_led_back : Sp := fun vs H Q _ => ∃ (B : Addr → Prop) (a : Addr) (ts : List Addr) (cs : List (Int × Int)) (L : Int), vs = [.ref a, .int L] ∧ GsAt H B a ts cs ∧ Crw cs ∧ Q (.int (lk cs L)) H
theorem ok__law_led_back (A : At K mg "_law_led_back" P__law_led_back s__law_led_back) (B : Bi mg) (D__law_stay : Df P w K mg base 1 "_law_stay" P__law_stay s__law_stay sp__law_stay) : Df P w K mg base 2 "_law_led_back" P__law_led_back s__law_led_back sp__law_led_back := by
  refine A.df fun f fd F => F.ok sc__law_led_back (fun vs H Q E h => ?_) (fun cdv AA outer s H vs Q E hr h => ?_)
  · obtain ⟨_, _, _, _, _, rfl, _⟩ := h
    rfl
  · obtain ⟨BB, a, ts, cs, L, rfl, hG, C, q⟩ := h
    have nd := sc__law_led_back.nd
    refine ⟨_, (pss_cons (ps_par (i := 2) (j := 3) (by rfl) nd rfl rfl (by decide) rfl rfl (pa_cons (pe_un un_neg pe_int) (pa_cons (pe_callB (call_max2 rfl) (by rfl) B.max (by decide +kernel) (pa_cons pe_int (pa_cons (pv 1) pa_nil))) pa_nil)) (by rfl))
    (pss_cons (ps_while PassesOwn.never (pt_cmpR op_gt (pe_op op_sub (pv 3) (pv 2)) pe_int (nomark _)) (pss_cons (ps_set (i := 4) nd rfl (.inl rfl) (pe_op op_fdivW (pe_op op_add (pv 2) (pv 3)) pe_int)) (pss_one (ps_if (pt_cmpR op_ge (pe_df D__law_stay (hr.mono (by decide)) (by rfl) (pa_cons (pv 0) (pa_cons (pv 4) pa_nil))) (pv 1) (nomark _)) (pss_one (ps_set (i := 3) nd rfl (.inl rfl) (pv 4))) (pss_one (ps_set (i := 2) nd rfl (.inl rfl) (pv 4)))))))
    (pss_one (ps_ret (pv 3))))), ?_⟩
    refine ⟨_, rfl, _, rfl, _, _, rfl, _, _, rfl, ?_⟩
    generalize hm : (if L > (0 : Int) then L else 0) = M
    have hML : L ≤ M ∧ 0 ≤ M := by
      rw [← hm]
      split <;> omega
    have h0 : lk cs L ≤ M := (lk_iff C hML.2).mp (Int.le_trans hML.1 (stay_ge C M))
    dsimp only
    refine seq_to (fun σ H2 => ∃ y2 y4, σ = [some (.ref a), some (.int L), y2, some (.int (lk cs L)), y4] ∧ H2 = H) (fun X hX => ?_) (fun σ H2 hE => ?_)
    · refine while_to (fun m σ H2 => ∃ (lo hi : Int) (y4 : Option V), σ = [some (.ref a), some (.int L), some (.int lo), some (.int hi), y4] ∧ H2 = H ∧ -1 ≤ lo ∧ lo < lk cs L ∧ lk cs L ≤ hi ∧ (m : Int) = hi - lo)
        (fun σ H2 => ∃ y2 y4, σ = [some (.ref a), some (.int L), y2, some (.int (lk cs L)), y4] ∧ H2 = H) ⟨(M + 1).toNat, -1, M, _, rfl, rfl, (by omega), (by have := lk_nn cs L; omega), h0, (by omega)⟩ hX (fun X hX m σ H2 hW => ?_)
      obtain ⟨lo, hi, y4, rfl, rfl, hlo, hlk, hhi, hmm⟩ := hW
      refine ⟨_, rfl, _, rfl, _, _, rfl, rfl, _, _, rfl, rfl, _, rfl, ite2 (fun e => ?_) (fun e => ?_)⟩
      · have e := of_decide_eq_true e
        refine ⟨fun σ' H' => ∃ (m' : Nat) (lo hi : Int) (y4 : Option V), σ' = [some (.ref a), some (.int L), some (.int lo), some (.int hi), y4] ∧ H' = H2 ∧ -1 ≤ lo ∧ lo < lk cs L ∧ lk cs L ≤ hi ∧ (m' : Int) = hi - lo ∧ m' < m, fun σ' H' h => ?_, ?_⟩
        · obtain ⟨m', lo', hi', y, e1, e2, e3, e4, e5, e6, e7⟩ := h
          exact ⟨m', e7, lo', hi', y, e1, e2, e3, e4, e5, e6⟩
        · refine ⟨_, rfl, _, rfl, _, _, rfl, rfl, _, _, rfl, rfl, ⟨by decide, by decide⟩, ?_⟩
          dsimp only
          generalize hmid : (lo + hi) / 2 = mid
          have hm1 : lo < mid ∧ mid < hi := by omega
          refine ⟨.ref a, rfl, .int mid, rfl, _, a, ts, cs, mid, rfl, hG, C, .int L, rfl, _, _, rfl, rfl, _, rfl, ite2 (fun e2 => ?_) (fun e2 => ?_)⟩
          · have e2 : L ≤ stay cs mid := of_decide_eq_true e2
            refine ⟨.int mid, rfl, (mid - lo).toNat, lo, mid, _, rfl, rfl, hlo, hlk, (lk_iff C (by omega)).mp e2, by omega, by omega⟩
          · have e2 : ¬ L ≤ stay cs mid := fun z => e2 (decide_eq_true z)
            refine ⟨.int mid, rfl, (hi - mid).toNat, mid, hi, _, rfl, rfl, by omega, ?_, hhi, by omega, by omega⟩
            refine Int.not_le.mp fun z => e2 ((lk_iff C (by omega)).mpr z)
      · have e : ¬ hi - lo > 1 := fun z => e (decide_eq_true z)
        obtain rfl : hi = lk cs L := by omega
        exact hX _ _ ⟨some (.int lo), y4, rfl, rfl⟩
    · obtain ⟨y2, y4, rfl, rfl⟩ := hE
      exact ⟨_, rfl, q⟩
end
end El
namespace El
open PySem PySem.Spec PyProof.Rows L2
section
variable {P : Program} {w : World} {K : PySem.W.Frag} {mg : Str → Option Value} {base : Heap}
abbrev s__law_places : Stmt := topS 18
abbrev N__law_places : List Str := ["lot", "found", "k", "goal", "at"]
abbrev P__law_places : List Str := ["lot"]
theorem sc__law_places : FnScope N__law_places P__law_places (defScope s__law_places) := ⟨rfl, rfl, rfl, by decide +kernel, rfl, by decide +kernel, by decide +kernel⟩
/-- 0, and one more than each turn, are among them -/
def sp__law_places : Sp := fun vs H Q _ => ∃ (B : Addr → Prop) (a : Addr) (ts : List Addr) (cs : List (Int × Int)), vs = [.ref a] ∧ GsAt H B a ts cs ∧ Crw cs ∧ cs.length ≤ 100 ∧
  ∀ H' o (ns : List Int), Same H H' → H' o = some (.lst (ns.map V.int)) → ns.length ≤ 2 + 6 * cs.length → (∀ x ∈ ns, 0 ≤ x) → 0 ∈ ns → (∀ x ∈ turnsL cs, x + 1 ∈ ns) → Q (.ref o) H'
theorem ok__law_places (A : At K mg "_law_places" P__law_places s__law_places) (B : Bi mg) (D__law_led_back : Df P w K mg base 2 "_law_led_back" P__law_led_back s__law_led_back sp__law_led_back) : Df P w K mg base 3 "_law_places" P__law_places s__law_places sp__law_places := by
  refine A.df fun f fd F => F.ok sc__law_places (fun vs H Q E h => ?_) (fun cdv AA outer s H vs Q E hr h => ?_)
  · obtain ⟨_, _, _, _, rfl, _⟩ := h
    rfl
  · obtain ⟨BB, a, ts, cs, rfl, hG, C, hl, q⟩ := h
    have nd := sc__law_places.nd
    refine ⟨_, (pss_cons (ps_set (i := 1) nd rfl (.inl rfl) (pe_lst (pa_cons pe_int (pa_cons pe_int pa_nil))))
    (pss_cons (ps_for PassesOwn.never rfl (pi_range1 (by rfl) B.range (pa_cons (pe_callB call_len_seq (by rfl) B.len PySem.boot_len (pa_cons (pv 0) pa_nil)) pa_nil)) (pg_name (i := 2) nd rfl (.inl rfl)) (pss_one (ps_for PassesOwn.never rfl (pi_tup (pe_tup (pa_cons (pe_op op_add (pe_ix ix_tup (pe_ix ix_list (pv 0) (pv 2) (fun _ _ => rfl)) pe_int (fun _ _ => rfl)) pe_int) (pa_cons (pe_op op_sub (pe_op op_add (pe_ix ix_tup (pe_ix ix_list (pv 0) (pv 2) (fun _ _ => rfl)) pe_int (fun _ _ => rfl)) pe_int) (pe_ix ix_tup (pe_ix ix_list (pv 0) (pv 2) (fun _ _ => rfl)) pe_int (fun _ _ => rfl))) pa_nil)))) (pg_name (i := 3) nd rfl (.inl rfl)) (pss_cons (ps_set (i := 4) nd rfl (.inl rfl) (pe_df D__law_led_back (hr.mono (by decide)) (by rfl) (pa_cons (pe_slice sl_list (pv 0) po_none (po_some (pv 2))) (pa_cons (pv 3) pa_nil)))) (pss_one (ps_expr (pe_bm PySem.F.plainAttrs_list PySem.F.slot_list_extend PySem.F.type_list_extend mt_extend (pv 1) (pa_cons (pe_lst (pa_cons (pe_callB (call_max2 rfl) (by rfl) B.max (by decide +kernel) (pa_cons pe_int (pa_cons (pe_op op_sub (pv 4) pe_int) pa_nil))) (pa_cons (pv 4) (pa_cons (pe_op op_add (pv 4) pe_int) pa_nil)))) pa_nil))))))))
    (pss_one (ps_ret (pv 1))))), ?_⟩
    refine ⟨(by show 2 ≤ sizeLine; decide), fun o no => ?_⟩
    have so := same_new (o := .lst [.int 0, .int 1]) no
    have eo : (upd H o (.lst [.int 0, .int 1])) o = some (.lst ([0, 1].map V.int)) := upd_same
    have noo := no
    generalize upd H o (.lst [.int 0, .int 1]) = H1 at so eo ⊢
    have hG1 := hG.same so
    dsimp only [gName]
    refine ⟨.ref a, rfl, a, _, rfl, .inl hG1.seq, _, rfl, by omega, by rw [List.length_map, hG1.len]; omega, ?_⟩
    have hcount : (((ts.map V.ref).length : Nat) : Int).toNat = cs.length := by
      rw [List.length_map, hG1.len]
      omega
    refine for_it walk_range (fun i σ H2 => ∃ (ns : List Int) (y2 y3 y4 : Option V), σ = [some (.ref a), some (.ref o), y2, y3, y4] ∧ Kp (fun z => z ≠ o) H1 H2 ∧ H2 o = some (.lst (ns.map V.int)) ∧ ns.length ≤ 2 + 6 * i ∧ (∀ x ∈ ns, 0 ≤ x) ∧ 0 ∈ ns ∧ ∀ x ∈ turnsL (cs.take i), x + 1 ∈ ns)
      ⟨[0, 1], _, _, _, rfl, Kp.refl, eo, Nat.le_refl _, by decide, .head _, fun x m => absurd m List.not_mem_nil⟩ (fun _ _ _ _ _ => trivial) (fun i x σ H2 H3 hi hW hY => ?_) (fun σ H2 hW => ?_)
    · obtain ⟨ns, y2, y3, y4, rfl, kp, ho, hnl, hnn, h0, htr⟩ := hW
      obtain ⟨rfl, hx⟩ := hY
      obtain rfl := rg0 hx
      have hic : i < cs.length := by
        rw [← hcount]
        exact hi
      obtain ⟨g, eg⟩ := at_some hic
      have hao : a ≠ o := ne_of_none hG.top noo
      have hG3 : GsAt H3 (fun z => z ≠ o) a ts cs := by
        have hto : ∀ t ∈ ts, t ≠ o := fun t m z => by
          obtain ⟨x, e⟩ := hG.there t (.inr m)
          rw [z, noo] at e
          cases e
        exact ⟨kp _ _ hao hG1.top, hao, hG1.len, fun i t x e f => kp _ _ (hto t (List.mem_of_getElem? e)) (hG1.at' i t x e f), hto⟩
      obtain ⟨t, et, eu⟩ := hG3.at_ eg
      refine ⟨.ref a, rfl, .int (i : Int), rfl, a, _, _, .ref t, rfl, rfl, hG3.seq, atI_nat (j := i) et, t, _, 1, .int g.2, rfl, rfl, SqT.of eu, atI_nat (j := 1) rfl, _, _, rfl, rfl, ?_⟩
      refine ⟨.ref a, rfl, .int (i : Int), rfl, a, _, _, .ref t, rfl, rfl, hG3.seq, atI_nat (j := i) et, t, _, 1, .int g.2, rfl, rfl, SqT.of eu, atI_nat (j := 1) rfl, _, _, rfl, rfl, ?_⟩
      refine ⟨.ref a, rfl, .int (i : Int), rfl, a, _, _, .ref t, rfl, rfl, hG3.seq, atI_nat (j := i) et, t, _, 0, .int g.1, rfl, rfl, SqT.of eu, atI_nat (j := 0) rfl, _, _, rfl, rfl, (by show 2 ≤ sizeLine; decide), fun u nu => ⟨u, rfl, ⟨_, SqT.of upd_same⟩, ?_⟩⟩
      have su := same_new (o := .tup [.int (g.2 + 1), .int (g.2 + 1 - g.1)]) nu
      have huo : u ≠ o := (ne_of_none ho nu).symm
      have C' : Crw (cs.take i) := fun c m => C c (List.mem_of_mem_take m)
      refine for_it (walk_tup (xs := [V.int (g.2 + 1), .int (g.2 + 1 - g.1)])) (fun k σ H5 => ∃ (ms : List Int) (y3 y4 : Option V), σ = [some (.ref a), some (.ref o), some (.int (i : Int)), y3, y4] ∧ Kp (fun z => z ≠ o) H3 H5 ∧ H5 u = some (.tup [.int (g.2 + 1), .int (g.2 + 1 - g.1)]) ∧ H5 o = some (.lst (ms.map V.int)) ∧ ms.length ≤ 2 + 6 * i + 3 * k ∧ (∀ x ∈ ms, 0 ≤ x) ∧ 0 ∈ ms ∧ (∀ x ∈ turnsL (cs.take i), x + 1 ∈ ms) ∧ ∀ L ∈ [g.2 + 1, g.2 + 1 - g.1].take k, lk (cs.take i) L + 1 ∈ ms)
        ⟨ns, _, _, rfl, .of su, upd_same, su _ _ ho, by omega, hnn, h0, htr, fun L m => absurd m List.not_mem_nil⟩ (fun k σ H5 _ hW => ?_) (fun k x σ H5 H6 hk hW hY => ?_) (fun σ H5 hW => ?_)
      · obtain ⟨_, _, _, _, _, eu, _⟩ := hW
        exact SqT.of eu
      · obtain ⟨ms, z3, z4, rfl, kp5, eu5, ho5, hl5, hn5, h05, ht5, hk5⟩ := hW
        obtain ⟨rfl, hx⟩ := hY
        have hk2 : k < 2 := hk
        obtain ⟨L, hL, rfl⟩ : ∃ L : Int, [g.2 + 1, g.2 + 1 - g.1][k]? = some L ∧ x = .int L := by
          match k, hk, hx with
          | 0, _, hx => exact ⟨_, rfl, (Option.some.inj hx).symm⟩
          | 1, _, hx => exact ⟨_, rfl, (Option.some.inj hx).symm⟩
        have hG6 := hG3.keep kp5
        refine ⟨.ref a, rfl, .int (i : Int), rfl, _, rfl, a, _, rfl, hG6.seq, fun p np => ?_⟩
        rw [cut_to, ← List.map_take]
        have sp := same_new (o := .lst ((ts.take i).map V.ref)) np
        have hGp := ((hG6.same sp).pr.take i).gs (a := p) upd_same
        refine ⟨.int L, rfl, _, p, _, _, L, rfl, hGp, C', ?_⟩
        have ho6 := sp _ _ ho5
        have eu6 := sp _ _ eu5
        generalize upd H6 p (.lst ((ts.take i).map V.ref)) = H7 at sp ho6 eu6 ⊢
        have hA0 := lk_nn (cs.take i) L
        generalize hA : lk (cs.take i) L = A at hA0
        dsimp only [gName]
        refine ⟨.ref o, rfl, .inl ⟨rfl, _, SqL.of ho6⟩, .int A, rfl, _, _, rfl, rfl, _, _, rfl, .int A, rfl, .int A, rfl, _, _, rfl, rfl, (by show 3 ≤ sizeLine; decide), fun l nl => ?_⟩
        have hM0 : (0 : Int) ≤ (if A - 1 > 0 then A - 1 else 0) := by split <;> omega
        generalize (if A - 1 > (0 : Int) then A - 1 else 0) = M at hM0 ⊢
        have sl := same_new (o := .lst [.int M, .int A, .int (A + 1)]) nl
        have el := upd_same (H := H7) (a := l) (o := .lst [.int M, .int A, .int (A + 1)])
        have ho8 := sl _ _ ho6
        have eu8 := sl _ _ eu6
        have nlo : l ≠ o := (ne_of_none ho6 nl).symm
        generalize upd H7 l (.lst [.int M, .int A, .int (A + 1)]) = H8 at sl el ho8 eu8 ⊢
        refine ⟨o, l, _, _, rfl, rfl, ho8, el, ile (by rw [List.length_map]; show _ + 3 ≤ 100000; omega), ?_⟩
        have kp9 : Kp (fun z => z ≠ o) H8 (upd H8 o (.lst (ms.map V.int ++ [.int M, .int A, .int (A + 1)]))) := Kp.mut Kp.refl fun h => h rfl
        refine ⟨ms ++ [M, A, A + 1], _, _, rfl, ((kp5.trans (.of sp)).trans (.of sl)).trans kp9, kp9 _ _ huo eu8, by rw [upd_same, List.map_append]; rfl, by rw [List.length_append]; show _ + 3 ≤ _; omega, fun x m => ?_, List.mem_append_left _ h05, fun x m => List.mem_append_left _ (ht5 x m), fun y m => ?_⟩
        · rcases List.mem_append.mp m with m | m
          · exact hn5 x m
          · simp only [List.mem_cons, List.not_mem_nil, or_false] at m
            rcases m with rfl | rfl | rfl <;> omega
        · rw [take_snoc hL] at m
          rcases List.mem_append.mp m with m | m
          · exact List.mem_append_left _ (hk5 y m)
          · rw [List.mem_singleton.mp m, hA]
            exact List.mem_append_right _ (by simp)
      · obtain ⟨ms, z3, z4, rfl, kp5, eu5, ho5, hl5, hn5, h05, ht5, hk5⟩ := hW
        refine ⟨ms, _, _, _, rfl, kp.trans kp5, ho5, by show ms.length ≤ 2 + 6 * (i + 1); have : ms.length ≤ 2 + 6 * i + 3 * 2 := hl5; omega, hn5, h05, fun x m => ?_⟩
        rw [take_snoc eg, turns_snoc] at m
        rcases List.mem_append.mp m with m | m
        · exact ht5 x m
        · rcases List.mem_cons.mp m with rfl | m
          · exact hk5 _ (.tail _ (.head _))
          · rw [List.mem_singleton.mp m]
            exact hk5 _ (.head _)
    · obtain ⟨ns, y2, y3, y4, rfl, kp, ho, hnl, hnn, h0, htr⟩ := hW
      rw [hcount] at hnl htr
      rw [take_full] at htr
      refine ⟨.ref o, rfl, q H2 o ns (fun b u e => ?_) ho hnl hnn h0 htr⟩
      exact kp b u (ne_of_none e noo) (so b u e)
end
end El
namespace El
open PySem PySem.Spec PyProof.Rows L2
/-! ### the bag of draws -/
def bagL (g : Addr) (l t f : Int) : List (L2.Key × V) := [(Sum.inr "great", .ref g), (Sum.inr "left", .int l), (Sum.inr "turn", .int t), (Sum.inr "fold", .int f)]
theorem bag_great {H : Hp} {b g : Addr} {l t f : Int} (h : H b = some (.dK (bagL g l t f))) : DGet H b (.str "great") (some (.ref g)) := DGet.k (k := Sum.inr "great") h
theorem bag_left {H : Hp} {b g : Addr} {l t f : Int} (h : H b = some (.dK (bagL g l t f))) : DGet H b (.str "left") (some (.int l)) := DGet.k (k := Sum.inr "left") h
theorem bag_turn {H : Hp} {b g : Addr} {l t f : Int} (h : H b = some (.dK (bagL g l t f))) : DGet H b (.str "turn") (some (.int t)) := DGet.k (k := Sum.inr "turn") h
theorem bag_fold {H : Hp} {b g : Addr} {l t f : Int} (h : H b = some (.dK (bagL g l t f))) : DGet H b (.str "fold") (some (.int f)) := DGet.k (k := Sum.inr "fold") h
theorem bag_putLeft {H : Hp} {b g : Addr} {l t f z : Int} (h : H b = some (.dK (bagL g l t f))) : DPut H b (.str "left") (.int z) (upd H b (.dK (bagL g z t f))) := DPut.k (k := Sum.inr "left") (v := .int z) h (by show 4 < sizeLine; decide)
theorem bag_putTurn {H : Hp} {b g : Addr} {l t f z : Int} (h : H b = some (.dK (bagL g l t f))) : DPut H b (.str "turn") (.int z) (upd H b (.dK (bagL g l z f))) := DPut.k (k := Sum.inr "turn") (v := .int z) h (by show 4 < sizeLine; decide)
def Off (t g : Addr) (b : Addr) : Prop := b ≠ t ∧ b ≠ g
theorem Kp.off {H H' : Hp} {t g p : Addr} {o : HO} (e : Kp (Off t g) H H') (h : p = t ∨ p = g) : Kp (Off t g) H (upd H' p o) := e.mut fun z => by
  rcases h with rfl | rfl
  · exact z.1 rfl
  · exact z.2 rfl
structure Bag (H : Hp) (b g : Addr) (n : Nat) : Prop where
  ne : b ≠ g
  ex : ∃ (gs : List Int) (l t f : Int), H b = some (.dK (bagL g l t f)) ∧ H g = some (.lst (gs.map V.int)) ∧ (∀ x ∈ gs, 0 ≤ x) ∧ gs.length ≤ 63 ∧ 0 ≤ l ∧ 0 ≤ t ∧ t ≤ n ∧ 0 ≤ f ∧ f < 2305843009213693951
theorem Bag.keep {H H' : Hp} {b g : Addr} {n : Nat} (h : Bag H b g n) (k : Same H H') : Bag H' b g n := by
  obtain ⟨gs, l, t, f, h1, h2, h3⟩ := h.ex
  exact ⟨h.ne, gs, l, t, f, k _ _ h1, k _ _ h2, h3⟩
theorem Bag.more {H : Hp} {b g : Addr} {n m : Nat} (h : Bag H b g n) (k : n ≤ m) : Bag H b g m := by
  obtain ⟨gs, l, t, f, h1, h2, h3, h4, h5, h6, h7, h8⟩ := h.ex
  exact ⟨h.ne, gs, l, t, f, h1, h2, h3, h4, h5, h6, by omega, h8⟩
theorem Bag.off {H : Hp} {b g : Addr} {n : Nat} (h : Bag H b g n) {p : Addr} (e : H p = none) : Off b g p := by
  obtain ⟨gs, l, t, f, h1, h2, _⟩ := h.ex
  exact ⟨no_of h1 e, no_of h2 e⟩
theorem Bag.mut {H : Hp} {b g : Addr} {n : Nat} (h : Bag H b g n) {p : Addr} {o : HO} (k : Off b g p) : Bag (upd H p o) b g n := by
  obtain ⟨gs, l, t, f, h1, h2, h3⟩ := h.ex
  exact ⟨h.ne, gs, l, t, f, by rw [upd_ne k.1.symm]; exact h1, by rw [upd_ne k.2.symm]; exact h2, h3⟩
end El
namespace El
open PySem PySem.Spec PyProof.Rows L2
section
variable {P : Program} {w : World} {K : PySem.W.Frag} {mg : Str → Option Value} {base : Heap}
abbrev s__law_bag : Stmt := topS 12
abbrev N__law_bag : List Str := ["script", "fold", "great", "cell"]
abbrev P__law_bag : List Str := ["script"]
theorem sc__law_bag : FnScope N__law_bag P__law_bag (defScope s__law_bag) := ⟨rfl, rfl, rfl, by decide +kernel, rfl, by decide +kernel, by decide +kernel⟩
def sp__law_bag (K : PySem.W.Frag) : Sp := fun vs H Q _ => ∃ (a : Addr) (ns : List Int), vs = [.ref a] ∧ SqL K H a (ns.map V.int) ∧ ns.length ≤ 63 ∧
  ∀ H' b g, Same H H' → H b = none → H g = none → Bag H' b g 0 → Q (.ref b) H'
theorem ok__law_bag (A : At K mg "_law_bag" P__law_bag s__law_bag) (B : Bi mg) : Df P w K mg base 1 "_law_bag" P__law_bag s__law_bag (sp__law_bag K) := by
  refine A.df fun f fd F => F.ok sc__law_bag (fun vs H Q E h => ?_) (fun cdv AA outer s H vs Q E hr h => ?_)
  · obtain ⟨a, _, rfl, _⟩ := h
    rfl
  · obtain ⟨a, ns, rfl, hS, hl, q⟩ := h
    have nd := sc__law_bag.nd
    refine ⟨_, (pss_cons (ps_par (i := 1) (j := 2) (by rfl) nd rfl rfl (by decide) rfl rfl (pa_cons pe_int (pa_cons (pe_lst pa_nil) pa_nil)) (by rfl))
    (pss_cons (ps_for PassesOwn.never rfl (pi_list (pv 0)) (pg_name (i := 3) nd rfl (.inl rfl)) (pss_cons (ps_set (i := 1) nd rfl (.inl rfl) (pe_op op_mod (pe_op op_add (pe_op op_mul (pv 1) pe_int) (pv 3)) pe_int)) (pss_one (ps_if (pt_cmpR op_ge (pe_callB call_abs (by rfl) B.abs (by decide +kernel) (pa_cons (pv 3) pa_nil)) (pe_op op_pow pe_int pe_int) (nomark _)) (pss_one (ps_expr (pe_bm PySem.F.plainAttrs_list PySem.F.slot_list_append PySem.F.type_list_append mt_append (pv 2) (pa_cons (pe_callB call_abs (by rfl) B.abs (by decide +kernel) (pa_cons (pv 3) pa_nil)) pa_nil)))) pss_nil))))
    (pss_one (ps_ret (pe_disp (pps_cons pe_str (pv 2) (pps_cons pe_str pe_int (pps_cons pe_str pe_int (pps_cons pe_str (pv 1) pps_nil)))) (by rfl) (by rfl) (fun z => by cases z) (by decide)))))), ?_⟩
    refine ⟨Nat.zero_le _, fun g ng => ⟨_, _, rfl, ?_⟩⟩
    refine ⟨.ref a, rfl, a, rfl, ⟨_, (same_new ng).seq hS⟩, ?_⟩
    refine for_it (walk_list (xs := ns.map V.int)) (fun i σ H2 => ∃ (c : Int) (gs : List Int) (y3 : Option V), σ = [some (.ref a), some (.int c), some (.ref g), y3] ∧ Same H H2 ∧ H2 g = some (.lst (gs.map V.int)) ∧ (∀ x ∈ gs, 0 ≤ x) ∧ gs.length ≤ i ∧ 0 ≤ c ∧ c < 2305843009213693951)
      ⟨11, [], none, rfl, same_new ng, upd_same, fun x h => absurd h (by simp), Nat.le_refl _, by decide, by decide⟩ (fun i σ H2 _ hW => ?_) (fun i x σ H2 H3 hi hW hY => ?_) (fun σ H2 hW => ?_)
    · obtain ⟨_, _, _, _, sm, _⟩ := hW
      exact sm.seq hS
    · obtain ⟨c, gs, y3, rfl, sm, eg, hp, hgl, c0, c1⟩ := hW
      obtain ⟨rfl, hx⟩ := hY
      obtain ⟨n, hx', rfl⟩ := ints_at hx
      have hil : i < 63 := by
        rw [List.length_map] at hi
        omega
      refine ⟨.int c, rfl, _, _, rfl, rfl, .inl ⟨by omega, by omega⟩, .int n, rfl, _, _, rfl, rfl, _, _, rfl, rfl, (by show (0 : Int) < 2305843009213693951; decide), ?_⟩
      have f0 : 0 ≤ (c * 1000003 + n) % 2305843009213693951 := Int.emod_nonneg _ (by decide)
      have f1 : (c * 1000003 + n) % 2305843009213693951 < 2305843009213693951 := Int.emod_lt_of_pos _ (by decide)
      refine ⟨.int n, rfl, _, rfl, _, _, rfl, rfl, ⟨by decide, by decide, by decide⟩, _, _, rfl, rfl, _, rfl, ite2 (fun e => ?_) (fun e => ?_)⟩
      · have m0 : 0 ≤ (if n < 0 then -n else n) := by split <;> omega
        refine ⟨.ref g, rfl, .inl ⟨rfl, _, SqL.of eg⟩, .int n, rfl, _, rfl, g, _, _, rfl, rfl, eg, ils (by rw [List.length_map]; omega), ?_⟩
        refine ⟨_, gs ++ [if n < 0 then -n else n], _, rfl, Same.mut sm ng, by rw [upd_same, List.map_append]; rfl, fun x hx => ?_, by rw [List.length_append, List.length_singleton]; omega, f0, f1⟩
        rcases List.mem_append.mp hx with hx | hx
        · exact hp x hx
        · rw [List.mem_singleton.mp hx]
          exact m0
      · exact ⟨_, gs, _, rfl, sm, eg, hp, Nat.le_succ_of_le hgl, f0, f1⟩
    · obtain ⟨c, gs, y3, rfl, sm, eg, hp, hgl, c0, c1⟩ := hW
      rw [List.length_map] at hgl
      refine fun b nb => ⟨.ref g, rfl, .int c, rfl, upd_same, [(Sum.inr "great", .ref g), (Sum.inr "left", .int 0), (Sum.inr "turn", .int 0), (Sum.inr "fold", .int c)], rfl, (by show 4 ≤ 15; decide), ?_⟩
      have nbg : g ≠ b := ne_of_none eg nb
      rw [upd_upd]
      exact q _ b g (sm.trans (same_new nb)) (sm.free nb) ng ⟨nbg.symm, gs, 0, 0, c, upd_same, by rw [upd_ne nbg]; exact eg, hp, by omega, by decide, by decide, by decide, c0, c1⟩
end
end El
namespace El
open PySem PySem.Spec PyProof.Rows L2
section
variable {P : Program} {w : World} {K : PySem.W.Frag} {mg : Str → Option Value} {base : Heap}
abbrev s__law_draw : Stmt := topS 13
abbrev N__law_draw : List Str := ["bag", "many", "drawn", "turn", "mixed"]
abbrev P__law_draw : List Str := ["bag", "many"]
theorem sc__law_draw : FnScope N__law_draw P__law_draw (defScope s__law_draw) := ⟨rfl, rfl, rfl, by decide +kernel, rfl, by decide +kernel, by decide +kernel⟩
def sp__law_draw : Sp := fun vs H Q _ => ∃ (b g : Addr) (n : Nat) (m : Int), vs = [.ref b, .int m] ∧ Bag H b g n ∧ n ≤ 1000000000 ∧ 0 < m ∧ m < 2 ^ 200 ∧
  ∀ H' r, Kp (Off b g) H H' → Bag H' b g (n + 1) → 0 ≤ r → r < m → Q (.int r) H'
theorem ok__law_draw (A : At K mg "_law_draw" P__law_draw s__law_draw) (B : Bi mg) : Df P w K mg base 1 "_law_draw" P__law_draw s__law_draw sp__law_draw := by
  refine A.df fun f fd F => F.ok sc__law_draw (fun vs H Q E h => ?_) (fun cdv AA outer s H vs Q E hr h => ?_)
  · obtain ⟨_, _, _, _, rfl, _⟩ := h
    rfl
  · obtain ⟨b, g, n, m, rfl, hT, hn, m0, m1, q⟩ := h
    have nd := sc__law_draw.nd
    refine ⟨_, (pss_cons (ps_if (PW.pt (pw_and (pt_cmpR op_lt (pe_dget (hu_of hr) (pv 0) pe_str (fun _ _ => rfl)) (pv 1) (nomark _)) (pw_and1 (pt_cmpR op_gt (pe_callB call_len_seq (by rfl) B.len PySem.boot_len (pa_cons (pe_dget (hu_of hr) (pv 0) pe_str (fun _ _ => rfl)) pa_nil)) pe_int (nomark _))))) (pss_one (ps_dput (hu_of hr) (pv 0) pe_str (pe_bm PySem.F.plainAttrs_list PySem.F.slot_list_pop PySem.F.type_list_pop mt_popAt (pe_dget (hu_of hr) (pv 0) pe_str (fun _ _ => rfl)) (pa_cons pe_int pa_nil)) rfl)) pss_nil)
    (pss_cons (ps_if (pt_cmpR op_ge (pe_dget (hu_of hr) (pv 0) pe_str (fun _ _ => rfl)) (pv 1) (nomark _)) (pss_cons (ps_set (i := 2) nd rfl (.inl rfl) (pe_op op_mod (pe_dget (hu_of hr) (pv 0) pe_str (fun _ _ => rfl)) (pv 1))) (pss_cons (ps_dput (hu_of hr) (pv 0) pe_str (pe_op op_fdivW (pe_dget (hu_of hr) (pv 0) pe_str (fun _ _ => rfl)) (pv 1)) rfl) (pss_one (ps_ret (pv 2))))) pss_nil)
    (pss_cons (ps_daug (hu_of hr) (pv 0) pe_str pe_int in_add (fun _ _ _ => rfl))
    (pss_cons (ps_set (i := 3) nd rfl (.inl rfl) (pe_dget (hu_of hr) (pv 0) pe_str (fun _ _ => rfl)))
    (pss_cons (ps_set (i := 4) nd rfl (.inl rfl) (pe_op op_add (pe_op op_mul (pe_op op_add (pe_dget (hu_of hr) (pv 0) pe_str (fun _ _ => rfl)) (pe_op op_mul pe_int (pv 3))) (pe_op op_pow (pe_op op_add (pv 3) pe_int) pe_int)) (pe_op op_mul pe_int (pv 3))))
    (pss_one (ps_ret (pe_op op_mod (pe_op op_fdivW (pe_op op_mod (pe_op op_pow (pe_op op_mod (pv 4) pe_int) pe_int) (pe_op op_add (pe_op op_pow pe_int pe_int) pe_int)) pe_int) (pv 1))))))))), ?_⟩
    have ne := hT.ne
    refine seq_to (fun σ H2 => σ = [some (.ref b), some (.int m), none, none, none] ∧ Kp (Off b g) H H2 ∧ Bag H2 b g n) (fun X hX => ?_) (fun σ H2 hE => ?_)
    · obtain ⟨gs, l, t, f, j1, j2, j3, j4, j5, j6, j7, j8, j9⟩ := hT.ex
      refine ⟨.ref b, rfl, b, _, rfl, bag_left j1, .int m, rfl, _, _, rfl, rfl, _, rfl, ite2 (fun ea => ?_) (fun ea => ?_)⟩
      · refine ⟨.ref b, rfl, b, _, rfl, bag_great j1, g, _, rfl, .inl (SqL.of j2), _, _, rfl, rfl, _, rfl, ite2 (fun eb => ?_) (fun eb => ?_)⟩
        · have eb : (0 : Int) < ((gs.map V.int).length : Int) := of_decide_eq_true eb
          rw [List.length_map] at eb
          cases gs with
          | nil => exact absurd eb (by decide)
          | cons x r =>
            refine ⟨.ref b, rfl, b, _, rfl, bag_great j1, .inl ⟨rfl, _, SqL.of j2⟩, g, _, 0, 0, .int x, rfl, rfl, j2, by decide, by decide, seq_ix (j := 0) (by simp), rfl, ?_⟩
            refine ⟨.ref b, rfl, b, _, rfl, bag_putLeft (by rw [upd_ne ne]; exact j1), ?_⟩
            exact hX _ _ ⟨rfl, Kp.off (Kp.off Kp.refl (.inr rfl)) (.inl rfl), ne, r, x, t, f, upd_same, by rw [upd_ne ne.symm, upd_same]; rfl, fun y hy => j3 y (List.mem_cons_of_mem _ hy), Nat.le_of_succ_le j4, j3 x List.mem_cons_self, j6, j7, j8, j9⟩
        · exact hX _ _ ⟨rfl, Kp.refl, hT⟩
      · exact iteF (hX _ _ ⟨rfl, Kp.refl, hT⟩)
    · obtain ⟨rfl, kp, hT2⟩ := hE
      obtain ⟨gs, l, t, f, j1, j2, j3, j4, j5, j6, j7, j8, j9⟩ := hT2.ex
      have g1 : CDivW l m := ⟨m0, Nat.lt_trans (log_lt m0 m1) (by decide)⟩
      refine ⟨.ref b, rfl, b, _, rfl, bag_left j1, .int m, rfl, _, _, rfl, rfl, _, rfl, ite2 (fun ea => ?_) (fun ea => ?_)⟩
      · refine ⟨.ref b, rfl, b, _, rfl, bag_left j1, .int m, rfl, _, _, rfl, rfl, m0, ?_⟩
        refine ⟨.ref b, rfl, b, _, rfl, bag_left j1, .int m, rfl, _, _, rfl, rfl, g1, .ref b, rfl, b, _, rfl, bag_putLeft j1, _, rfl, ?_⟩
        exact q _ _ (Kp.off kp (.inl rfl)) ⟨ne, gs, l / m, t, f, upd_same, by rw [upd_ne ne.symm]; exact j2, j3, j4, Int.ediv_nonneg j5 (by omega), j6, by omega, j8, j9⟩ (Int.emod_nonneg _ (by omega)) (Int.emod_lt_of_pos _ m0)
      · refine ⟨.ref b, rfl, b, _, rfl, bag_turn j1, _, _, rfl, rfl, _, bag_putTurn j1, ?_⟩
        have e1 : upd H2 b (.dK (bagL g l (t + 1) f)) b = some (.dK (bagL g l (t + 1) f)) := upd_same
        have hT3 : Bag (upd H2 b (.dK (bagL g l (t + 1) f))) b g (n + 1) := ⟨ne, gs, l, t + 1, f, e1, by rw [upd_ne ne.symm]; exact j2, j3, j4, j5, by omega, by omega, j8, j9⟩
        have k3 : Kp (Off b g) H (upd H2 b (.dK (bagL g l (t + 1) f))) := Kp.off kp (.inl rfl)
        revert e1 hT3 k3
        generalize upd H2 b (.dK (bagL g l (t + 1) f)) = H3
        intro e1 hT3 k3
        refine ⟨.ref b, rfl, b, _, rfl, bag_turn e1, ?_⟩
        refine ⟨.ref b, rfl, b, _, rfl, bag_fold e1, .int (t + 1), rfl, _, _, rfl, rfl, .inl ⟨by decide, by decide⟩, _, _, rfl, rfl, .int (t + 1), rfl, _, _, rfl, rfl, _, _, rfl, rfl, ⟨by decide, by decide, ?_⟩, _, _, rfl, rfl, .inl ⟨by omega, by omega⟩, .int (t + 1), rfl, _, _, rfl, rfl, .inl ⟨by decide, by decide⟩, _, _, rfl, rfl, ?_⟩
        · show (t + 1 + 29).natAbs < 2 ^ 64
          omega
        · refine ⟨_, rfl, _, _, rfl, rfl, (by show (0 : Int) < 2305843009213693951; decide), _, _, rfl, rfl, ⟨by decide, by decide, ?_⟩, _, _, rfl, rfl, ⟨by decide, by decide, by decide⟩, _, _, rfl, rfl, _, _, rfl, rfl, (by show (0 : Int) < 10 ^ 18 + 9; decide), _, _, rfl, rfl, ⟨by decide, by decide⟩, .int m, rfl, _, _, rfl, rfl, m0, ?_⟩
          · have f0 := Int.emod_nonneg ((f + 17 * (t + 1)) * (t + 1 + 29) ^ (2 : Int).toNat + 7919 * (t + 1)) (show (2305843009213693951 : Int) ≠ 0 by decide)
            have f1 := Int.emod_lt_of_pos ((f + 17 * (t + 1)) * (t + 1 + 29) ^ (2 : Int).toNat + 7919 * (t + 1)) (show (0 : Int) < 2305843009213693951 by decide)
            show (((f + 17 * (t + 1)) * (t + 1 + 29) ^ (2 : Int).toNat + 7919 * (t + 1)) % 2305843009213693951).natAbs < 2 ^ 64
            omega
          · exact q _ _ k3 hT3 (Int.emod_nonneg _ (by omega)) (Int.emod_lt_of_pos _ m0)
end
end El
namespace El
open PySem PySem.Spec PyProof.Rows L2
section
variable {P : Program} {w : World} {K : PySem.W.Frag} {mg : Str → Option Value} {base : Heap}
abbrev s__law_crowds : Stmt := topS 14
abbrev N__law_crowds : List Str := ["bag", "most", "found", "top", "k"]
abbrev P__law_crowds : List Str := ["bag", "most"]
theorem sc__law_crowds : FnScope N__law_crowds P__law_crowds (defScope s__law_crowds) := ⟨rfl, rfl, rfl, by decide +kernel, rfl, by decide +kernel, by decide +kernel⟩
def sp__law_crowds : Sp := fun vs H Q _ => ∃ (b g : Addr) (n most : Nat), vs = [.ref b, .int (most : Int)] ∧ Bag H b g n ∧ most ≤ 60 ∧ n ≤ 800000000 ∧
  ∀ H' o ts cs, Kp (Off b g) H H' → Bag H' b g (n + 500) → GsAt H' (fun b => H b = none) o ts cs → o ∉ ts → Crw cs → cs.length ≤ most → (∀ c ∈ cs, c.1 < 2 ^ 150 ∧ c.2 < 2 ^ 150) → Q (.ref o) H'
theorem ok__law_crowds (A : At K mg "_law_crowds" P__law_crowds s__law_crowds) (B : Bi mg) (D__law_draw : Df P w K mg base 1 "_law_draw" P__law_draw s__law_draw sp__law_draw) : Df P w K mg base 2 "_law_crowds" P__law_crowds s__law_crowds sp__law_crowds := by
  refine A.df fun f fd F => F.ok sc__law_crowds (fun vs H Q E h => ?_) (fun cdv AA outer s H vs Q E hr h => ?_)
  · obtain ⟨_, _, _, _, rfl, _⟩ := h
    rfl
  · obtain ⟨b, g, n, most, rfl, hT, hm, hn, q⟩ := h
    have nd := sc__law_crowds.nd
    refine ⟨_, (pss_cons (ps_par (i := 2) (j := 3) (by rfl) nd rfl rfl (by decide) rfl rfl (pa_cons (pe_lst pa_nil) (pa_cons (pe_ix ix_tup (pe_tup (pa_cons pe_int (pa_cons pe_int (pa_cons (pe_op op_pow pe_int pe_int) pa_nil)))) (pe_df D__law_draw (hr.mono (by decide)) (by rfl) (pa_cons (pv 0) (pa_cons pe_int pa_nil))) (fun _ _ => rfl)) pa_nil)) (by rfl))
    (pss_cons (ps_for PassesOwn.never rfl (pi_range1 (by rfl) B.range (pa_cons (pe_df D__law_draw (hr.mono (by decide)) (by rfl) (pa_cons (pv 0) (pa_cons (pe_op op_add (pv 1) pe_int) pa_nil))) pa_nil)) (pg_name (i := 4) nd rfl (.inl rfl)) (pss_one (ps_expr (pe_bm PySem.F.plainAttrs_list PySem.F.slot_list_append PySem.F.type_list_append mt_append (pv 2) (pa_cons (pe_tup (pa_cons (pe_op op_add pe_int (pe_df D__law_draw (hr.mono (by decide)) (by rfl) (pa_cons (pv 0) (pa_cons (pv 3) pa_nil)))) (pa_cons (pe_ix ix_tup (pe_tup (pa_cons (pe_df D__law_draw (hr.mono (by decide)) (by rfl) (pa_cons (pv 0) (pa_cons pe_int pa_nil))) (pa_cons (pe_df D__law_draw (hr.mono (by decide)) (by rfl) (pa_cons (pv 0) (pa_cons (pe_op op_mul pe_int (pv 3)) pa_nil))) pa_nil))) (pe_df D__law_draw (hr.mono (by decide)) (by rfl) (pa_cons (pv 0) (pa_cons pe_int pa_nil))) (fun _ _ => rfl)) pa_nil))) pa_nil)))))
    (pss_one (ps_ret (pv 2))))), ?_⟩
    refine ⟨Nat.zero_le _, fun o no => ?_⟩
    have oo : Off b g o := hT.off no
    refine ⟨_, _, rfl, rfl, ⟨by decide, by decide, by decide⟩, (by show 3 ≤ sizeLine; decide), fun p np => ?_⟩
    have op : Off b g p := (hT.mut oo).off np
    refine ⟨.ref b, rfl, b, g, n, 3, rfl, (hT.mut oo).mut op, by omega, by decide, by decide, fun H1 r1 k1 T1 a1 b1 => ?_⟩
    obtain ⟨top, hv, t0, t1⟩ := pick3 (P := fun x => 0 < x ∧ x < 2 ^ 100) (a := 4) (b := 12) (c := 10 ^ Int.toNat 29) a1 b1 ⟨by decide, by decide⟩ ⟨by decide, by decide⟩ ⟨by decide, by decide⟩
    refine ⟨p, _, _, _, rfl, rfl, SqT.of (k1 _ _ op upd_same), hv, _, _, rfl, ?_⟩
    have kA : Kp (Off b g) H H1 := ((Kp.of (same_new no)).trans (Kp.of (same_new np))).trans k1
    have eo : H1 o = some (.lst []) := k1 _ _ oo (same_new np _ _ upd_same)
    refine ⟨.ref b, rfl, .int (most : Int), rfl, _, _, rfl, rfl, b, g, n + 1, _, rfl, T1, by omega, by omega, ?_, fun H2 r2 k2 T2 a2 b2 => ?_⟩
    · exact Int.lt_of_le_of_lt (show (most : Int) + 1 ≤ 61 by omega) (by decide)
    refine ⟨_, rfl, by omega, by omega, ?_⟩
    have offD : ∀ z, H z = none → Off b g z := fun z hz => hT.off hz
    refine for_it walk_range (fun i σ H5 => ∃ ts cs y4, σ = [some (.ref b), some (.int (most : Int)), some (.ref o), some (.int top), y4] ∧ Kp (Off b g) H H5 ∧ Bag H5 b g (n + 2 + 4 * i) ∧ GsAt H5 (fun b => H b = none) o ts cs ∧ o ∉ ts ∧ cs.length = i ∧ Crw cs ∧ ∀ c ∈ cs, c.1 < 2 ^ 150 ∧ c.2 < 2 ^ 150)
      ⟨[], [], none, rfl, kA.trans k2, T2, ⟨k2 _ _ oo eo, no, rfl, fun i t g e _ => by simp at e, fun t m => by simp at m⟩, by simp, rfl, fun c m => by simp at m, fun c m => by simp at m⟩ (fun _ _ _ _ _ => trivial) (fun i x σ H5 H6 hi hW hY => ?_) (fun σ H5 hW => ?_)
    · obtain ⟨ts, cs, y4, rfl, kp, T5, hG, hno, hcl, hC, hb⟩ := hW
      obtain ⟨rfl, rfl⟩ := hY
      have hi60 : i < 61 := by omega
      refine ⟨.ref o, rfl, .inl ⟨rfl, _, hG.seq⟩, ?_⟩
      refine ⟨.ref b, rfl, .int top, rfl, b, g, _, top, rfl, T5, by omega, t0, Int.lt_trans t1 (by decide), fun H7 s1 k7 T7 a7 b7 => ⟨_, _, rfl, rfl, ?_⟩⟩
      refine ⟨.ref b, rfl, b, g, _, 3, rfl, T7, by omega, by decide, by decide, fun H8 s2 k8 T8 a8 b8 => ?_⟩
      have t2 : (2 : Int) * top < 2 ^ 101 := Int.lt_of_lt_of_le (show (2 : Int) * top < 2 * 2 ^ 100 by omega) (by decide)
      refine ⟨.ref b, rfl, .int top, rfl, _, _, rfl, rfl, .inl ⟨by decide, by decide⟩, b, g, _, _, rfl, T8, by omega, by omega, Int.lt_trans t2 (by decide), fun H9 s3 k9 T9 a9 b9 => ?_⟩
      refine ⟨(by show 2 ≤ sizeLine; decide), fun u nu => ?_⟩
      have ou : Off b g u := T9.off nu
      refine ⟨.ref b, rfl, b, g, _, 2, rfl, T9.mut ou, by omega, by decide, by decide, fun H10 s4 k10 T10 a10 b10 => ?_⟩
      obtain ⟨bears, hv2, p0, p1⟩ := pick2 (P := fun x => 0 ≤ x ∧ x < 2 ^ 150) (a := s2) (b := s3) a10 b10 ⟨a8, Int.lt_trans b8 (by decide)⟩ ⟨a9, Int.lt_trans b9 (Int.lt_trans t2 (by decide))⟩
      refine ⟨u, _, _, _, rfl, rfl, SqT.of (k10 _ _ ou upd_same), hv2, (by show 2 ≤ sizeLine; decide), fun v nv => ?_⟩
      have ov : Off b g v := T10.off nv
      have k6 : Kp (Off b g) H6 H10 := (((k7.trans k8).trans k9).trans (Kp.of (same_new nu))).trans k10
      have kp10 : Kp (Off b g) H H10 := kp.trans k6
      have nv0 : H v = none := kp10.none ov nv
      have hG10 : GsAt H10 (fun b => H b = none) o ts cs := hG.keep (fun z x hz e => k6 z x (offD z hz) e)
      have hG11 := hG10.same (same_new (o := .tup [.int (1 + s1), .int bears]) nv)
      refine ⟨o, _, _, rfl, rfl, hG11.top, ils (by rw [List.length_map, hG.len]; omega), ?_⟩
      have hP := hG11.push hno (q := v) (g := (1 + s1, bears)) upd_same nv0
      refine ⟨ts ++ [v], cs ++ [(1 + s1, bears)], _, rfl, (kp10.new nv).mutF no, ((T10.mut ov).mut oo).more (by omega), hP, ?_, ?_, ?_, ?_⟩
      · intro m
        rcases List.mem_append.mp m with m | m
        · exact hno m
        · rw [List.mem_singleton.mp m] at hG10
          have z := hG10.top
          rw [nv] at z
          cases z
      · rw [List.length_append, hcl]
        rfl
      · exact hC.cat fun c m => by
          rw [List.mem_singleton.mp m]
          exact ⟨by show 1 ≤ 1 + s1; omega, p0⟩
      · intro c m
        rcases List.mem_append.mp m with m | m
        · exact hb c m
        · rw [List.mem_singleton.mp m]
          exact ⟨Int.lt_of_le_of_lt (show 1 + s1 ≤ 2 ^ 100 by omega) (by decide), p1⟩
    · obtain ⟨ts, cs, y4, rfl, kp, T5, hG, hno, hcl, hC, hb⟩ := hW
      exact ⟨.ref o, rfl, q H5 o ts cs kp (T5.more (by omega)) hG hno hC (by omega) hb⟩
end
end El
namespace El
open PySem PySem.Spec PyProof.Rows L2
theorem Prs.off {H : Hp} {o : Addr} {xs : List V} {u : HO} {ts : List Addr} {gs : List (Int × Int)} (h : Prs H ts gs) (e : H o = some (.lst xs)) : Prs (upd H o u) ts gs := ⟨h.1, fun i t g e1 e2 => by
  have h1 := h.2 i t g e1 e2
  rw [upd_ne fun z => by rw [z, e] at h1; cases h1]
  exact h1⟩
theorem ne_int {a b : Int} (h : a ≠ b) : decide (V.int a = V.int b) = false := decide_eq_false fun z => h (by injection z)
theorem eq_int (a : Int) : decide (V.int a = V.int a) = true := decide_eq_true rfl
/-- a crowd that the law draws or changes -/
def Lot (c : Int × Int) : Prop := 1 ≤ c.1 ∧ 0 ≤ c.2 ∧ c.1 < 2 ^ 151 ∧ c.2 < 2 ^ 151
theorem lots_mid {cs X : List (Int × Int)} (h : ∀ c ∈ cs, Lot c) (hX : ∀ c ∈ X, Lot c) (i j : Nat) : ∀ c ∈ cs.take i ++ X ++ cs.drop j, Lot c := fun c m => by
  rcases List.mem_append.mp m with m | m
  · rcases List.mem_append.mp m with m | m
    · exact h c (List.mem_of_mem_take m)
    · exact hX c m
  · exact h c (List.mem_of_mem_drop m)
theorem map_erase0 {α β : Type} (f : α → β) : ∀ (l : List α) (k : Nat), (l.map f).eraseIdx k = (l.eraseIdx k).map f
  | [], _ => rfl
  | _ :: _, 0 => rfl
  | a :: l, k + 1 => by
    rw [List.map_cons, List.eraseIdx_cons_succ, List.eraseIdx_cons_succ, List.map_cons, map_erase0 f l k]
theorem set_parts {ts : List Addr} {k : Nat} {v : Addr} (h : k < ts.length) : (ts.map V.ref).set k (.ref v) = (ts.take k ++ [v] ++ ts.drop (k + 1)).map V.ref := by
  rw [← List.map_set, List.set_eq_take_append_cons_drop, if_pos h, List.append_assoc]
  rfl
section
variable {P : Program} {w : World} {K : PySem.W.Frag} {mg : Str → Option Value} {base : Heap}
abbrev s__law_changed : Stmt := topS 16
abbrev N__law_changed : List Str := ["bag", "lot", "found", "way", "at", "part"]
abbrev P__law_changed : List Str := ["bag", "lot"]
theorem sc__law_changed : FnScope N__law_changed P__law_changed (defScope s__law_changed) := ⟨rfl, rfl, rfl, by decide +kernel, rfl, by decide +kernel, by decide +kernel⟩
def sp__law_changed : Sp := fun vs H Q _ => ∃ (b g : Addr) (n : Nat) (a : Addr) (ts : List Addr) (cs : List (Int × Int)), vs = [.ref b, .ref a] ∧ Bag H b g n ∧ GsAt H (Off b g) a ts cs ∧ (∀ c ∈ cs, 1 ≤ c.1 ∧ 0 ≤ c.2 ∧ c.1 < 2 ^ 150 ∧ c.2 < 2 ^ 150) ∧ cs.length ≤ 60 ∧ n ≤ 800000000 ∧
  ∀ H' o us ds, Kp (Off b g) H H' → Bag H' b g (n + 10) → GsAt H' (Off b g) o us ds → (∀ c ∈ ds, Lot c) → ds.length ≤ cs.length + 1 → Q (.ref o) H'
theorem ok__law_changed (A : At K mg "_law_changed" P__law_changed s__law_changed) (B : Bi mg) (D__law_draw : Df P w K mg base 1 "_law_draw" P__law_draw s__law_draw sp__law_draw) : Df P w K mg base 2 "_law_changed" P__law_changed s__law_changed sp__law_changed := by
  refine A.df fun f fd F => F.ok sc__law_changed (fun vs H Q E h => ?_) (fun cdv AA outer s H vs Q E hr h => ?_)
  · obtain ⟨_, _, _, _, _, _, rfl, _⟩ := h
    rfl
  · obtain ⟨b, g, n, a, ts, cs, rfl, T, hG, hC, hl, hn, q⟩ := h
    have nd := sc__law_changed.nd
    refine ⟨_, (pss_cons (ps_par3 (i := 2) (j := 3) (l := 4) (by rfl) nd rfl rfl rfl (by decide) (by decide) (by decide) rfl rfl rfl (pa_cons (pe_callTy call_list_of (by rfl) B.list_ (by decide +kernel) (pa_cons (pv 1) pa_nil)) (pa_cons (pe_df D__law_draw (hr.mono (by decide)) (by rfl) (pa_cons (pv 0) (pa_cons pe_int pa_nil))) (pa_cons (pe_df D__law_draw (hr.mono (by decide)) (by rfl) (pa_cons (pv 0) (pa_cons (pe_op op_add (pe_callB call_len_seq (by rfl) B.len PySem.boot_len (pa_cons (pv 1) pa_nil)) pe_int) pa_nil))) pa_nil))) (by rfl))
    (pss_cons (ps_if (PW.pt (pw_and (pt_cmpR op_eq (pv 3) pe_int (nomark _)) (pw_and (pt_cmpR op_lt (pv 4) (pe_callB call_len_seq (by rfl) B.len PySem.boot_len (pa_cons (pv 1) pa_nil)) (nomark _)) (pw_and1 (pt_cmpR op_gt (pe_ix ix_tup (pe_ix ix_list (pv 1) (pv 4) (fun _ _ => rfl)) pe_int (fun _ _ => rfl)) pe_int (nomark _)))))) (pss_cons (ps_set (i := 5) nd rfl (.inl rfl) (pe_op op_add pe_int (pe_df D__law_draw (hr.mono (by decide)) (by rfl) (pa_cons (pv 0) (pa_cons (pe_op op_sub (pe_ix ix_tup (pe_ix ix_list (pv 1) (pv 4) (fun _ _ => rfl)) pe_int (fun _ _ => rfl)) pe_int) pa_nil))))) (pss_one (ps_ret (pe_op op_cat (pe_op op_cat (pe_slice sl_list (pv 1) po_none (po_some (pv 4))) (pe_lst (pa_cons (pe_tup (pa_cons (pv 5) (pa_cons (pe_ix ix_tup (pe_ix ix_list (pv 1) (pv 4) (fun _ _ => rfl)) pe_int (fun _ _ => rfl)) pa_nil))) (pa_cons (pe_tup (pa_cons (pe_op op_sub (pe_ix ix_tup (pe_ix ix_list (pv 1) (pv 4) (fun _ _ => rfl)) pe_int (fun _ _ => rfl)) (pv 5)) (pa_cons (pe_ix ix_tup (pe_ix ix_list (pv 1) (pv 4) (fun _ _ => rfl)) pe_int (fun _ _ => rfl)) pa_nil))) pa_nil)))) (pe_slice sl_list (pv 1) (po_some (pe_op op_add (pv 4) pe_int)) po_none))))) pss_nil)
    (pss_cons (ps_if (pt_cmpR op_eq (pv 3) pe_int (nomark _)) (pss_one (ps_expr (pe_bm PySem.F.plainAttrs_list PySem.F.slot_list_insert PySem.F.type_list_insert mt_insert (pv 2) (pa_cons (pv 4) (pa_cons (pe_tup (pa_cons (pe_op op_add pe_int (pe_df D__law_draw (hr.mono (by decide)) (by rfl) (pa_cons (pv 0) (pa_cons pe_int pa_nil)))) (pa_cons (pe_df D__law_draw (hr.mono (by decide)) (by rfl) (pa_cons (pv 0) (pa_cons pe_int pa_nil))) pa_nil))) pa_nil))))) pss_nil)
    (pss_cons (ps_if (PW.pt (pw_and (pt_cmpR op_eq (pv 3) pe_int (nomark _)) (pw_and1 (pt_cmpR op_lt (pv 4) (pe_callB call_len_seq (by rfl) B.len PySem.boot_len (pa_cons (pv 1) pa_nil)) (nomark _))))) (pss_one (ps_expr (pe_bm PySem.F.plainAttrs_list PySem.F.slot_list_pop PySem.F.type_list_pop mt_popAt (pv 2) (pa_cons (pv 4) pa_nil)))) pss_nil)
    (pss_cons (ps_if (PW.pt (pw_and (pt_cmpR op_eq (pv 3) pe_int (nomark _)) (pw_and1 (pt_cmpR op_lt (pv 4) (pe_callB call_len_seq (by rfl) B.len PySem.boot_len (pa_cons (pv 1) pa_nil)) (nomark _))))) (pss_one (ps_asg (pe_tup (pa_cons (pe_op op_add (pe_ix ix_tup (pe_ix ix_list (pv 1) (pv 4) (fun _ _ => rfl)) pe_int (fun _ _ => rfl)) pe_int) (pa_cons (pe_ix ix_tup (pe_ix ix_list (pv 1) (pv 4) (fun _ _ => rfl)) pe_int (fun _ _ => rfl)) pa_nil))) (pg_sub (pv 2) (pv 4) set_list))) pss_nil)
    (pss_cons (ps_if (PW.pt (pw_and (pt_cmpR op_eq (pv 3) pe_int (nomark _)) (pw_and1 (pt_cmpR op_lt (pv 4) (pe_callB call_len_seq (by rfl) B.len PySem.boot_len (pa_cons (pv 1) pa_nil)) (nomark _))))) (pss_one (ps_asg (pe_tup (pa_cons (pe_ix ix_tup (pe_ix ix_list (pv 1) (pv 4) (fun _ _ => rfl)) pe_int (fun _ _ => rfl)) (pa_cons (pe_op op_add (pe_ix ix_tup (pe_ix ix_list (pv 1) (pv 4) (fun _ _ => rfl)) pe_int (fun _ _ => rfl)) pe_int) pa_nil))) (pg_sub (pv 2) (pv 4) set_list))) pss_nil)
    (pss_one (ps_ret (pv 2))))))))), ?_⟩
    have hC' : ∀ c ∈ cs, Lot c := fun c m => ⟨(hC c m).1, (hC c m).2.1, Int.lt_trans (hC c m).2.2.1 (by decide), Int.lt_trans (hC c m).2.2.2 (by decide)⟩
    refine ⟨.ref a, rfl, a, _, rfl, .inl hG.seq, fun o no => ?_⟩
    have so := same_new (o := .lst (ts.map V.ref)) no
    have oo : Off b g o := T.off no
    have eo := upd_same (H := H) (a := o) (o := .lst (ts.map V.ref))
    have T1 := T.mut (o := .lst (ts.map V.ref)) oo
    have hG1 := hG.same so
    generalize upd H o (.lst (ts.map V.ref)) = H1 at so eo T1 hG1 ⊢
    refine ⟨.ref b, rfl, b, g, n, 6, rfl, T1, by omega, by decide, by decide, fun H2 way k2 T2 a2 b2 => ?_⟩
    have hG2 := hG1.keep k2
    have hlen : (ts.map V.ref).length = cs.length := by rw [List.length_map, hG.len]
    refine ⟨.ref b, rfl, .ref a, rfl, a, _, rfl, .inl hG2.seq, _, _, rfl, rfl, b, g, n + 1, _, rfl, T2, by omega, by omega, ?_, fun H3 at' k3 T3 a3 b3 => ?_⟩
    · rw [hlen]
      exact Int.lt_of_le_of_lt (show (cs.length : Int) + 1 ≤ 61 by omega) (by decide)
    rw [hlen] at b3
    obtain ⟨k, rfl⟩ : ∃ k : Nat, at' = (k : Int) := ⟨at'.toNat, by omega⟩
    have hk : k ≤ cs.length := by omega
    have hG3 := hG2.keep k3
    have k13 : Kp (Off b g) H H3 := ((Kp.of so).trans k2).trans k3
    have eo3 : H3 o = some (.lst (ts.map V.ref)) := k3 _ _ oo (k2 _ _ oo eo)
    have fin : ∀ H5 us ds, Kp (Off b g) H H5 → Bag H5 b g (n + 10) → H5 o = some (.lst (us.map V.ref)) → Prs H5 us ds → (∀ u ∈ us, Off b g u) → (∀ c ∈ ds, Lot c) → ds.length ≤ cs.length + 1 → Q (.ref o) H5 :=
      fun H5 us ds kp T5 e5 hP hu hL hlen => q H5 o us ds kp T5 ⟨e5, oo, hP.1, hP.2, hu⟩ hL hlen
    have same : Q (.ref o) H3 := fin H3 ts cs k13 (T3.more (by omega)) eo3 hG3.pr hG3.b hC' (by omega)
    refine ⟨_, _, _, rfl, ?_⟩
    dsimp only
    rcases (show way = 0 ∨ way = 1 ∨ way = 2 ∨ way = 3 ∨ way = 4 ∨ way = 5 by omega) with rfl | rfl | rfl | rfl | rfl | rfl
    · refine ⟨_, rfl, rfl, _, rfl, ?_⟩
      rw [eq_int]
      refine iteT ?_
      refine ⟨_, rfl, .ref a, rfl, a, _, rfl, .inl hG3.seq, _, _, rfl, rfl, _, rfl, ?_⟩
      rw [hlen]
      by_cases hlt : k < cs.length
      · rw [decide_eq_true (show (k : Int) < cs.length by omega)]
        refine iteT ?_
        obtain ⟨c, ec⟩ := at_some hlt
        obtain ⟨t, et, eu⟩ := hG3.at_ ec
        have mc := List.mem_of_getElem? ec
        have Lc := hC' c mc
        refine ⟨.ref a, rfl, .int (k : Int), rfl, a, _, _, .ref t, rfl, rfl, hG3.seq, atI_nat (j := k) et, t, _, 0, .int c.1, rfl, rfl, SqT.of (eu), atI_nat (j := 0) rfl, _, _, rfl, rfl, _, rfl, ?_⟩
        by_cases h1 : c.1 > 1
        · rw [decide_eq_true h1]
          refine iteT ?_
          refine ⟨.ref b, rfl, .ref a, rfl, .int (k : Int), rfl, a, _, _, .ref t, rfl, rfl, hG3.seq, atI_nat (j := k) et, t, _, 0, .int c.1, rfl, rfl, SqT.of (eu), atI_nat (j := 0) rfl, _, _, rfl, rfl, b, g, n + 1 + 1, c.1 - 1, rfl, T3, by omega, by omega, Int.lt_trans (show c.1 - 1 < 2 ^ 151 by have := Lc.2.2.1; omega) (by decide), fun H4 r k4 T4 a4 b4 => ⟨_, _, rfl, rfl, ?_⟩⟩
          have hG4 := hG3.keep k4
          have eu4 : H4 t = some (.tup [.int c.1, .int c.2]) := by
            obtain ⟨t', et', eu'⟩ := hG4.at_ ec
            obtain rfl : t = t' := by
              have := et.symm.trans et'
              injection this with this
              injection this
            exact eu'
          dsimp only [gName]
          refine ⟨.ref a, rfl, .int (k : Int), rfl, _, rfl, a, _, rfl, hG4.seq, fun c1 n1 => ?_⟩
          rw [cut_to, ← List.map_take]
          have t1 := same_new (o := .lst ((ts.take k).map V.ref)) n1
          have e1 := upd_same (H := H4) (a := c1) (o := .lst ((ts.take k).map V.ref))
          generalize upd H4 c1 (.lst ((ts.take k).map V.ref)) = G1 at t1 e1 ⊢
          refine ⟨_, rfl, .ref a, rfl, .int (k : Int), rfl, a, _, _, .ref t, rfl, rfl, (hG4.same t1).seq, atI_nat (j := k) et, t, _, 1, .int c.2, rfl, rfl, SqT.of (t1 _ _ eu4), atI_nat (j := 1) rfl, (by show 2 ≤ sizeLine; decide), fun v1 nv1 => ?_⟩
          have t2 := same_new (o := .tup [.int (1 + r), .int c.2]) nv1
          have e2 := upd_same (H := G1) (a := v1) (o := .tup [.int (1 + r), .int c.2])
          generalize upd G1 v1 (.tup [.int (1 + r), .int c.2]) = G2 at t2 e2 ⊢
          refine ⟨.ref a, rfl, .int (k : Int), rfl, a, _, _, .ref t, rfl, rfl, (hG4.same (t1.trans t2)).seq, atI_nat (j := k) et, t, _, 0, .int c.1, rfl, rfl, SqT.of ((t1.trans t2) _ _ eu4), atI_nat (j := 0) rfl, _, rfl, _, _, rfl, rfl, .ref a, rfl, .int (k : Int), rfl, a, _, _, .ref t, rfl, rfl, (hG4.same (t1.trans t2)).seq, atI_nat (j := k) et, t, _, 1, .int c.2, rfl, rfl, SqT.of ((t1.trans t2) _ _ eu4), atI_nat (j := 1) rfl, (by show 2 ≤ sizeLine; decide), fun v2 nv2 => ?_⟩
          have t3 := same_new (o := .tup [.int (c.1 - (1 + r)), .int c.2]) nv2
          have e3 := upd_same (H := G2) (a := v2) (o := .tup [.int (c.1 - (1 + r)), .int c.2])
          generalize upd G2 v2 (.tup [.int (c.1 - (1 + r)), .int c.2]) = G3 at t3 e3 ⊢
          refine ⟨(by show 2 ≤ sizeLine; decide), fun l nl => ?_⟩
          have t4 := same_new (o := .lst [.ref v1, .ref v2]) nl
          have e4 := upd_same (H := G3) (a := l) (o := .lst [.ref v1, .ref v2])
          generalize upd G3 l (.lst [.ref v1, .ref v2]) = G4 at t4 e4 ⊢
          refine ⟨c1, l, _, _, rfl, rfl, (t2.trans (t3.trans t4)) _ _ e1, e4, ile (by rw [List.length_map, List.length_take]; show _ + 2 ≤ 100000; omega), fun c2 n2 => ?_⟩
          have t5 := same_new (o := .lst ((ts.take k).map V.ref ++ [.ref v1, .ref v2])) n2
          have e5 := upd_same (H := G4) (a := c2) (o := .lst ((ts.take k).map V.ref ++ [.ref v1, .ref v2]))
          generalize upd G4 c2 (.lst ((ts.take k).map V.ref ++ [.ref v1, .ref v2])) = G5 at t5 e5 ⊢
          have t15 := t1.trans (t2.trans (t3.trans (t4.trans t5)))
          refine ⟨.ref a, rfl, .int (k : Int), rfl, _, _, rfl, rfl, _, rfl, a, _, rfl, (hG4.same t15).seq, fun c3 n3 => ?_⟩
          rw [show ((k : Int) + 1) = ((k + 1 : Nat) : Int) by omega, cutFrom, ← List.map_drop]
          have t6 := same_new (o := .lst ((ts.drop (k + 1)).map V.ref)) n3
          have e6 := upd_same (H := G5) (a := c3) (o := .lst ((ts.drop (k + 1)).map V.ref))
          generalize upd G5 c3 (.lst ((ts.drop (k + 1)).map V.ref)) = G6 at t6 e6 ⊢
          refine ⟨c2, c3, _, _, rfl, rfl, t6 _ _ e5, e6, ile (by rw [List.length_append, List.length_map, List.length_map, List.length_take, List.length_drop]; show _ + 2 + _ ≤ 100000; have := hG.len; omega), fun c4 n4 => ?_⟩
          have t7 := same_new (o := .lst ((ts.take k).map V.ref ++ [.ref v1, .ref v2] ++ (ts.drop (k + 1)).map V.ref)) n4
          have e7 : (upd G6 c4 (.lst ((ts.take k).map V.ref ++ [.ref v1, .ref v2] ++ (ts.drop (k + 1)).map V.ref))) c4 = some (.lst ((ts.take k ++ [v1, v2] ++ ts.drop (k + 1)).map V.ref)) := by
            rw [upd_same, List.map_append, List.map_append]
            rfl
          generalize upd G6 c4 (.lst ((ts.take k).map V.ref ++ [.ref v1, .ref v2] ++ (ts.drop (k + 1)).map V.ref)) = G7 at t7 e7 ⊢
          have t37 := (t4.trans t5).trans (t6.trans t7)
          have t17 := t15.trans (t6.trans t7)
          have hG7 := hG4.same t17
          have ov1 : Off b g v1 := (T4.keep t1).off nv1
          have ov2 : Off b g v2 := (T4.keep (t1.trans t2)).off nv2
          have oc4 : Off b g c4 := (T4.keep (t15.trans t6)).off n4
          have hP : Prs G7 (ts.take k ++ [v1, v2] ++ ts.drop (k + 1)) (cs.take k ++ [(1 + r, c.2), (c.1 - (1 + r), c.2)] ++ cs.drop (k + 1)) :=
            ((hG7.pr.take k).cat (Prs.cons ((t3.trans t37) _ _ e2) (Prs.cons (t37 _ _ e3) Prs.nil))).cat (hG7.pr.drop (k + 1))
          refine q G7 c4 _ _ ((k13.trans k4).trans (.of t17)) ((T4.keep t17).more (by omega)) ⟨e7, oc4, hP.1, hP.2, fun u m => ?_⟩ (lots_mid hC' (fun d m => ?_) k (k + 1)) (by rw [List.length_append, List.length_append, List.length_take, List.length_drop]; show _ + 2 + _ ≤ _; omega)
          · rcases List.mem_append.mp m with m | m
            · rcases List.mem_append.mp m with m | m
              · exact hG.b u (List.mem_of_mem_take m)
              · rcases List.mem_cons.mp m with rfl | m
                · exact ov1
                · rw [List.mem_singleton.mp m]
                  exact ov2
            · exact hG.b u (List.mem_of_mem_drop m)
          · have l1 := Lc.2.1
            have l2 := Lc.2.2.1
            have l3 := Lc.2.2.2
            rcases List.mem_cons.mp m with rfl | m
            · exact ⟨by show 1 ≤ 1 + r; omega, l1, by show 1 + r < 2 ^ 151; omega, l3⟩
            · rw [List.mem_singleton.mp m]
              exact ⟨by show 1 ≤ c.1 - (1 + r); omega, l1, by show c.1 - (1 + r) < 2 ^ 151; omega, l3⟩
        · rw [decide_eq_false h1]
          refine iteF ?_
          refine ⟨_, rfl, rfl, _, rfl, ?_⟩
          rw [ne_int (show (0 : Int) ≠ 1 by decide)]
          refine iteF ?_
          refine ⟨_, rfl, rfl, _, rfl, ?_⟩
          rw [ne_int (show (0 : Int) ≠ 2 by decide)]
          refine iteF (iteF ?_)
          refine ⟨_, rfl, rfl, _, rfl, ?_⟩
          rw [ne_int (show (0 : Int) ≠ 3 by decide)]
          refine iteF (iteF ?_)
          refine ⟨_, rfl, rfl, _, rfl, ?_⟩
          rw [ne_int (show (0 : Int) ≠ 4 by decide)]
          refine iteF (iteF ?_)
          exact ⟨_, rfl, same⟩
      · rw [decide_eq_false (show ¬ (k : Int) < cs.length by omega)]
        refine iteF (iteF ?_)
        refine ⟨_, rfl, rfl, _, rfl, ?_⟩
        rw [ne_int (show (0 : Int) ≠ 1 by decide)]
        refine iteF ?_
        refine ⟨_, rfl, rfl, _, rfl, ?_⟩
        rw [ne_int (show (0 : Int) ≠ 2 by decide)]
        refine iteF (iteF ?_)
        refine ⟨_, rfl, rfl, _, rfl, ?_⟩
        rw [ne_int (show (0 : Int) ≠ 3 by decide)]
        refine iteF (iteF ?_)
        refine ⟨_, rfl, rfl, _, rfl, ?_⟩
        rw [ne_int (show (0 : Int) ≠ 4 by decide)]
        refine iteF (iteF ?_)
        exact ⟨_, rfl, same⟩
    · refine ⟨_, rfl, rfl, _, rfl, ?_⟩
      rw [ne_int (show (1 : Int) ≠ 0 by decide)]
      refine iteF (iteF ?_)
      refine ⟨_, rfl, rfl, _, rfl, ?_⟩
      rw [eq_int]
      refine iteT ?_
      refine ⟨.ref o, rfl, .inl ⟨rfl, _, SqL.of eo3⟩, _, rfl, .ref b, rfl, b, g, n + 1 + 1, 9, rfl, T3, by omega, by decide, by decide, fun H4 r k4 T4 a4 b4 => ⟨_, _, rfl, rfl, ?_⟩⟩
      refine ⟨.ref b, rfl, b, g, n + 1 + 1 + 1, 9, rfl, T4, by omega, by decide, by decide, fun H5 r2 k5 T5 a5 b5 => ?_⟩
      refine ⟨(by show 2 ≤ sizeLine; decide), fun v nv => ?_⟩
      have ov : Off b g v := T5.off nv
      have t1 := same_new (o := .tup [.int (1 + r), .int r2]) nv
      have ev := upd_same (H := H5) (a := v) (o := .tup [.int (1 + r), .int r2])
      generalize upd H5 v (.tup [.int (1 + r), .int r2]) = H6 at t1 ev ⊢
      have k36 : Kp (Off b g) H3 H6 := (k4.trans k5).trans (.of t1)
      have eo6 := k36 _ _ oo eo3
      have hG6 := hG3.keep k36
      refine ⟨o, _, _, _, rfl, rfl, eo6, ils (by rw [hlen]; omega), by omega, Int.lt_of_le_of_lt (show (k : Int) ≤ 60 by omega) (by decide), ?_⟩
      rw [Int.toNat_natCast]
      have hP : Prs H6 (ts.take k ++ [v] ++ ts.drop k) (cs.take k ++ [(1 + r, r2)] ++ cs.drop k) := ((hG6.pr.take k).cat (Prs.cons ev Prs.nil)).cat (hG6.pr.drop k)
      have kp7 : Kp (Off b g) H (upd H6 o (.lst ((ts.map V.ref).take k ++ [.ref v] ++ (ts.map V.ref).drop k))) := (k13.trans k36).mutF no
      have T7 : Bag (upd H6 o (.lst ((ts.map V.ref).take k ++ [.ref v] ++ (ts.map V.ref).drop k))) b g (n + 10) := ((T5.keep t1).mut oo).more (by omega)
      have done := fin _ (ts.take k ++ [v] ++ ts.drop k) _ kp7 T7 (by rw [upd_same, List.map_append, List.map_append, List.map_take, List.map_drop]; rfl) (hP.off eo6) (fun u m => ?_) (lots_mid hC' (fun d m => ?_) k k) (by rw [List.length_append, List.length_append, List.length_take, List.length_drop]; show _ + 1 + _ ≤ _; omega)
      · refine ⟨_, rfl, rfl, _, rfl, ?_⟩
        rw [ne_int (show (1 : Int) ≠ 2 by decide)]
        refine iteF (iteF ?_)
        refine ⟨_, rfl, rfl, _, rfl, ?_⟩
        rw [ne_int (show (1 : Int) ≠ 3 by decide)]
        refine iteF (iteF ?_)
        refine ⟨_, rfl, rfl, _, rfl, ?_⟩
        rw [ne_int (show (1 : Int) ≠ 4 by decide)]
        refine iteF (iteF ?_)
        exact ⟨_, rfl, done⟩
      · rcases List.mem_append.mp m with m | m
        · rcases List.mem_append.mp m with m | m
          · exact hG.b u (List.mem_of_mem_take m)
          · rw [List.mem_singleton.mp m]
            exact ov
        · exact hG.b u (List.mem_of_mem_drop m)
      · rw [List.mem_singleton.mp m]
        exact ⟨by show 1 ≤ 1 + r; omega, a5, by show 1 + r < 2 ^ 151; omega, by show r2 < 2 ^ 151; omega⟩
    · refine ⟨_, rfl, rfl, _, rfl, ?_⟩
      rw [ne_int (show (2 : Int) ≠ 0 by decide)]
      refine iteF (iteF ?_)
      refine ⟨_, rfl, rfl, _, rfl, ?_⟩
      rw [ne_int (show (2 : Int) ≠ 1 by decide)]
      refine iteF ?_
      refine ⟨_, rfl, rfl, _, rfl, ?_⟩
      rw [eq_int]
      refine iteT ?_
      refine ⟨_, rfl, .ref a, rfl, a, _, rfl, .inl hG3.seq, _, _, rfl, rfl, _, rfl, ?_⟩
      rw [hlen]
      by_cases hlt : k < cs.length
      · rw [decide_eq_true (show (k : Int) < cs.length by omega)]
        refine iteT ?_
        obtain ⟨c, ec⟩ := at_some hlt
        obtain ⟨t, et, eu⟩ := hG3.at_ ec
        have mc := List.mem_of_getElem? ec
        have Lc := hC' c mc
        refine ⟨.ref o, rfl, .inl ⟨rfl, _, SqL.of eo3⟩, _, rfl, o, _, _, k, .ref t, rfl, rfl, eo3, by omega, Int.lt_of_le_of_lt (show (k : Int) ≤ 60 by omega) (by decide), seq_ix (by rw [hlen]; exact hlt), et, ?_⟩
        have hP : Prs H3 (ts.take k ++ [] ++ ts.drop (k + 1)) (cs.take k ++ [] ++ cs.drop (k + 1)) := ((hG3.pr.take k).cat Prs.nil).cat (hG3.pr.drop (k + 1))
        have done := fin (upd H3 o (.lst ((ts.map V.ref).eraseIdx k))) (ts.take k ++ [] ++ ts.drop (k + 1)) _ (k13.mutF no) ((T3.mut oo).more (by omega)) (by rw [upd_same, List.append_nil, ← List.eraseIdx_eq_take_drop_succ, map_erase0]) (hP.off eo3) (fun u m => ?_) (lots_mid (X := []) hC' (fun d m => absurd m List.not_mem_nil) k (k + 1)) (by rw [List.length_append, List.length_append, List.length_take, List.length_drop]; show _ + 0 + _ ≤ _; omega)
        · refine ⟨_, rfl, rfl, _, rfl, ?_⟩
          rw [ne_int (show (2 : Int) ≠ 3 by decide)]
          refine iteF (iteF ?_)
          refine ⟨_, rfl, rfl, _, rfl, ?_⟩
          rw [ne_int (show (2 : Int) ≠ 4 by decide)]
          refine iteF (iteF ?_)
          exact ⟨_, rfl, done⟩
        · rw [List.append_nil] at m
          rcases List.mem_append.mp m with m | m
          · exact hG.b u (List.mem_of_mem_take m)
          · exact hG.b u (List.mem_of_mem_drop m)
      · rw [decide_eq_false (show ¬ (k : Int) < cs.length by omega)]
        refine iteF ?_
        refine ⟨_, rfl, rfl, _, rfl, ?_⟩
        rw [ne_int (show (2 : Int) ≠ 3 by decide)]
        refine iteF (iteF ?_)
        refine ⟨_, rfl, rfl, _, rfl, ?_⟩
        rw [ne_int (show (2 : Int) ≠ 4 by decide)]
        refine iteF (iteF ?_)
        exact ⟨_, rfl, same⟩
    · refine ⟨_, rfl, rfl, _, rfl, ?_⟩
      rw [ne_int (show (3 : Int) ≠ 0 by decide)]
      refine iteF (iteF ?_)
      refine ⟨_, rfl, rfl, _, rfl, ?_⟩
      rw [ne_int (show (3 : Int) ≠ 1 by decide)]
      refine iteF ?_
      refine ⟨_, rfl, rfl, _, rfl, ?_⟩
      rw [ne_int (show (3 : Int) ≠ 2 by decide)]
      refine iteF (iteF ?_)
      refine ⟨_, rfl, rfl, _, rfl, ?_⟩
      rw [eq_int]
      refine iteT ?_
      refine ⟨_, rfl, .ref a, rfl, a, _, rfl, .inl hG3.seq, _, _, rfl, rfl, _, rfl, ?_⟩
      rw [hlen]
      by_cases hlt : k < cs.length
      · rw [decide_eq_true (show (k : Int) < cs.length by omega)]
        refine iteT ?_
        obtain ⟨c, ec⟩ := at_some hlt
        obtain ⟨t, et, eu⟩ := hG3.at_ ec
        have mc := List.mem_of_getElem? ec
        have Lc := hC' c mc
        refine ⟨.ref a, rfl, .int (k : Int), rfl, a, _, _, .ref t, rfl, rfl, hG3.seq, atI_nat (j := k) et, t, _, 0, .int c.1, rfl, rfl, SqT.of (eu), atI_nat (j := 0) rfl, _, _, rfl, rfl, .ref a, rfl, .int (k : Int), rfl, a, _, _, .ref t, rfl, rfl, hG3.seq, atI_nat (j := k) et, t, _, 1, .int c.2, rfl, rfl, SqT.of (eu), atI_nat (j := 1) rfl, (by show 2 ≤ sizeLine; decide), fun v nv => ?_⟩
        have ov : Off b g v := T3.off nv
        have t1 := same_new (o := .tup [.int (c.1 + 1), .int c.2]) nv
        have ev := upd_same (H := H3) (a := v) (o := .tup [.int (c.1 + 1), .int c.2])
        generalize upd H3 v (.tup [.int (c.1 + 1), .int c.2]) = H6 at t1 ev ⊢
        have eo6 := t1 _ _ eo3
        have hG6 := hG3.same t1
        refine ⟨_, rfl, _, rfl, o, _, _, k, rfl, rfl, eo6, ixN_of (by rw [hlen]; exact hlt), ?_⟩
        have hP : Prs H6 (ts.take k ++ [v] ++ ts.drop (k + 1)) (cs.take k ++ [(c.1 + 1, c.2)] ++ cs.drop (k + 1)) := ((hG6.pr.take k).cat (Prs.cons ev Prs.nil)).cat (hG6.pr.drop (k + 1))
        have done := fin (upd H6 o (.lst ((ts.map V.ref).set k (.ref v)))) (ts.take k ++ [v] ++ ts.drop (k + 1)) _ ((k13.trans (.of t1)).mutF no) (((T3.keep t1).mut oo).more (by omega)) (by rw [upd_same, set_parts (show k < ts.length by rw [hG.len]; exact hlt)]) (hP.off eo6) (fun u m => ?_) (lots_mid hC' (fun d m => ?_) k (k + 1)) (by rw [List.length_append, List.length_append, List.length_take, List.length_drop]; show _ + 1 + _ ≤ _; omega)
        · refine ⟨_, rfl, rfl, _, rfl, ?_⟩
          rw [ne_int (show (3 : Int) ≠ 4 by decide)]
          refine iteF (iteF ?_)
          exact ⟨_, rfl, done⟩
        · rcases List.mem_append.mp m with m | m
          · rcases List.mem_append.mp m with m | m
            · exact hG.b u (List.mem_of_mem_take m)
            · rw [List.mem_singleton.mp m]
              exact ov
          · exact hG.b u (List.mem_of_mem_drop m)
        · rw [List.mem_singleton.mp m]
          have h1 := (hC c mc).2.2.1
          have h2 := (hC c mc).2.2.2
          have h3 := Lc.1
          have h4 := Lc.2.1
          refine ⟨?_, ?_, ?_, ?_⟩
          all_goals dsimp only
          all_goals omega
      · rw [decide_eq_false (show ¬ (k : Int) < cs.length by omega)]
        refine iteF ?_
        refine ⟨_, rfl, rfl, _, rfl, ?_⟩
        rw [ne_int (show (3 : Int) ≠ 4 by decide)]
        refine iteF (iteF ?_)
        exact ⟨_, rfl, same⟩
    · refine ⟨_, rfl, rfl, _, rfl, ?_⟩
      rw [ne_int (show (4 : Int) ≠ 0 by decide)]
      refine iteF (iteF ?_)
      refine ⟨_, rfl, rfl, _, rfl, ?_⟩
      rw [ne_int (show (4 : Int) ≠ 1 by decide)]
      refine iteF ?_
      refine ⟨_, rfl, rfl, _, rfl, ?_⟩
      rw [ne_int (show (4 : Int) ≠ 2 by decide)]
      refine iteF (iteF ?_)
      refine ⟨_, rfl, rfl, _, rfl, ?_⟩
      rw [ne_int (show (4 : Int) ≠ 3 by decide)]
      refine iteF (iteF ?_)
      refine ⟨_, rfl, rfl, _, rfl, ?_⟩
      rw [eq_int]
      refine iteT ?_
      refine ⟨_, rfl, .ref a, rfl, a, _, rfl, .inl hG3.seq, _, _, rfl, rfl, _, rfl, ?_⟩
      rw [hlen]
      by_cases hlt : k < cs.length
      · rw [decide_eq_true (show (k : Int) < cs.length by omega)]
        refine iteT ?_
        obtain ⟨c, ec⟩ := at_some hlt
        obtain ⟨t, et, eu⟩ := hG3.at_ ec
        have mc := List.mem_of_getElem? ec
        have Lc := hC' c mc
        refine ⟨.ref a, rfl, .int (k : Int), rfl, a, _, _, .ref t, rfl, rfl, hG3.seq, atI_nat (j := k) et, t, _, 0, .int c.1, rfl, rfl, SqT.of (eu), atI_nat (j := 0) rfl, .ref a, rfl, .int (k : Int), rfl, a, _, _, .ref t, rfl, rfl, hG3.seq, atI_nat (j := k) et, t, _, 1, .int c.2, rfl, rfl, SqT.of (eu), atI_nat (j := 1) rfl, _, _, rfl, rfl, (by show 2 ≤ sizeLine; decide), fun v nv => ?_⟩
        have ov : Off b g v := T3.off nv
        have t1 := same_new (o := .tup [.int c.1, .int (c.2 + 1)]) nv
        have ev := upd_same (H := H3) (a := v) (o := .tup [.int c.1, .int (c.2 + 1)])
        generalize upd H3 v (.tup [.int c.1, .int (c.2 + 1)]) = H6 at t1 ev ⊢
        have eo6 := t1 _ _ eo3
        have hG6 := hG3.same t1
        refine ⟨_, rfl, _, rfl, o, _, _, k, rfl, rfl, eo6, ixN_of (by rw [hlen]; exact hlt), ?_⟩
        have hP : Prs H6 (ts.take k ++ [v] ++ ts.drop (k + 1)) (cs.take k ++ [(c.1, c.2 + 1)] ++ cs.drop (k + 1)) := ((hG6.pr.take k).cat (Prs.cons ev Prs.nil)).cat (hG6.pr.drop (k + 1))
        have done := fin (upd H6 o (.lst ((ts.map V.ref).set k (.ref v)))) (ts.take k ++ [v] ++ ts.drop (k + 1)) _ ((k13.trans (.of t1)).mutF no) (((T3.keep t1).mut oo).more (by omega)) (by rw [upd_same, set_parts (show k < ts.length by rw [hG.len]; exact hlt)]) (hP.off eo6) (fun u m => ?_) (lots_mid hC' (fun d m => ?_) k (k + 1)) (by rw [List.length_append, List.length_append, List.length_take, List.length_drop]; show _ + 1 + _ ≤ _; omega)
        · exact ⟨_, rfl, done⟩
        · rcases List.mem_append.mp m with m | m
          · rcases List.mem_append.mp m with m | m
            · exact hG.b u (List.mem_of_mem_take m)
            · rw [List.mem_singleton.mp m]
              exact ov
          · exact hG.b u (List.mem_of_mem_drop m)
        · rw [List.mem_singleton.mp m]
          have h1 := (hC c mc).2.2.1
          have h2 := (hC c mc).2.2.2
          have h3 := Lc.1
          have h4 := Lc.2.1
          refine ⟨?_, ?_, ?_, ?_⟩
          all_goals dsimp only
          all_goals omega
      · rw [decide_eq_false (show ¬ (k : Int) < cs.length by omega)]
        refine iteF ?_
        exact ⟨_, rfl, same⟩
    · refine ⟨_, rfl, rfl, _, rfl, ?_⟩
      rw [ne_int (show (5 : Int) ≠ 0 by decide)]
      refine iteF (iteF ?_)
      refine ⟨_, rfl, rfl, _, rfl, ?_⟩
      rw [ne_int (show (5 : Int) ≠ 1 by decide)]
      refine iteF ?_
      refine ⟨_, rfl, rfl, _, rfl, ?_⟩
      rw [ne_int (show (5 : Int) ≠ 2 by decide)]
      refine iteF (iteF ?_)
      refine ⟨_, rfl, rfl, _, rfl, ?_⟩
      rw [ne_int (show (5 : Int) ≠ 3 by decide)]
      refine iteF (iteF ?_)
      refine ⟨_, rfl, rfl, _, rfl, ?_⟩
      rw [ne_int (show (5 : Int) ≠ 4 by decide)]
      refine iteF (iteF ?_)
      exact ⟨_, rfl, same⟩
end
end El
namespace El
open PySem PySem.Spec PyProof.Rows L2
section
variable {X : Cx}
/-- repr of an int or None -/
theorem call_repr_opt : CallR X (.builtin "repr") (fun xs H Q => (∃ i, xs = [.int i] ∧ i.natAbs.log2 < 1920 ∧ Q (.str (toString i)) H) ∨ (xs = [.non] ∧ Q (.str "None") H)) := by
  intro pins s σ H xs us Q I r h
  rcases h with ⟨i, rfl, small, q⟩ | ⟨rfl, q⟩
  · exact SkE.call_repr_int pins s σ H _ us Q I r ⟨i, rfl, small, q⟩
  · obtain ⟨u, rfl, e⟩ := vals1 r
    obtain rfl : u = Value.none := e
    exact PySem.P.repr_of_none ⟨.str _, H, I.tok _, ⟨_, rfl⟩, q⟩
end
/-- those at which the two keep otherwise -/
def apartL (cs ds : List (Int × Int)) (l : List Int) : List Int := l.filter fun n => !decide (stay cs n = stay ds n)
theorem apart_like {cs ds : List (Int × Int)} (h : Like cs ds) {l : List Int} (nn : ∀ x ∈ l, 0 ≤ x) : apartL cs ds l = [] := List.filter_eq_nil_iff.mpr fun x m z => by
  have := h x (nn x m)
  simp [this] at z
theorem apart_least {cs ds : List (Int × Int)} {n : Int} (h : Least cs ds n) {l : List Int} (nn : ∀ x ∈ l, 0 ≤ x) (up : l.Pairwise (· < ·)) (m : n ∈ l) : ∃ t, apartL cs ds l = n :: t := by
  have mf : n ∈ apartL cs ds l := List.mem_filter.mpr ⟨m, by simpa using h.2.1⟩
  have up' : (apartL cs ds l).Pairwise (· < ·) := up.sublist List.filter_sublist
  have all : ∀ x ∈ apartL cs ds l, 0 ≤ x ∧ stay cs x ≠ stay ds x := fun x m => ⟨nn x (List.mem_filter.mp m).1, by simpa using (List.mem_filter.mp m).2⟩
  cases hl : apartL cs ds l with
  | nil => rw [hl] at mf; cases mf
  | cons y t =>
    rw [hl] at mf up' all
    refine ⟨t, ?_⟩
    rcases List.mem_cons.mp mf with rfl | mt
    · rfl
    · have lt := (List.pairwise_cons.mp up').1 n mt
      have ⟨y0, ya⟩ := all y (.head _)
      exact absurd (h.2.2 y y0 lt) ya
theorem Least.flip {cs ds : List (Int × Int)} {n : Int} (h : Least cs ds n) : Least ds cs n := ⟨h.1, fun z => h.2.1 z.symm, fun m m0 lt => (h.2.2 m m0 lt).symm⟩
theorem Like.flip {cs ds : List (Int × Int)} (h : Like cs ds) : Like ds cs := fun n n0 => (h n n0).symm
theorem like_no {cs ds : List (Int × Int)} {n : Int} (h : Like cs ds) (k : Least cs ds n) : False := k.2.1 (h n k.1)
theorem least_one {cs ds : List (Int × Int)} {n m : Int} (h : Least cs ds n) (k : Least cs ds m) : n = m := by
  have h1 := least_min h k.1 k.2.1
  have h2 := least_min k h.1 h.2.1
  omega
theorem least_low {cs ds : List (Int × Int)} {n T : Int} (h : Least cs ds n) (hc : ∀ c ∈ cs, c.2 < T) (hd : ∀ c ∈ ds, c.2 < T) : n < T := by
  refine Int.not_le.mp fun z => h.2.1 ?_
  rw [stay_high hc n z, stay_high hd n z]
theorem new_at {H : Hp} {p : Addr} {o : HO} (n : H p = none) : Same H (upd H p o) ∧ upd H p o p = some o := ⟨same_new n, upd_same⟩
theorem apart_snoc {cs ds : List (Int × Int)} {l : List Int} {x : Int} : apartL cs ds (l ++ [x]) = apartL cs ds l ++ if (!decide (stay cs x = stay ds x)) = true then [x] else [] := by
  unfold apartL
  rw [List.filter_append, List.filter_cons, List.filter_nil]
theorem ne_stay (x y : Int) : (!decide (V.int x = V.int y)) = !decide (x = y) := by
  congr 1
  by_cases h : x = y
  · rw [h, decide_eq_true rfl, decide_eq_true rfl]
  · rw [decide_eq_false h]
    exact ne_int h
def headV : List Int → V
  | [] => .non
  | x :: _ => .int x
theorem head_at (l : List Int) : (l.map V.int ++ [V.non])[0]? = some (headV l) := by
  cases l <;> rfl
section
variable {P : Program} {w : World} {K : PySem.W.Frag} {mg : Str → Option Value} {base : Heap}
abbrev s_law : Stmt := topS 19
abbrev N_law : List Str := ["script", "bag", "turn", "here", "there", "spots", "apart", "due", "handed", "top", "small", "spot", "count", "bears"]
abbrev P_law : List Str := ["script"]
theorem sc_law : FnScope N_law P_law (defScope s_law) := ⟨rfl, rfl, rfl, by decide +kernel, rfl, by decide +kernel, by decide +kernel⟩
def sp_law (K : PySem.W.Frag) : Sp := fun vs H Q _ => ∃ (a : Addr) (ns : List Int), vs = [.ref a] ∧ SqL K H a (ns.map V.int) ∧ ns.length ≤ 63 ∧ ∀ H', Q (.bl true) H'
theorem ok_law (A : At K mg "law" P_law s_law) (B : Bi mg)
    (D__law_bag : Df P w K mg base 1 "_law_bag" P__law_bag s__law_bag (sp__law_bag K)) (D__law_draw : Df P w K mg base 1 "_law_draw" P__law_draw s__law_draw sp__law_draw)
    (D__law_crowds : Df P w K mg base 2 "_law_crowds" P__law_crowds s__law_crowds sp__law_crowds) (D__law_changed : Df P w K mg base 2 "_law_changed" P__law_changed s__law_changed sp__law_changed)
    (D__law_places : Df P w K mg base 3 "_law_places" P__law_places s__law_places sp__law_places) (D__law_stay : Df P w K mg base 1 "_law_stay" P__law_stay s__law_stay sp__law_stay)
    (D_parting : Df P w K mg base 3 "parting" P_parting s_parting sp_parting) : Df P w K mg base 4 "law" P_law s_law (sp_law K) := by
  refine A.df fun f fd F => F.ok sc_law (fun vs H Q E h => ?_) (fun cdv AA outer s H vs Q E hr h => ?_)
  · obtain ⟨a, _, rfl, _⟩ := h
    rfl
  · obtain ⟨a, ns, rfl, hS, hl, q⟩ := h
    have nd := sc_law.nd
    refine ⟨_, (pss_cons (ps_set (i := 1) nd rfl (.inl rfl) (pe_df D__law_bag (hr.mono (by decide)) (by rfl) (pa_cons (pv 0) pa_nil)))
    (pss_cons (ps_for PassesOwn.never rfl (pi_range1 (by rfl) B.range (pa_cons (pe_op op_add pe_int (pe_callB (call_min2 rfl) (by rfl) B.min (by decide +kernel) (pa_cons pe_int (pa_cons (pe_callB call_len_seq (by rfl) B.len PySem.boot_len (pa_cons (pv 0) pa_nil)) pa_nil)))) pa_nil)) (pg_name (i := 2) nd rfl (.inl rfl)) (pss_cons (ps_set (i := 3) nd rfl (.inr rfl) (pe_df D__law_crowds (hr.mono (by decide)) (by rfl) (pa_cons (pv 1) (pa_cons (pe_ix ix_tup (pe_tup (pa_cons pe_int (pa_cons pe_int pa_nil))) (pe_op op_fdivW (pe_df D__law_draw (hr.mono (by decide)) (by rfl) (pa_cons (pv 1) (pa_cons pe_int pa_nil))) pe_int) (fun _ _ => rfl)) pa_nil)))) (pss_cons (ps_set (i := 4) nd rfl (.inr rfl) (pe_df D__law_changed (hr.mono (by decide)) (by rfl) (pa_cons (pv 1) (pa_cons (pv 3) pa_nil)))) (pss_cons (ps_if (pt_cmpR op_eq (pe_df D__law_draw (hr.mono (by decide)) (by rfl) (pa_cons (pv 1) (pa_cons pe_int pa_nil))) pe_int (nomark _)) (pss_one (ps_set (i := 4) nd rfl (.inr rfl) (pe_df D__law_crowds (hr.mono (by decide)) (by rfl) (pa_cons (pv 1) (pa_cons pe_int pa_nil))))) pss_nil) (pss_cons (ps_set (i := 5) nd rfl (.inl rfl) (pe_callB (cr_sortedSetN rfl) (by rfl) B.sorted (by decide +kernel) (pa_cons (pe_callTy (cr_setL rfl) (by rfl) B.set_ (by decide +kernel) (pa_cons (pe_op op_cat (pe_df D__law_places (hr.mono (by decide)) (by rfl) (pa_cons (pv 3) pa_nil)) (pe_df D__law_places (hr.mono (by decide)) (by rfl) (pa_cons (pv 4) pa_nil))) pa_nil)) pa_nil))) (pss_cons (ps_setLc (i := 6) (own := [("spot", 11)]) rfl nd rfl rfl (sw_true rfl rfl rfl (by decide +kernel)) (pi_list (pv 5)) (blkOk_by (N := N_law) (sc := defScope s_law) (by decide +kernel)) (fun _ _ _ _ _ => (pg_name (i := 11) nd rfl (.inl rfl))) (fun _ _ _ _ _ => (pts_one (pt_cmpR op_ne (pe_df D__law_stay (hr.mono (by decide)) (by rfl) (pa_cons (pv 3) (pa_cons (pv 11) pa_nil))) (pe_df D__law_stay (hr.mono (by decide)) (by rfl) (pa_cons (pv 4) (pa_cons (pv 11) pa_nil))) (nomark _)))) (fun _ _ _ _ _ => (pv 11))) (pss_cons (ps_set (i := 7) nd rfl (.inl rfl) (pe_ix ix_list (pe_op op_cat (pv 6) (pe_lst (pa_cons pe_non pa_nil))) pe_int (fun _ _ => rfl))) (pss_cons (ps_set (i := 8) nd rfl (.inl rfl) (pe_lst (pa_cons (pe_callTy call_list_of (by rfl) B.list_ (by decide +kernel) (pa_cons (pv 3) pa_nil)) (pa_cons (pe_callTy call_list_of (by rfl) B.list_ (by decide +kernel) (pa_cons (pv 4) pa_nil)) pa_nil)))) (pss_cons (ps_if (PW.pt (pw_or (pt_cmpR op_ne (pe_callB call_repr_opt (by rfl) B.repr (by decide +kernel) (pa_cons (pe_df D_parting (hr.mono (by decide)) (by rfl) (pa_cons (pe_ix ix_list (pv 8) pe_int (fun _ _ => rfl)) (pa_cons (pe_ix ix_list (pv 8) pe_int (fun _ _ => rfl)) pa_nil))) pa_nil)) (pe_callB call_repr_opt (by rfl) B.repr (by decide +kernel) (pa_cons (pv 7) pa_nil)) (nomark _)) (pw_or1 (pt_cmpR (op_neD hr.units) (pv 8) (pe_lst (pa_cons (pv 3) (pa_cons (pv 4) pa_nil))) (nomark _))))) (pss_one (ps_ret pe_bl)) pss_nil) (pss_cons (ps_if (pt_cmpR op_ne (pe_df D_parting (hr.mono (by decide)) (by rfl) (pa_cons (pv 4) (pa_cons (pv 3) pa_nil))) (pv 7) (nomark _)) (pss_one (ps_ret pe_bl)) pss_nil) (pss_cons (ps_if (pt_cmpR op_ne (pe_dfK D_parting ["other", "one"] (fun | [a0, a1] => [a1, a0] | l => l) (hr.mono (by decide)) (by rfl) (pk_cons (pe_ix ix_list (pv 8) pe_int (fun _ _ => rfl)) (pk_cons (pe_ix ix_list (pv 8) pe_int (fun _ _ => rfl)) pk_nil)) (fun _ _ _ _ _ _ ws hl => match ws, hl with | [_, _], _ => rfl) (fun r => match r with | .nil => .nil | .cons x0 .nil => .cons x0 .nil | .cons x0 (.cons x1 .nil) => .cons x1 (.cons x0 .nil) | .cons x0 (.cons x1 (.cons x2 r)) => .cons x0 (.cons x1 (.cons x2 r)))) (pv 7) (nomark _)) (pss_one (ps_ret pe_bl)) pss_nil) (pss_cons (ps_set (i := 9) nd rfl (.inl rfl) (pe_callB (cr_max rfl) (by rfl) B.max (by decide +kernel) (pa_cons (pe_op op_cat (pe_lst (pa_cons pe_int pa_nil)) (pe_lc (own := [("count", 12), ("bears", 13)]) (tt := tYes) rfl nd (pi_list (pe_op op_cat (pv 3) (pv 4))) (blkOk_by (N := N_law) (sc := defScope s_law) (by decide +kernel)) (fun _ _ _ _ _ => (pgTupK K 2 (by rfl) (pgs_cons (pg_name (i := 12) nd rfl (.inl rfl)) (pgs_cons (pg_name (i := 13) nd rfl (.inl rfl)) pgs_nil)))) (fun _ _ _ _ _ => pts_nil) (fun _ _ _ _ _ => (pv 13)))) pa_nil))) (pss_one (ps_if (pt_cmpR op_lt (pv 9) pe_int (nomark _)) (pss_cons (ps_setLc (i := 10) (own := [("spot", 11)]) rfl nd rfl rfl (sw_true rfl rfl rfl (by decide +kernel)) (pi_range1 (by rfl) B.range (pa_cons (pe_op op_add (pv 9) pe_int) pa_nil)) (blkOk_by (N := N_law) (sc := defScope s_law) (by decide +kernel)) (fun _ _ _ _ _ => (pg_name (i := 11) nd rfl (.inl rfl))) (fun _ _ _ _ _ => (pts_one (pt_cmpR op_ne (pe_df D__law_stay (hr.mono (by decide)) (by rfl) (pa_cons (pv 3) (pa_cons (pv 11) pa_nil))) (pe_df D__law_stay (hr.mono (by decide)) (by rfl) (pa_cons (pv 4) (pa_cons (pv 11) pa_nil))) (nomark _)))) (fun _ _ _ _ _ => (pv 11))) (pss_one (ps_if (pt_cmpR op_ne (pe_ix ix_list (pe_op op_cat (pv 10) (pe_lst (pa_cons pe_non pa_nil))) pe_int (fun _ _ => rfl)) (pv 7) (nomark _)) (pss_one (ps_ret pe_bl)) pss_nil))) pss_nil))))))))))))))
    (pss_one (ps_ret pe_bl)))), ?_⟩
    refine ⟨.ref a, rfl, a, ns, rfl, hS, hl, fun H1 b g s1 nb ng hT => ?_⟩
    refine ⟨.ref a, rfl, a, _, rfl, .inl (s1.seq hS), _, _, rfl, _, _, rfl, rfl, _, rfl, ?_, ?_, ?_⟩
    · split <;> omega
    · split <;> omega
    have hlaps : ((1 : Int) + (if ((ns.map V.int).length : Int) < 3 then ((ns.map V.int).length : Int) else 3)).toNat ≤ 4 := by
      split <;> omega
    refine for_it walk_range (fun i σ H2 => ∃ y2 y3 y4 y5 y6 y7 y8 y9 y10 y11 y12 y13, σ = [some (.ref a), some (.ref b), y2, y3, y4, y5, y6, y7, y8, y9, y10, y11, y12, y13] ∧ Bag H2 b g (10000 * i)) ⟨_, _, _, _, _, _, _, _, _, _, _, _, rfl, hT⟩ (fun _ _ _ _ _ => trivial) (fun i x σ H2 H3 hi hW hY => ?_) (fun σ H2 hW => ?_)
    · obtain ⟨y2, y3, y4, y5, y6, y7, y8, y9, y10, y11, y12, y13, rfl, T3⟩ := hW
      obtain ⟨rfl, rfl⟩ := hY
      have hi4 : i ≤ 3 := by omega
      -- here
      refine ⟨.ref b, rfl, (by show 2 ≤ sizeLine; decide), fun p np => ?_⟩
      have op : Off b g p := T3.off np
      refine ⟨.ref b, rfl, b, g, _, 8, rfl, T3.mut op, by omega, by decide, by decide, fun H5 r5 k5 T5 a5 b5 => ⟨_, _, rfl, rfl, ⟨by decide, by decide⟩, ?_⟩⟩
      obtain ⟨most, hv, hm0, hm1⟩ := pick2 (P := fun x => 0 < x ∧ x ≤ 38) (a := 8) (b := 38) (r := r5 / 7) (by omega) (by omega) ⟨by decide, by decide⟩ ⟨by decide, by decide⟩
      obtain ⟨m, rfl⟩ : ∃ m : Nat, most = (m : Int) := ⟨most.toNat, by omega⟩
      refine ⟨p, _, _, _, rfl, rfl, SqT.of (k5 _ _ op upd_same), hv, b, g, _, m, rfl, T5, by omega, by omega, fun H6 o1 ts cs k6 T6 hG6 hno hC hcl hcb => ?_⟩
      have hG6 : GsAt H6 (Off b g) o1 ts cs := hG6.weaken fun z hz => T5.off hz
      -- there
      dsimp only [gName]
      refine ⟨.ref b, rfl, .ref o1, rfl, b, g, _, o1, ts, cs, rfl, T6, hG6, fun c m => ⟨(hC c m).1, (hC c m).2, hcb c m⟩, by omega, by omega, fun H7 o2 us ds k7 T7 hG7 hD7 hl7 => ?_⟩
      dsimp only [gName]
      refine seq_to (fun σ H8 => ∃ th us ds, σ = [some (.ref a), some (.ref b), some (.int (0 + (i : Int))), some (.ref o1), some (.ref th), y5, y6, y7, y8, y9, y10, y11, y12, y13] ∧ Kp (Off b g) H6 H8 ∧ Bag H8 b g (10000 * i + 2000) ∧ GsAt H8 (Off b g) th us ds ∧ (∀ c ∈ ds, Lot c) ∧ ds.length ≤ 60) (fun X hX => ?_) (fun σ H8 hE => ?_)
      · refine ⟨.ref b, rfl, b, g, _, 4, rfl, T7, by omega, by decide, by decide, fun H8 r8 k8 T8 a8 b8 => ⟨rfl, _, rfl, ?_⟩⟩
        by_cases h0 : r8 = 0
        · subst h0
          rw [eq_int]
          refine iteT ?_
          refine ⟨.ref b, rfl, b, g, _, 8, rfl, T8, by decide, by omega, fun H9 o3 us3 ds3 k9 T9 hG9 _ hC9 hl9 hb9 => ?_⟩
          refine hX _ _ ⟨o3, us3, ds3, rfl, (k7.trans k8).trans k9, T9.more (by omega), hG9.weaken fun z hz => T8.off hz, fun c m => ⟨(hC9 c m).1, (hC9 c m).2, Int.lt_trans (hb9 c m).1 (by decide), Int.lt_trans (hb9 c m).2 (by decide)⟩, by omega⟩
        · rw [ne_int h0]
          refine iteF ?_
          exact hX _ _ ⟨o2, us, ds, rfl, k7.trans k8, T8.more (by omega), hG7.keep k8, hD7, by omega⟩
      clear hG7 hD7 hl7 T7 k7
      obtain ⟨o2, us, ds, rfl, k8, T8, hG2, hD, hdl⟩ := hE
      have hG1 := hG6.keep k8
      have hDc : Crw ds := fun c m => ⟨(hD c m).1, (hD c m).2.1⟩
      -- spots
      refine ⟨.ref o1, rfl, _, o1, ts, cs, rfl, hG1, hC, by omega, fun H9 p1 n1 s9 e9 l9 nn9 z9 t9 => ?_⟩
      refine ⟨.ref o2, rfl, _, o2, us, ds, rfl, hG2.same s9, hDc, by omega, fun H10 p2 n2 s10 e10 l10 nn10 z10 t10 => ?_⟩
      refine ⟨p1, p2, _, _, rfl, rfl, s10 _ _ e9, e10, ile (by rw [List.length_map, List.length_map]; omega), fun l nl => ?_⟩
      have s11 := same_new (o := .lst (n1.map V.int ++ n2.map V.int)) nl
      have e11 : (upd H10 l (.lst (n1.map V.int ++ n2.map V.int))) l = some (.lst ((n1 ++ n2).map V.int)) := by rw [upd_same, List.map_append]
      generalize upd H10 l (.lst (n1.map V.int ++ n2.map V.int)) = H11 at s11 e11 ⊢
      refine ⟨l, n1 ++ n2, rfl, SqL.of e11, Nat.lt_of_le_of_lt (show (n1 ++ n2).length + 1 ≤ 1000 by rw [List.length_append]; omega) (by decide), fun st cnt hcnt nst => ?_⟩
      obtain ⟨s12, e12⟩ := new_at (o := SetO _ st (fun j => decide (j ∈ n1 ++ n2)) cnt) nst
      refine ⟨st, _, cnt, rfl, e12, fun sp pq up mem len nq => ?_⟩
      obtain ⟨s13, e13⟩ := new_at (o := .lst (sp.map V.int)) nq
      generalize upd (upd H11 st (SetO _ st _ cnt)) pq _ = H13 at s13 e13 ⊢
      have mem' : ∀ x, x ∈ sp ↔ x ∈ n1 ++ n2 := fun x => (mem x).trans decide_eq_true_iff
      have s813 := s9.trans (s10.trans (s11.trans (s12.trans s13)))
      clear s9 s10 s11 s12 s13 e9 e10 e11 e12
      have hsl : sp.length ≤ 1000 := by
        rw [len]
        have h := hcnt
        rw [List.length_append] at h
        omega
      have snn : ∀ x ∈ sp, 0 ≤ x := fun x m => by
        rcases List.mem_append.mp ((mem' x).mp m) with m | m
        · exact nn9 x m
        · exact nn10 x m
      have sask : ∀ x ∈ askedL cs ds, x ∈ sp := fun x m => by
        rw [mem']
        rcases List.mem_cons.mp m with rfl | m
        · exact List.mem_append_left _ z9
        · obtain ⟨y, my, rfl⟩ := List.mem_map.mp m
          rcases List.mem_append.mp my with my | my
          · exact List.mem_append_left _ (t9 y my)
          · exact List.mem_append_right _ (t10 y my)
      have hG1 := hG1.same s813
      have hG2 := hG2.same s813
      -- apart
      dsimp only [gName]
      refine ⟨.ref pq, rfl, pq, rfl, ⟨_, SqL.of e13⟩, fun D nD => ?_⟩
      refine lc_it (walk_list (xs := sp.map V.int)) (fun k H2 => Same H13 H2 ∧ H2 D = some (.lst ((apartL cs ds (sp.take k)).map V.int))) ⟨same_new nD, upd_same⟩ (fun k H2 _ hW => SqL.of (hW.1 _ _ e13)) (fun k x H14 H15 hk hW hY => ?_) (fun H14 hW => ?_)
      · obtain ⟨sm, e⟩ := hW
        obtain ⟨rfl, hx⟩ := hY
        obtain ⟨x, ex, rfl⟩ := ints_at hx
        have hfl : (apartL cs ds (sp.take k)).length ≤ 1000 := Nat.le_trans (List.length_filter_le _ _) (by rw [List.length_take]; omega)
        refine ⟨rfl, .ref o1, rfl, _, rfl, _, o1, ts, cs, x, rfl, hG1.same sm, hC, ?_⟩
        refine ⟨.ref o2, rfl, _, rfl, _, o2, us, ds, x, rfl, hG2.same sm, hDc, rfl, _, rfl, ?_⟩
        show if (!decide (V.int (stay cs x) = V.int (stay ds x))) = true then _ else _
        rw [ne_stay, take_snoc ex, apart_snoc]
        cases hd : !decide (stay cs x = stay ds x) with
        | false =>
          refine iteF ⟨sm, ?_⟩
          rw [if_neg Bool.false_ne_true, List.append_nil]
          exact e
        | true =>
          refine iteT ⟨.int x, rfl, _, e, ils (by rw [List.length_map]; omega), Same.mut sm nD, ?_⟩
          rw [upd_same, if_pos rfl, List.map_append]
          rfl
      obtain ⟨s14, eD⟩ := hW
      rw [List.length_map, take_full] at eD
      have hAl : (apartL cs ds sp).length ≤ 1000 := Nat.le_trans (List.length_filter_le _ _) hsl
      -- due
      dsimp only [gName]
      refine ⟨.ref D, rfl, (by show 1 ≤ sizeLine; decide), fun z nz => ?_⟩
      obtain ⟨s15, e15⟩ := new_at (o := .lst [.non]) nz
      refine ⟨D, z, _, _, rfl, rfl, s15 _ _ eD, e15, ile (by rw [List.length_map]; show _ + 1 ≤ 100000; omega), fun c nc => ?_⟩
      obtain ⟨s16, e16⟩ := new_at (o := .lst ((apartL cs ds sp).map V.int ++ [.non])) nc
      refine ⟨c, _, 0, _, rfl, rfl, SqL.of e16, atI_nat (j := 0) (head_at _), ?_⟩
      have s1416 := s14.trans (s15.trans s16)
      generalize upd (upd H14 z (.lst [.non])) c (.lst ((apartL cs ds sp).map V.int ++ [.non])) = H16 at s1416 ⊢
      clear s14 s15 s16 e15 e16
      have hG1 := hG1.same s1416
      have hG2 := hG2.same s1416
      -- handed
      dsimp only [gName]
      refine ⟨.ref o1, rfl, o1, _, rfl, .inl hG1.seq, fun h1 nh1 => ?_⟩
      obtain ⟨s17, e17⟩ := new_at (o := .lst (ts.map V.ref)) nh1
      generalize upd H16 h1 (.lst (ts.map V.ref)) = H17 at s17 e17 ⊢
      refine ⟨.ref o2, rfl, o2, _, rfl, .inl (hG2.same s17).seq, fun h2 nh2 => ?_⟩
      obtain ⟨s18, e18⟩ := new_at (o := .lst (us.map V.ref)) nh2
      generalize upd H17 h2 (.lst (us.map V.ref)) = H18 at s18 e18 ⊢
      refine ⟨(by show 2 ≤ sizeLine; decide), fun hd nhd => ?_⟩
      obtain ⟨s19, e19⟩ := new_at (o := .lst [.ref h1, .ref h2]) nhd
      generalize upd H18 hd (.lst [.ref h1, .ref h2]) = H19 at s19 e19 ⊢
      have s1619 := s17.trans (s18.trans s19)
      have G1 := hG1.same s1619
      have G2 := hG2.same s1619
      have E1 : GsAt H19 (fun _ => True) h1 ts cs := G1.pr.gs ((s18.trans s19) _ _ e17)
      have E2 : GsAt H19 (fun _ => True) h2 us ds := G2.pr.gs (s19 _ _ e18)
      have T19 := T8.keep (s813.trans (s1416.trans s1619))
      clear s17 s18 s19 e17 e18
      have hdd : Oks 3 (.list [dGs cs, dGs ds]) := .lst fun x m => by
        rcases List.mem_cons.mp m with rfl | m
        · exact Oks.gs _
        · rw [List.mem_singleton.mp m]
          exact Oks.gs _
      have hcs : ∀ c ∈ cs, c.2 < 2 ^ 151 := fun c m => Int.lt_trans (hcb c m).2 (by decide)
      have hds : ∀ c ∈ ds, c.2 < 2 ^ 151 := fun c m => (hD c m).2.2.2
      generalize hdv : headV (apartL cs ds sp) = dv
      rcases like_or cs ds with hL | ⟨n, hn⟩
      · obtain rfl : dv = .non := by rw [← hdv, apart_like hL snn]; rfl
        refine ⟨.ref hd, rfl, hd, _, 0, .ref h1, rfl, rfl, SqL.of e19, atI_nat (j := 0) rfl, .ref hd, rfl, hd, _, 1, .ref h2, rfl, rfl, SqL.of e19, atI_nat (j := 1) rfl, _, _, h1, h2, ts, us, cs, ds, rfl, E1, E2, by omega, by omega, hC, hDc, fun _ H20 s20 => ?_, fun m hm => (like_no hL hm).elim⟩
        refine .inr ⟨rfl, ?_⟩
        refine ⟨.non, rfl, .inr ⟨rfl, ?_⟩⟩
        refine ⟨rfl, _, rfl, ?_⟩
        rw [nd_self]
        refine iteF ?_
        refine ⟨.ref hd, rfl, .ref o1, rfl, .ref o2, rfl, (by show 2 ≤ sizeLine; decide), fun nl nnl => ?_⟩
        obtain ⟨s21, e21⟩ := new_at (o := .lst [.ref o1, .ref o2]) nnl
        generalize upd H20 nl (.lst [.ref o1, .ref o2]) = H21 at s21 e21 ⊢
        have s1921 := s20.trans s21
        refine ⟨_, _, Dp.lst (SqL.of (s1921 _ _ e19)) (.cons (E1.same s1921).dp (.cons (E2.same s1921).dp .nil)), Dp.lst (SqL.of e21) (.cons (G1.same s1921).dp (.cons (G2.same s1921).dp .nil)), hdd.shaped, hdd.shaped, _, rfl, ?_⟩
        rw [hdd.eqv]
        refine iteF ?_
        refine ⟨.ref o2, rfl, .ref o1, rfl, _, _, o2, o1, us, ts, ds, cs, rfl, G2.same s1921, G1.same s1921, by omega, by omega, hDc, hC, fun _ H22 s22 => ?_, fun m hm => (like_no hL.flip hm).elim⟩
        refine ⟨_, rfl, rfl, _, rfl, ?_⟩
        rw [nd_self]
        refine iteF ?_
        have s1922 := s1921.trans s22
        have e19b := s1922 _ _ e19
        refine ⟨.ref hd, rfl, hd, _, 1, .ref h2, rfl, rfl, SqL.of e19b, atI_nat (j := 1) rfl, .ref hd, rfl, hd, _, 0, .ref h1, rfl, rfl, SqL.of e19b, atI_nat (j := 0) rfl, rfl, _, _, h1, h2, ts, us, cs, ds, rfl, E1.same s1922, E2.same s1922, by omega, by omega, hC, hDc, fun _ H23 s23 => ?_, fun m hm => (like_no hL hm).elim⟩
        refine ⟨_, rfl, rfl, _, rfl, ?_⟩
        rw [nd_self]
        refine iteF ?_
        have s1923 := s1922.trans s23
        have G1 := G1.same s1923
        have G2 := G2.same s1923
        have T23 := T19.keep s1923
        refine ⟨(by show 1 ≤ sizeLine; decide), fun z0 nz0 => ?_⟩
        obtain ⟨s24, e24⟩ := new_at (o := .lst [.int 0]) nz0
        generalize upd H23 z0 (.lst [.int 0]) = H24 at s24 e24 ⊢
        refine ⟨.ref o1, rfl, .ref o2, rfl, o1, o2, _, _, rfl, rfl, (G1.same s24).top, (G2.same s24).top, ile (by rw [List.length_map, List.length_map, G1.len, G2.len]; omega), fun cc ncc => ?_⟩
        obtain ⟨s25, e25⟩ := new_at (o := .lst (ts.map V.ref ++ us.map V.ref)) ncc
        generalize upd H24 cc (.lst (ts.map V.ref ++ us.map V.ref)) = H25 at s25 e25 ⊢
        have hcat : GsAt H25 (fun _ => True) cc (ts ++ us) (cs ++ ds) := ((G1.same (s24.trans s25)).pr.cat (G2.same (s24.trans s25)).pr).gs (by rw [e25, List.map_append])
        refine ⟨cc, rfl, ⟨_, SqL.of e25⟩, fun D5 nD5 => ?_⟩
        refine lc_prs (fun z => z.2) hcat nD5 (by rw [List.length_append]; omega) (fun z H' _ _ Q q => ⟨_, rfl, q⟩) (fun _ => rfl) fun H26 s26 e26 => ?_
        refine ⟨z0, D5, _, _, rfl, rfl, (s25.trans s26) _ _ e24, e26, ile (by rw [List.length_map, List.length_map, List.length_append]; show 1 + _ ≤ 100000; omega), fun t0 nt0 => ?_⟩
        obtain ⟨s27, e27⟩ := new_at (o := .lst ([V.int 0] ++ ((cs ++ ds).map (·.2)).map V.int)) nt0
        generalize upd H26 t0 (.lst ([V.int 0] ++ ((cs ++ ds).map (·.2)).map V.int)) = H27 at s27 e27 ⊢
        have s2327 := s24.trans (s25.trans (s26.trans s27))
        refine ⟨t0, 0 :: (cs ++ ds).map (fun z : Int × Int => z.2), rfl, SqL.of (show H27 t0 = some (.lst ((0 :: (cs ++ ds).map fun z : Int × Int => z.2).map V.int)) from e27), Nat.succ_pos _, fun top mt ht => ?_⟩
        have ht0 := ht 0 (.head _)
        have hct : ∀ c ∈ cs, c.2 < top + 1 := fun c m => by have := ht c.2 (.tail _ (List.mem_map_of_mem (List.mem_append_left _ m))); omega
        have hdt : ∀ c ∈ ds, c.2 < top + 1 := fun c m => by have := ht c.2 (.tail _ (List.mem_map_of_mem (List.mem_append_right _ m))); omega
        have G1 := G1.same s2327
        have G2 := G2.same s2327
        have T27 := T23.keep s2327
        dsimp only [gName]
        refine ⟨.int top, rfl, _, _, rfl, rfl, _, rfl, ite2 (fun h60 => ?_) (fun _ => ⟨_, _, _, _, _, _, _, _, _, _, _, _, rfl, T27.more (by omega)⟩)⟩
        have h60 : top < 60 := of_decide_eq_true h60
        refine ⟨.int top, rfl, _, _, rfl, rfl, _, rfl, by omega, by omega, fun D6 nD6 => ?_⟩
        refine lc_it walk_range (fun k H2 => Same H27 H2 ∧ H2 D6 = some (.lst ((apartL cs ds ((List.range k).map fun j : Nat => (j : Int))).map V.int))) ⟨same_new nD6, upd_same⟩ (fun _ _ _ _ => trivial) (fun k x H28 H29 hk hW hY => ?_) (fun H28 hW => ?_)
        · obtain ⟨sm, e⟩ := hW
          obtain ⟨rfl, hx⟩ := hY
          obtain rfl := rg0 hx
          have hfl : (apartL cs ds ((List.range k).map fun j : Nat => (j : Int))).length ≤ 1000 := Nat.le_trans (List.length_filter_le _ _) (by rw [List.length_map, List.length_range]; omega)
          refine ⟨rfl, .ref o1, rfl, _, rfl, _, o1, ts, cs, (k : Int), rfl, G1.same sm, hC, ?_⟩
          refine ⟨.ref o2, rfl, _, rfl, _, o2, us, ds, (k : Int), rfl, G2.same sm, hDc, rfl, _, rfl, ?_⟩
          show if (!decide (V.int (stay cs k) = V.int (stay ds k))) = true then _ else _
          have er : (List.range (k + 1)).map (fun j : Nat => (j : Int)) = (List.range k).map (fun j : Nat => (j : Int)) ++ [(k : Int)] := by
            rw [List.range_succ, List.map_append]
            rfl
          rw [ne_stay, er, apart_snoc]
          cases hd' : !decide (stay cs (k : Int) = stay ds (k : Int)) with
          | false =>
            refine iteF ⟨sm, ?_⟩
            rw [if_neg Bool.false_ne_true, List.append_nil]
            exact e
          | true =>
            refine iteT ⟨.int k, rfl, _, e, ils (by rw [List.length_map]; omega), Same.mut sm nD6, ?_⟩
            rw [upd_same, if_pos rfl, List.map_append]
            rfl
        obtain ⟨s28, e28⟩ := hW
        have rnn : ∀ x ∈ (List.range (top + 3).toNat).map fun j : Nat => (j : Int), 0 ≤ x := fun x m => by
          obtain ⟨j, _, rfl⟩ := List.mem_map.mp m
          omega
        have hBl : (apartL cs ds ((List.range (top + 3).toNat).map fun j : Nat => (j : Int))).length ≤ 1000 := Nat.le_trans (List.length_filter_le _ _) (by rw [List.length_map, List.length_range]; omega)
        dsimp only [gName]
        refine ⟨.ref D6, rfl, (by show 1 ≤ sizeLine; decide), fun z nz => ?_⟩
        obtain ⟨s29, e29⟩ := new_at (o := .lst [.non]) nz
        refine ⟨D6, z, _, _, rfl, rfl, s29 _ _ e28, e29, ile (by rw [List.length_map]; show _ + 1 ≤ 100000; omega), fun c nc => ?_⟩
        obtain ⟨s30, e30⟩ := new_at (o := .lst ((apartL cs ds ((List.range (top + 3).toNat).map fun j : Nat => (j : Int))).map V.int ++ [.non])) nc
        refine ⟨c, _, 0, _, rfl, rfl, SqL.of e30, atI_nat (j := 0) (head_at _), ?_⟩
        have hhv : headV (apartL cs ds ((List.range (top + 3).toNat).map fun j : Nat => (j : Int))) = .non := by rw [apart_like hL rnn]; rfl
        rw [hhv]
        refine ⟨_, rfl, rfl, _, rfl, ?_⟩
        rw [nd_self]
        refine iteF ?_
        exact ⟨_, _, _, _, _, _, _, _, _, _, _, _, rfl, (T27.keep (s28.trans (s29.trans s30))).more (by omega)⟩
      · obtain rfl : dv = .int n := by
          obtain ⟨t', et'⟩ := apart_least hn snn up (sask n (least_asked hC hDc hn))
          rw [← hdv, et']
          rfl
        have hn151 := least_low hn hcs hds
        have hlog : n.natAbs.log2 < 1920 := Nat.lt_trans (log2_lt hn.1 hn151 (by decide)) (by decide)
        refine ⟨.ref hd, rfl, hd, _, 0, .ref h1, rfl, rfl, SqL.of e19, atI_nat (j := 0) rfl, .ref hd, rfl, hd, _, 1, .ref h2, rfl, rfl, SqL.of e19, atI_nat (j := 1) rfl, _, _, h1, h2, ts, us, cs, ds, rfl, E1, E2, by omega, by omega, hC, hDc, fun z => (like_no z hn).elim, fun m hm H20 s20 => ?_⟩
        obtain rfl : n = m := least_one hn hm
        refine .inl ⟨_, rfl, hlog, ?_⟩
        refine ⟨_, rfl, .inl ⟨_, rfl, hlog, ?_⟩⟩
        refine ⟨rfl, _, rfl, ?_⟩
        rw [nd_self]
        refine iteF ?_
        refine ⟨.ref hd, rfl, .ref o1, rfl, .ref o2, rfl, (by show 2 ≤ sizeLine; decide), fun nl nnl => ?_⟩
        obtain ⟨s21, e21⟩ := new_at (o := .lst [.ref o1, .ref o2]) nnl
        generalize upd H20 nl (.lst [.ref o1, .ref o2]) = H21 at s21 e21 ⊢
        have s1921 := s20.trans s21
        refine ⟨_, _, Dp.lst (SqL.of (s1921 _ _ e19)) (.cons (E1.same s1921).dp (.cons (E2.same s1921).dp .nil)), Dp.lst (SqL.of e21) (.cons (G1.same s1921).dp (.cons (G2.same s1921).dp .nil)), hdd.shaped, hdd.shaped, _, rfl, ?_⟩
        rw [hdd.eqv]
        refine iteF ?_
        refine ⟨.ref o2, rfl, .ref o1, rfl, _, _, o2, o1, us, ts, ds, cs, rfl, G2.same s1921, G1.same s1921, by omega, by omega, hDc, hC, fun z => (like_no z hn.flip).elim, fun m hm H22 s22 => ?_⟩
        obtain rfl : n = m := least_one hn.flip hm
        refine ⟨_, rfl, rfl, _, rfl, ?_⟩
        rw [nd_self]
        refine iteF ?_
        have s1922 := s1921.trans s22
        have e19b := s1922 _ _ e19
        refine ⟨.ref hd, rfl, hd, _, 1, .ref h2, rfl, rfl, SqL.of e19b, atI_nat (j := 1) rfl, .ref hd, rfl, hd, _, 0, .ref h1, rfl, rfl, SqL.of e19b, atI_nat (j := 0) rfl, rfl, _, _, h1, h2, ts, us, cs, ds, rfl, E1.same s1922, E2.same s1922, by omega, by omega, hC, hDc, fun z => (like_no z hn).elim, fun m hm H23 s23 => ?_⟩
        obtain rfl : n = m := least_one hn hm
        refine ⟨_, rfl, rfl, _, rfl, ?_⟩
        rw [nd_self]
        refine iteF ?_
        have s1923 := s1922.trans s23
        have G1 := G1.same s1923
        have G2 := G2.same s1923
        have T23 := T19.keep s1923
        refine ⟨(by show 1 ≤ sizeLine; decide), fun z0 nz0 => ?_⟩
        obtain ⟨s24, e24⟩ := new_at (o := .lst [.int 0]) nz0
        generalize upd H23 z0 (.lst [.int 0]) = H24 at s24 e24 ⊢
        refine ⟨.ref o1, rfl, .ref o2, rfl, o1, o2, _, _, rfl, rfl, (G1.same s24).top, (G2.same s24).top, ile (by rw [List.length_map, List.length_map, G1.len, G2.len]; omega), fun cc ncc => ?_⟩
        obtain ⟨s25, e25⟩ := new_at (o := .lst (ts.map V.ref ++ us.map V.ref)) ncc
        generalize upd H24 cc (.lst (ts.map V.ref ++ us.map V.ref)) = H25 at s25 e25 ⊢
        have hcat : GsAt H25 (fun _ => True) cc (ts ++ us) (cs ++ ds) := ((G1.same (s24.trans s25)).pr.cat (G2.same (s24.trans s25)).pr).gs (by rw [e25, List.map_append])
        refine ⟨cc, rfl, ⟨_, SqL.of e25⟩, fun D5 nD5 => ?_⟩
        refine lc_prs (fun z => z.2) hcat nD5 (by rw [List.length_append]; omega) (fun z H' _ _ Q q => ⟨_, rfl, q⟩) (fun _ => rfl) fun H26 s26 e26 => ?_
        refine ⟨z0, D5, _, _, rfl, rfl, (s25.trans s26) _ _ e24, e26, ile (by rw [List.length_map, List.length_map, List.length_append]; show 1 + _ ≤ 100000; omega), fun t0 nt0 => ?_⟩
        obtain ⟨s27, e27⟩ := new_at (o := .lst ([V.int 0] ++ ((cs ++ ds).map (·.2)).map V.int)) nt0
        generalize upd H26 t0 (.lst ([V.int 0] ++ ((cs ++ ds).map (·.2)).map V.int)) = H27 at s27 e27 ⊢
        have s2327 := s24.trans (s25.trans (s26.trans s27))
        refine ⟨t0, 0 :: (cs ++ ds).map (fun z : Int × Int => z.2), rfl, SqL.of (show H27 t0 = some (.lst ((0 :: (cs ++ ds).map fun z : Int × Int => z.2).map V.int)) from e27), Nat.succ_pos _, fun top mt ht => ?_⟩
        have ht0 := ht 0 (.head _)
        have hct : ∀ c ∈ cs, c.2 < top + 1 := fun c m => by have := ht c.2 (.tail _ (List.mem_map_of_mem (List.mem_append_left _ m))); omega
        have hdt : ∀ c ∈ ds, c.2 < top + 1 := fun c m => by have := ht c.2 (.tail _ (List.mem_map_of_mem (List.mem_append_right _ m))); omega
        have G1 := G1.same s2327
        have G2 := G2.same s2327
        have T27 := T23.keep s2327
        dsimp only [gName]
        refine ⟨.int top, rfl, _, _, rfl, rfl, _, rfl, ite2 (fun h60 => ?_) (fun _ => ⟨_, _, _, _, _, _, _, _, _, _, _, _, rfl, T27.more (by omega)⟩)⟩
        have h60 : top < 60 := of_decide_eq_true h60
        refine ⟨.int top, rfl, _, _, rfl, rfl, _, rfl, by omega, by omega, fun D6 nD6 => ?_⟩
        refine lc_it walk_range (fun k H2 => Same H27 H2 ∧ H2 D6 = some (.lst ((apartL cs ds ((List.range k).map fun j : Nat => (j : Int))).map V.int))) ⟨same_new nD6, upd_same⟩ (fun _ _ _ _ => trivial) (fun k x H28 H29 hk hW hY => ?_) (fun H28 hW => ?_)
        · obtain ⟨sm, e⟩ := hW
          obtain ⟨rfl, hx⟩ := hY
          obtain rfl := rg0 hx
          have hfl : (apartL cs ds ((List.range k).map fun j : Nat => (j : Int))).length ≤ 1000 := Nat.le_trans (List.length_filter_le _ _) (by rw [List.length_map, List.length_range]; omega)
          refine ⟨rfl, .ref o1, rfl, _, rfl, _, o1, ts, cs, (k : Int), rfl, G1.same sm, hC, ?_⟩
          refine ⟨.ref o2, rfl, _, rfl, _, o2, us, ds, (k : Int), rfl, G2.same sm, hDc, rfl, _, rfl, ?_⟩
          show if (!decide (V.int (stay cs k) = V.int (stay ds k))) = true then _ else _
          have er : (List.range (k + 1)).map (fun j : Nat => (j : Int)) = (List.range k).map (fun j : Nat => (j : Int)) ++ [(k : Int)] := by
            rw [List.range_succ, List.map_append]
            rfl
          rw [ne_stay, er, apart_snoc]
          cases hd' : !decide (stay cs (k : Int) = stay ds (k : Int)) with
          | false =>
            refine iteF ⟨sm, ?_⟩
            rw [if_neg Bool.false_ne_true, List.append_nil]
            exact e
          | true =>
            refine iteT ⟨.int k, rfl, _, e, ils (by rw [List.length_map]; omega), Same.mut sm nD6, ?_⟩
            rw [upd_same, if_pos rfl, List.map_append]
            rfl
        obtain ⟨s28, e28⟩ := hW
        have rnn : ∀ x ∈ (List.range (top + 3).toNat).map fun j : Nat => (j : Int), 0 ≤ x := fun x m => by
          obtain ⟨j, _, rfl⟩ := List.mem_map.mp m
          omega
        have hBl : (apartL cs ds ((List.range (top + 3).toNat).map fun j : Nat => (j : Int))).length ≤ 1000 := Nat.le_trans (List.length_filter_le _ _) (by rw [List.length_map, List.length_range]; omega)
        dsimp only [gName]
        refine ⟨.ref D6, rfl, (by show 1 ≤ sizeLine; decide), fun z nz => ?_⟩
        obtain ⟨s29, e29⟩ := new_at (o := .lst [.non]) nz
        refine ⟨D6, z, _, _, rfl, rfl, s29 _ _ e28, e29, ile (by rw [List.length_map]; show _ + 1 ≤ 100000; omega), fun c nc => ?_⟩
        obtain ⟨s30, e30⟩ := new_at (o := .lst ((apartL cs ds ((List.range (top + 3).toNat).map fun j : Nat => (j : Int))).map V.int ++ [.non])) nc
        refine ⟨c, _, 0, _, rfl, rfl, SqL.of e30, atI_nat (j := 0) (head_at _), ?_⟩
        have rup : ((List.range (top + 3).toNat).map fun j : Nat => (j : Int)).Pairwise (· < ·) := by
          rw [List.pairwise_map]
          exact List.pairwise_lt_range.imp fun h => Int.ofNat_lt.mpr h
        have hnt := least_low hn hct hdt
        obtain ⟨t', et'⟩ := apart_least hn rnn rup (List.mem_map.mpr ⟨n.toNat, List.mem_range.mpr (by have := hn.1; omega), by have := hn.1; omega⟩)
        have hhv : headV (apartL cs ds ((List.range (top + 3).toNat).map fun j : Nat => (j : Int))) = .int n := by rw [et']; rfl
        rw [hhv]
        refine ⟨_, rfl, rfl, _, rfl, ?_⟩
        rw [nd_self]
        refine iteF ?_
        exact ⟨_, _, _, _, _, _, _, _, _, _, _, _, rfl, (T27.keep (s28.trans (s29.trans s30))).more (by omega)⟩
    · exact q _
end
end El
namespace El
open PySem PySem.Spec PyProof.Rows L2
theorem all_mk {l : PySem.W.OpenLaw} {w : World} {K : PySem.W.Frag} {h : Heap} {mg : Str → Option Value} {fa f1 f2 f3 f4 f5 f6 f7 f8 f9 f10 f11 f12 f13 f14 : Addr} (X : K.In h) (G : h.Ns mainGlobals mg) (hfa : mg "law" = some (.ref fa))
    {od1 an1 od2 an2 od3 an3 od4 an4 od5 an5 od6 an6 od7 an7 od8 an8 od9 an9 od10 an10 od11 an11 od12 an12 od13 an13 od14 an14 : Option Addr} {sl1 sl2 sl3 sl4 sl5 sl6 sl7 sl8 sl9 sl10 sl11 sl12 sl13 sl14 : Array (Option Value)} {oc1 kV1 dc1 pm1 cd1 ct1 oc2 kV2 dc2 pm2 cd2 ct2 oc3 kV3 dc3 pm3 cd3 ct3 oc4 kV4 dc4 pm4 cd4 ct4 oc5 kV5 dc5 pm5 cd5 ct5 oc6 kV6 dc6 pm6 cd6 ct6 oc7 kV7 dc7 pm7 cd7 ct7 oc8 kV8 dc8 pm8 cd8 ct8 oc9 kV9 dc9 pm9 cd9 ct9 oc10 kV10 dc10 pm10 cd10 ct10 oc11 kV11 dc11 pm11 cd11 ct11 oc12 kV12 dc12 pm12 cd12 ct12 oc13 kV13 dc13 pm13 cd13 ct13 oc14 kV14 dc14 pm14 cd14 ct14 : Value}
    (a1 : PySem.W.nsIn K mainGlobals "is_crowd" = some (some (.ref f1))) (l1 : K.lookup f1 = some ⟨oc1, od1, .func (PySem.W.fnOf "is_crowd" "is_crowd" (defArgs s_is_crowd) (defBody s_is_crowd) (defScope s_is_crowd) .none kV1 dc1 pm1 an1 cd1 ct1), sl1⟩) (c1 : PySem.W.codeIn K cd1 "is_crowd" = true) (k1 : PySem.W.keepIn K (.ref f1) = true)
    (a2 : PySem.W.nsIn K mainGlobals "check_crowds" = some (some (.ref f2))) (l2 : K.lookup f2 = some ⟨oc2, od2, .func (PySem.W.fnOf "check_crowds" "check_crowds" (defArgs s_check_crowds) (defBody s_check_crowds) (defScope s_check_crowds) .none kV2 dc2 pm2 an2 cd2 ct2), sl2⟩) (c2 : PySem.W.codeIn K cd2 "check_crowds" = true) (k2 : PySem.W.keepIn K (.ref f2) = true)
    (a3 : PySem.W.nsIn K mainGlobals "kept_with" = some (some (.ref f3))) (l3 : K.lookup f3 = some ⟨oc3, od3, .func (PySem.W.fnOf "kept_with" "kept_with" (defArgs s_kept_with) (defBody s_kept_with) (defScope s_kept_with) .none kV3 dc3 pm3 an3 cd3 ct3), sl3⟩) (c3 : PySem.W.codeIn K cd3 "kept_with" = true) (k3 : PySem.W.keepIn K (.ref f3) = true)
    (a4 : PySem.W.nsIn K mainGlobals "least_that_keeps" = some (some (.ref f4))) (l4 : K.lookup f4 = some ⟨oc4, od4, .func (PySem.W.fnOf "least_that_keeps" "least_that_keeps" (defArgs s_least_that_keeps) (defBody s_least_that_keeps) (defScope s_least_that_keeps) .none kV4 dc4 pm4 an4 cd4 ct4), sl4⟩) (c4 : PySem.W.codeIn K cd4 "least_that_keeps" = true) (k4 : PySem.W.keepIn K (.ref f4) = true)
    (a5 : PySem.W.nsIn K mainGlobals "turns" = some (some (.ref f5))) (l5 : K.lookup f5 = some ⟨oc5, od5, .func (PySem.W.fnOf "turns" "turns" (defArgs s_turns) (defBody s_turns) (defScope s_turns) .none kV5 dc5 pm5 an5 cd5 ct5), sl5⟩) (c5 : PySem.W.codeIn K cd5 "turns" = true) (k5 : PySem.W.keepIn K (.ref f5) = true)
    (a6 : PySem.W.nsIn K mainGlobals "parting" = some (some (.ref f6))) (l6 : K.lookup f6 = some ⟨oc6, od6, .func (PySem.W.fnOf "parting" "parting" (defArgs s_parting) (defBody s_parting) (defScope s_parting) .none kV6 dc6 pm6 an6 cd6 ct6), sl6⟩) (c6 : PySem.W.codeIn K cd6 "parting" = true) (k6 : PySem.W.keepIn K (.ref f6) = true)
    (a7 : PySem.W.nsIn K mainGlobals "_law_bag" = some (some (.ref f7))) (l7 : K.lookup f7 = some ⟨oc7, od7, .func (PySem.W.fnOf "_law_bag" "_law_bag" (defArgs s__law_bag) (defBody s__law_bag) (defScope s__law_bag) .none kV7 dc7 pm7 an7 cd7 ct7), sl7⟩) (c7 : PySem.W.codeIn K cd7 "_law_bag" = true) (k7 : PySem.W.keepIn K (.ref f7) = true)
    (a8 : PySem.W.nsIn K mainGlobals "_law_draw" = some (some (.ref f8))) (l8 : K.lookup f8 = some ⟨oc8, od8, .func (PySem.W.fnOf "_law_draw" "_law_draw" (defArgs s__law_draw) (defBody s__law_draw) (defScope s__law_draw) .none kV8 dc8 pm8 an8 cd8 ct8), sl8⟩) (c8 : PySem.W.codeIn K cd8 "_law_draw" = true) (k8 : PySem.W.keepIn K (.ref f8) = true)
    (a9 : PySem.W.nsIn K mainGlobals "_law_crowds" = some (some (.ref f9))) (l9 : K.lookup f9 = some ⟨oc9, od9, .func (PySem.W.fnOf "_law_crowds" "_law_crowds" (defArgs s__law_crowds) (defBody s__law_crowds) (defScope s__law_crowds) .none kV9 dc9 pm9 an9 cd9 ct9), sl9⟩) (c9 : PySem.W.codeIn K cd9 "_law_crowds" = true) (k9 : PySem.W.keepIn K (.ref f9) = true)
    (a10 : PySem.W.nsIn K mainGlobals "_law_stay" = some (some (.ref f10))) (l10 : K.lookup f10 = some ⟨oc10, od10, .func (PySem.W.fnOf "_law_stay" "_law_stay" (defArgs s__law_stay) (defBody s__law_stay) (defScope s__law_stay) .none kV10 dc10 pm10 an10 cd10 ct10), sl10⟩) (c10 : PySem.W.codeIn K cd10 "_law_stay" = true) (k10 : PySem.W.keepIn K (.ref f10) = true)
    (a11 : PySem.W.nsIn K mainGlobals "_law_changed" = some (some (.ref f11))) (l11 : K.lookup f11 = some ⟨oc11, od11, .func (PySem.W.fnOf "_law_changed" "_law_changed" (defArgs s__law_changed) (defBody s__law_changed) (defScope s__law_changed) .none kV11 dc11 pm11 an11 cd11 ct11), sl11⟩) (c11 : PySem.W.codeIn K cd11 "_law_changed" = true) (k11 : PySem.W.keepIn K (.ref f11) = true)
    (a12 : PySem.W.nsIn K mainGlobals "_law_led_back" = some (some (.ref f12))) (l12 : K.lookup f12 = some ⟨oc12, od12, .func (PySem.W.fnOf "_law_led_back" "_law_led_back" (defArgs s__law_led_back) (defBody s__law_led_back) (defScope s__law_led_back) .none kV12 dc12 pm12 an12 cd12 ct12), sl12⟩) (c12 : PySem.W.codeIn K cd12 "_law_led_back" = true) (k12 : PySem.W.keepIn K (.ref f12) = true)
    (a13 : PySem.W.nsIn K mainGlobals "_law_places" = some (some (.ref f13))) (l13 : K.lookup f13 = some ⟨oc13, od13, .func (PySem.W.fnOf "_law_places" "_law_places" (defArgs s__law_places) (defBody s__law_places) (defScope s__law_places) .none kV13 dc13 pm13 an13 cd13 ct13), sl13⟩) (c13 : PySem.W.codeIn K cd13 "_law_places" = true) (k13 : PySem.W.keepIn K (.ref f13) = true)
    (a14 : PySem.W.nsIn K mainGlobals "law" = some (some (.ref f14))) (l14 : K.lookup f14 = some ⟨oc14, od14, .func (PySem.W.fnOf "law" "law" (defArgs s_law) (defBody s_law) (defScope s_law) .none kV14 dc14 pm14 an14 cd14 ct14), sl14⟩) (c14 : PySem.W.codeIn K cd14 "law" = true) (k14 : PySem.W.keepIn K (.ref f14) = true)
    (z1 : PySem.W.nsIn K mainGlobals "len" = some none) (z2 : PySem.W.nsIn K mainGlobals "range" = some none) (z3 : PySem.W.nsIn K mainGlobals "enumerate" = some none) (z4 : PySem.W.nsIn K mainGlobals "sorted" = some none) (z5 : PySem.W.nsIn K mainGlobals "sum" = some none) (z6 : PySem.W.nsIn K mainGlobals "min" = some none) (z7 : PySem.W.nsIn K mainGlobals "max" = some none) (z8 : PySem.W.nsIn K mainGlobals "isinstance" = some none) (z9 : PySem.W.nsIn K mainGlobals "zip" = some none) (z10 : PySem.W.nsIn K mainGlobals "list" = some none) (z11 : PySem.W.nsIn K mainGlobals "tuple" = some none) (z12 : PySem.W.nsIn K mainGlobals "int" = some none) (z13 : PySem.W.nsIn K mainGlobals "bool" = some none) (z14 : PySem.W.nsIn K mainGlobals "str" = some none) (z15 : PySem.W.nsIn K mainGlobals "abs" = some none) (z16 : PySem.W.nsIn K mainGlobals "repr" = some none) (z17 : PySem.W.nsIn K mainGlobals "dict" = some none) (z18 : PySem.W.nsIn K mainGlobals "any" = some none) (z19 : PySem.W.nsIn K mainGlobals "all" = some none) (z20 : PySem.W.nsIn K mainGlobals "set" = some none) (z21 : PySem.W.nsIn K mainGlobals "reversed" = some none) (z22 : PySem.W.nsIn K mainGlobals "ValueError" = some none) (z23 : PySem.W.nsIn K mainGlobals "divmod" = some none) :
    ∃ fd : FuncData, (∀ (s : Shared) (v : Value), BindsTo s fd ⟨[v], []⟩ [("script", v)]) ∧ ∀ base : Heap, K.In base → base.Ns mainGlobals mg → FnOk l.prog w K mg base CX0 4 fa fd ["script"] (sp_law K) := by
  obtain rfl : f14 = fa := by
    have e := (PySem.W.mg_of X G a14).symm.trans hfa
    injection e with e
    injection e
  have B : Bi mg := ⟨PySem.W.mg_none_of X G z1, PySem.W.mg_none_of X G z2, PySem.W.mg_none_of X G z3, PySem.W.mg_none_of X G z4, PySem.W.mg_none_of X G z5, PySem.W.mg_none_of X G z6, PySem.W.mg_none_of X G z7, PySem.W.mg_none_of X G z8, PySem.W.mg_none_of X G z9, PySem.W.mg_none_of X G z10, PySem.W.mg_none_of X G z11, PySem.W.mg_none_of X G z12, PySem.W.mg_none_of X G z13, PySem.W.mg_none_of X G z14, PySem.W.mg_none_of X G z15, PySem.W.mg_none_of X G z16, PySem.W.mg_none_of X G z17, PySem.W.mg_none_of X G z18, PySem.W.mg_none_of X G z19, PySem.W.mg_none_of X G z20, PySem.W.mg_none_of X G z21, PySem.W.mg_none_of X G z22, PySem.W.mg_none_of X G z23⟩
  have A1 : At K mg "is_crowd" P_is_crowd s_is_crowd := .mk' X G a1 l1 c1 k1 fun _ _ _ _ _ _ us hl => match us, hl with | [_, _], _ => rfl
  have A2 : At K mg "check_crowds" P_check_crowds s_check_crowds := .mk' X G a2 l2 c2 k2 fun _ _ _ _ _ _ us hl => match us, hl with | [_], _ => rfl
  have A3 : At K mg "kept_with" P_kept_with s_kept_with := .mk' X G a3 l3 c3 k3 fun _ _ _ _ _ _ us hl => match us, hl with | [_, _], _ => rfl
  have A4 : At K mg "least_that_keeps" P_least_that_keeps s_least_that_keeps := .mk' X G a4 l4 c4 k4 fun _ _ _ _ _ _ us hl => match us, hl with | [_, _], _ => rfl
  have A5 : At K mg "turns" P_turns s_turns := .mk' X G a5 l5 c5 k5 fun _ _ _ _ _ _ us hl => match us, hl with | [_], _ => rfl
  have A6 : At K mg "parting" P_parting s_parting := .mk' X G a6 l6 c6 k6 fun _ _ _ _ _ _ us hl => match us, hl with | [_, _], _ => rfl
  have A7 : At K mg "_law_bag" P__law_bag s__law_bag := .mk' X G a7 l7 c7 k7 fun _ _ _ _ _ _ us hl => match us, hl with | [_], _ => rfl
  have A8 : At K mg "_law_draw" P__law_draw s__law_draw := .mk' X G a8 l8 c8 k8 fun _ _ _ _ _ _ us hl => match us, hl with | [_, _], _ => rfl
  have A9 : At K mg "_law_crowds" P__law_crowds s__law_crowds := .mk' X G a9 l9 c9 k9 fun _ _ _ _ _ _ us hl => match us, hl with | [_, _], _ => rfl
  have A10 : At K mg "_law_stay" P__law_stay s__law_stay := .mk' X G a10 l10 c10 k10 fun _ _ _ _ _ _ us hl => match us, hl with | [_, _], _ => rfl
  have A11 : At K mg "_law_changed" P__law_changed s__law_changed := .mk' X G a11 l11 c11 k11 fun _ _ _ _ _ _ us hl => match us, hl with | [_, _], _ => rfl
  have A12 : At K mg "_law_led_back" P__law_led_back s__law_led_back := .mk' X G a12 l12 c12 k12 fun _ _ _ _ _ _ us hl => match us, hl with | [_, _], _ => rfl
  have A13 : At K mg "_law_places" P__law_places s__law_places := .mk' X G a13 l13 c13 k13 fun _ _ _ _ _ _ us hl => match us, hl with | [_], _ => rfl
  have A14 : At K mg "law" P_law s_law := .mk' X G a14 l14 c14 k14 fun _ _ _ _ _ _ us hl => match us, hl with | [_], _ => rfl
  refine ⟨PySem.W.fnOf "law" "law" (defArgs s_law) (defBody s_law) (defScope s_law) .none kV14 dc14 pm14 an14 cd14 ct14, fun s v => .of_eq rfl, fun base _ _ => ?_⟩
  have D_is_crowd := ok_is_crowd (P := l.prog) (w := w) (base := base) A1 
  have D_check_crowds := ok_check_crowds (P := l.prog) (w := w) (base := base) A2 B D_is_crowd
  have D_kept_with := ok_kept_with (P := l.prog) (w := w) (base := base) A3 B
  have D_least_that_keeps := ok_least_that_keeps (P := l.prog) (w := w) (base := base) A4 B
  have D_turns := ok_turns (P := l.prog) (w := w) (base := base) A5 B D_least_that_keeps
  have D_parting := ok_parting (P := l.prog) (w := w) (base := base) A6 B D_check_crowds D_turns D_kept_with
  have D__law_bag := ok__law_bag (P := l.prog) (w := w) (base := base) A7 B
  have D__law_draw := ok__law_draw (P := l.prog) (w := w) (base := base) A8 B
  have D__law_crowds := ok__law_crowds (P := l.prog) (w := w) (base := base) A9 B D__law_draw
  have D__law_stay := ok__law_stay (P := l.prog) (w := w) (base := base) A10 B
  have D__law_changed := ok__law_changed (P := l.prog) (w := w) (base := base) A11 B D__law_draw
  have D__law_led_back := ok__law_led_back (P := l.prog) (w := w) (base := base) A12 B D__law_stay
  have D__law_places := ok__law_places (P := l.prog) (w := w) (base := base) A13 B D__law_led_back
  have D_law := ok_law (P := l.prog) (w := w) (base := base) A14 B D__law_bag D__law_draw D__law_crowds D__law_changed D__law_places D__law_stay D_parting
  exact D_law.at hfa l14
end El
open PySem PySem.W PyProof.Rows
set_option maxRecDepth 100000 in
set_option maxHeartbeats 0 in
theorem PySem.Challenge.cw_elderinn_k36_parting_told_holds : PySem.Challenge.rw_elderinn_k36_parting_told.Holds := by
  w_on; o_law; k_head; (case hw => w_witness2)
  k_fill
  refine L2.walk_of (l := PySem.Challenge.rw_elderinn_k36_parting_told) (n := 63) (k := 4) (x := "script") (CX := fun _ => L2.CX0) (sp := fun w => El.sp_law _) rfl (by decide) rfl ⟨rfl, by decide, by decide⟩ (fun w h Y => PySem.W.kIn_of Y) ?F (fun _ _ a ns hl _ hS => ⟨a, ns, rfl, hS, hl, fun _ => rfl⟩) (fun _ _ _ _ _ h => h)
  case F =>
    intro w mg fa h KX G hmg
    refine' El.all_mk KX G hmg ?a1 ?l1 ?c1 ?k1 ?a2 ?l2 ?c2 ?k2 ?a3 ?l3 ?c3 ?k3 ?a4 ?l4 ?c4 ?k4 ?a5 ?l5 ?c5 ?k5 ?a6 ?l6 ?c6 ?k6 ?a7 ?l7 ?c7 ?k7 ?a8 ?l8 ?c8 ?k8 ?a9 ?l9 ?c9 ?k9 ?a10 ?l10 ?c10 ?k10 ?a11 ?l11 ?c11 ?k11 ?a12 ?l12 ?c12 ?k12 ?a13 ?l13 ?c13 ?k13 ?a14 ?l14 ?c14 ?k14 ?z1 ?z2 ?z3 ?z4 ?z5 ?z6 ?z7 ?z8 ?z9 ?z10 ?z11 ?z12 ?z13 ?z14 ?z15 ?z16 ?z17 ?z18 ?z19 ?z20 ?z21 ?z22 ?z23
    (case a1 => k_is)
    (case l1 => k_is)
    (case c1 => k_is)
    (case k1 => k_is)
    (case a2 => k_is)
    (case l2 => k_is)
    (case c2 => k_is)
    (case k2 => k_is)
    (case a3 => k_is)
    (case l3 => k_is)
    (case c3 => k_is)
    (case k3 => k_is)
    (case a4 => k_is)
    (case l4 => k_is)
    (case c4 => k_is)
    (case k4 => k_is)
    (case a5 => k_is)
    (case l5 => k_is)
    (case c5 => k_is)
    (case k5 => k_is)
    (case a6 => k_is)
    (case l6 => k_is)
    (case c6 => k_is)
    (case k6 => k_is)
    (case a7 => k_is)
    (case l7 => k_is)
    (case c7 => k_is)
    (case k7 => k_is)
    (case a8 => k_is)
    (case l8 => k_is)
    (case c8 => k_is)
    (case k8 => k_is)
    (case a9 => k_is)
    (case l9 => k_is)
    (case c9 => k_is)
    (case k9 => k_is)
    (case a10 => k_is)
    (case l10 => k_is)
    (case c10 => k_is)
    (case k10 => k_is)
    (case a11 => k_is)
    (case l11 => k_is)
    (case c11 => k_is)
    (case k11 => k_is)
    (case a12 => k_is)
    (case l12 => k_is)
    (case c12 => k_is)
    (case k12 => k_is)
    (case a13 => k_is)
    (case l13 => k_is)
    (case c13 => k_is)
    (case k13 => k_is)
    (case a14 => k_is)
    (case l14 => k_is)
    (case c14 => k_is)
    (case k14 => k_is)
    (case z1 => k_is)
    (case z2 => k_is)
    (case z3 => k_is)
    (case z4 => k_is)
    (case z5 => k_is)
    (case z6 => k_is)
    (case z7 => k_is)
    (case z8 => k_is)
    (case z9 => k_is)
    (case z10 => k_is)
    (case z11 => k_is)
    (case z12 => k_is)
    (case z13 => k_is)
    (case z14 => k_is)
    (case z15 => k_is)
    (case z16 => k_is)
    (case z17 => k_is)
    (case z18 => k_is)
    (case z19 => k_is)
    (case z20 => k_is)
    (case z21 => k_is)
    (case z22 => k_is)
    (case z23 => k_is)
