import PyProof.Rows.All
import Wide.All
import OpenK.AllK
import Wide.FinOn
import HandS.ForMost
import HandS.ForExc
import HandS.Wide
import HandS.SortKw
import HandS.SortRule
import HandS.SortInts
import HandS.Style
import HandS.IsInst
import HandS.Conv
import HandS.Walk
import HandS.Flow
import HandS.More
import HandS.Defaults
import HandS.RaiseMore
import HandS.Remove
import HandS.Star
import HandS.Steps
import HandS.Strs
import PySem.Challenge.RW_elderinn_k35_whole_one_more_elder
set_option Elab.async false
set_option linter.all false
set_option maxRecDepth 100000
set_option maxHeartbeats 8000000
namespace El
/-! ### the rule by age, in plain lists -/
def place : List (List Int) → Int → Int → List (List Int)
  | [], a, _ => [[a]]
  | r :: rs, a, p => if (r.length : Int) ≤ p then (r ++ [a]) :: rs else r :: place rs a p
def firstB : List (List Int) → Int → Nat
  | [], _ => 0
  | r :: rs, p => if (r.length : Int) ≤ p then 0 else firstB rs p + 1
theorem firstB_le : ∀ (rs : List (List Int)) (p : Int), firstB rs p ≤ rs.length
  | [], _ => Nat.le_refl _
  | r :: rs, p => by
    unfold firstB
    split
    · exact Nat.zero_le _
    · exact Nat.succ_le_succ (firstB_le rs p)
theorem firstB_out : ∀ (rs : List (List Int)) (p : Int) (i : Nat) (r : List Int), i < firstB rs p → rs[i]? = some r → p < (r.length : Int)
  | [], _, _, _, h, _ => absurd h (Nat.not_lt_zero _)
  | s :: rs, p, i, r, h, e => by
    unfold firstB at h
    split at h
    · exact absurd h (Nat.not_lt_zero _)
    · rename_i hn
      cases i with
      | zero =>
        have e' : s = r := Option.some.inj e
        subst e'
        omega
      | succ i => exact firstB_out rs p i r (Nat.lt_of_succ_lt_succ h) (by simpa using e)
theorem firstB_in : ∀ (rs : List (List Int)) (p : Int), firstB rs p < rs.length → ∃ r, rs[firstB rs p]? = some r ∧ (r.length : Int) ≤ p
  | [], _, h => absurd h (Nat.not_lt_zero _)
  | s :: rs, p, h => by
    unfold firstB at h ⊢
    split
    · rename_i hn
      exact ⟨s, rfl, hn⟩
    · rename_i hn
      rw [if_neg hn] at h
      obtain ⟨r, e, q⟩ := firstB_in rs p (Nat.lt_of_succ_lt_succ h)
      exact ⟨r, by simpa using e, q⟩
theorem firstB_is : ∀ (rs : List (List Int)) (p : Int) (i : Nat), i ≤ rs.length → (∀ j r, j < i → rs[j]? = some r → p < (r.length : Int)) → (∀ r, rs[i]? = some r → (r.length : Int) ≤ p) → firstB rs p = i
  | [], _, i, h, _, _ => by
    have : i = 0 := Nat.le_zero.mp h
    subst this
    rfl
  | s :: rs, p, 0, _, _, h2 => by
    unfold firstB
    rw [if_pos (h2 s rfl)]
  | s :: rs, p, i + 1, h, h1, h2 => by
    have h0 := h1 0 s (Nat.succ_pos _) rfl
    unfold firstB
    rw [if_neg (by omega), firstB_is rs p i (Nat.le_of_succ_le_succ h) (fun j r hj e => h1 (j + 1) r (Nat.succ_lt_succ hj) (by simpa using e)) fun r e => h2 r (by simpa using e)]
theorem place_new : ∀ (rs : List (List Int)) (a p : Int), firstB rs p = rs.length → place rs a p = rs ++ [[a]]
  | [], _, _, _ => rfl
  | r :: rs, a, p, h => by
    unfold firstB at h
    unfold place
    split at h
    · exact absurd h (by rw [List.length_cons]; omega)
    · rename_i hn
      rw [if_neg hn, place_new rs a p (by rw [List.length_cons] at h; omega)]
      rfl
theorem place_at : ∀ (rs : List (List Int)) (a p : Int) (r : List Int), rs[firstB rs p]? = some r → place rs a p = rs.set (firstB rs p) (r ++ [a])
  | [], _, _, _, h => by simp at h
  | s :: rs, a, p, r, h => by
    unfold firstB at h ⊢
    unfold place
    split
    · rename_i hn
      rw [if_pos hn] at h
      have e : s = r := Option.some.inj h
      subst e
      rfl
    · rename_i hn
      rw [if_neg hn] at h
      rw [place_at rs a p r (by simpa using h)]
      rfl
theorem place_len (rs : List (List Int)) (a p : Int) : (place rs a p).length = if firstB rs p = rs.length then rs.length + 1 else rs.length := by
  by_cases h : firstB rs p = rs.length
  · rw [if_pos h, place_new rs a p h, List.length_append]
    rfl
  · have hl := firstB_le rs p
    obtain ⟨r, e, _⟩ := firstB_in rs p (by omega)
    rw [if_neg h, place_at rs a p r e, List.length_set]
/-- all in order -/
def settleL (gs : List (Int × Int)) : List (List Int) := gs.foldl (fun rs g => place rs g.1 g.2) []
theorem settleL_snoc (gs : List (Int × Int)) (g : Int × Int) : settleL (gs ++ [g]) = place (settleL gs) g.1 g.2 := by
  unfold settleL
  rw [List.foldl_append]
  rfl
theorem settleL_take {gs : List (Int × Int)} {i : Nat} {g : Int × Int} (h : gs[i]? = some g) : settleL (gs.take (i + 1)) = place (settleL (gs.take i)) g.1 g.2 := by
  rw [List.take_add_one, h]
  exact settleL_snoc _ _
theorem place_count (rs : List (List Int)) (a p : Int) : (place rs a p).flatten.length = rs.flatten.length + 1 := by
  induction rs with
  | nil => rfl
  | cons r rs ih =>
    unfold place
    split
    · simp only [List.flatten_cons, List.length_append, List.length_cons, List.length_nil]
      omega
    · simp only [List.flatten_cons, List.length_append]
      omega
theorem settleL_count (gs : List (Int × Int)) : (settleL gs).flatten.length = gs.length := by
  suffices h : ∀ (gs : List (Int × Int)) (rs : List (List Int)), (gs.foldl (fun rs g => place rs g.1 g.2) rs).flatten.length = rs.flatten.length + gs.length by
    have q := h gs []
    rw [List.flatten_nil, List.length_nil, Nat.zero_add] at q
    exact q
  intro gs
  induction gs with
  | nil => intro rs; rfl
  | cons g gs ih =>
    intro rs
    rw [List.foldl_cons, ih, place_count, List.length_cons]
    omega
theorem place_ne (rs : List (List Int)) (a p : Int) (h : ∀ r ∈ rs, r ≠ []) : ∀ r ∈ place rs a p, r ≠ [] := by
  induction rs with
  | nil =>
    intro r hr
    rw [List.mem_singleton.mp hr]
    exact List.cons_ne_nil _ _
  | cons s rs ih =>
    unfold place
    split
    · intro r hr
      rcases List.mem_cons.mp hr with e | hr
      · rw [e]
        simp
      · exact h r (List.mem_cons_of_mem _ hr)
    · intro r hr
      rcases List.mem_cons.mp hr with e | hr
      · rw [e]
        exact h s List.mem_cons_self
      · exact ih (fun r hr => h r (List.mem_cons_of_mem _ hr)) r hr
theorem settleL_ne (gs : List (Int × Int)) : ∀ r ∈ settleL gs, r ≠ [] := by
  suffices h : ∀ (gs : List (Int × Int)) (rs : List (List Int)), (∀ r ∈ rs, r ≠ []) → ∀ r ∈ gs.foldl (fun rs g => place rs g.1 g.2) rs, r ≠ [] from h gs [] (fun r hr => absurd hr (by simp))
  intro gs
  induction gs with
  | nil => intro rs h; exact h
  | cons g gs ih =>
    intro rs h
    rw [List.foldl_cons]
    exact ih _ (place_ne rs _ _ h)
theorem len_le_flat : ∀ (rs : List (List Int)), (∀ r ∈ rs, r ≠ []) → rs.length ≤ rs.flatten.length
  | [], _ => Nat.le_refl _
  | r :: rs, h => by
    have h1 := h r List.mem_cons_self
    have h2 := len_le_flat rs fun r hr => h r (List.mem_cons_of_mem _ hr)
    have h3 : 0 < r.length := List.length_pos_iff.mpr h1
    rw [List.flatten_cons, List.length_append, List.length_cons]
    omega
theorem room_le_flat : ∀ (rs : List (List Int)) (r : List Int), r ∈ rs → r.length ≤ rs.flatten.length
  | s :: rs, r, h => by
    rw [List.flatten_cons, List.length_append]
    rcases List.mem_cons.mp h with e | h
    · rw [e]
      omega
    · have := room_le_flat rs r h
      omega
theorem settleL_len (gs : List (Int × Int)) : (settleL gs).length ≤ gs.length := by
  rw [← settleL_count gs]
  exact len_le_flat _ (settleL_ne gs)
theorem settleL_room {gs : List (Int × Int)} {r : List Int} (h : r ∈ settleL gs) : r.length ≤ gs.length := by
  rw [← settleL_count gs]
  exact room_le_flat _ _ h
/-- sizes never rise -/
def Falls (rs : List (List Int)) : Prop := rs.Pairwise fun r s => s.length ≤ r.length
theorem place_mem {rs : List (List Int)} {a p : Int} {r : List Int} (h : r ∈ place rs a p) : r ∈ rs ∨ (∃ s ∈ rs, r = s ++ [a] ∧ (s.length : Int) ≤ p) ∨ r = [a] := by
  induction rs with
  | nil => exact .inr (.inr (List.mem_singleton.mp h))
  | cons s rs ih =>
    unfold place at h
    split at h
    · rename_i hn
      rcases List.mem_cons.mp h with e | h
      · exact .inr (.inl ⟨s, List.mem_cons_self, e, hn⟩)
      · exact .inl (List.mem_cons_of_mem _ h)
    · rcases List.mem_cons.mp h with e | h
      · rw [e]
        exact .inl List.mem_cons_self
      · rcases ih h with q | ⟨t, ht, q⟩ | q
        · exact .inl (List.mem_cons_of_mem _ q)
        · exact .inr (.inl ⟨t, List.mem_cons_of_mem _ ht, q⟩)
        · exact .inr (.inr q)
theorem place_falls (rs : List (List Int)) (a p : Int) (hp : 0 ≤ p) (h : Falls rs) : Falls (place rs a p) := by
  induction rs with
  | nil => exact List.pairwise_singleton _ _
  | cons s rs ih =>
    obtain ⟨h1, h2⟩ := List.pairwise_cons.mp h
    unfold place
    split
    · refine List.pairwise_cons.mpr ⟨fun r hr => ?_, h2⟩
      have := h1 r hr
      rw [List.length_append]
      omega
    · rename_i hn
      refine List.pairwise_cons.mpr ⟨fun r hr => ?_, ih h2⟩
      rcases place_mem hr with q | ⟨t, ht, q, q2⟩ | q
      · exact h1 r q
      · rw [q, List.length_append, List.length_singleton]
        omega
      · rw [q, List.length_singleton]
        omega
theorem settleL_falls (gs : List (Int × Int)) (h : ∀ g ∈ gs, 0 ≤ g.2) : Falls (settleL gs) := by
  suffices q : ∀ (gs : List (Int × Int)) (rs : List (List Int)), (∀ g ∈ gs, 0 ≤ g.2) → Falls rs → Falls (gs.foldl (fun rs g => place rs g.1 g.2) rs) from q gs [] h List.Pairwise.nil
  intro gs
  induction gs with
  | nil => intro rs _ hr; exact hr
  | cons g gs ih =>
    intro rs hg hr
    rw [List.foldl_cons]
    exact ih _ (fun x hx => hg x (List.mem_cons_of_mem _ hx)) (place_falls rs _ _ (hg g List.mem_cons_self) hr)
/-! ### from the eldest on -/
def byAge (gs : List (Int × Int)) : List (Int × Int) := gs.mergeSort fun g h => decide (h.1 ≤ g.1)
theorem byAge_perm (gs : List (Int × Int)) : (byAge gs).Perm gs := List.mergeSort_perm _ _
theorem byAge_sorted (gs : List (Int × Int)) : (byAge gs).Pairwise fun g h => h.1 ≤ g.1 := by
  have q := List.pairwise_mergeSort (le := fun (g h : Int × Int) => decide (h.1 ≤ g.1)) (fun a b c h1 h2 => by
    have h1 := of_decide_eq_true h1
    have h2 := of_decide_eq_true h2
    exact decide_eq_true (by omega)) (fun a b => by
    by_cases h : b.1 ≤ a.1
    · simp [h]
    · have : a.1 ≤ b.1 := by omega
      simp [this]) gs
  exact q.imp fun h => of_decide_eq_true h
theorem byAge_length (gs : List (Int × Int)) : (byAge gs).length = gs.length := (byAge_perm gs).length_eq
theorem sorted_uniq {α : Type} (k : α → Int) : ∀ {l m : List α}, l.Perm m → (l.map k).Nodup → l.Pairwise (fun g h => k h ≤ k g) → m.Pairwise (fun g h => k h ≤ k g) → l = m
  | [], m, p, _, _, _ => by rw [List.nil_perm.mp p]
  | x :: l, [], p, _, _, _ => absurd p.length_eq (by simp)
  | x :: l, y :: m, p, nd, h1, h2 => by
    have nd' : (k x :: l.map k).Nodup := nd
    obtain ⟨n1, n2⟩ := List.nodup_cons.mp nd'
    obtain ⟨a1, a2⟩ := List.pairwise_cons.mp h1
    obtain ⟨b1, b2⟩ := List.pairwise_cons.mp h2
    have e : x = y := by
      rcases List.mem_cons.mp (p.mem_iff.mp List.mem_cons_self) with e | hx
      · exact e
      · have hy : y ∈ x :: l := p.mem_iff.mpr List.mem_cons_self
        rcases List.mem_cons.mp hy with e | hy
        · exact e.symm
        · have c1 := b1 x hx
          have c2 := a1 y hy
          have c3 : k x = k y := by omega
          exact absurd (List.mem_map.mpr ⟨y, hy, c3.symm⟩) n1
    subst e
    rw [sorted_uniq k (List.Perm.cons_inv p) n2 a2 b2]
def settle (gs : List (Int × Int)) : List (List Int) := settleL (byAge gs)
/-- guests that there can be -/
structure Fit (gs : List (Int × Int)) : Prop where
  nd : (gs.map (·.1)).Nodup
  pos : ∀ g ∈ gs, 0 ≤ g.2
theorem Fit.perm {gs hs : List (Int × Int)} (f : Fit gs) (p : hs.Perm gs) : Fit hs := ⟨((p.map (·.1)).nodup_iff).mpr f.nd, fun g hg => f.pos g (p.mem_iff.mp hg)⟩
theorem Fit.byAge {gs : List (Int × Int)} (f : Fit gs) : Fit (byAge gs) := f.perm (byAge_perm gs)
theorem byAge_of {gs hs : List (Int × Int)} (f : Fit gs) (p : hs.Perm gs) (h : hs.Pairwise fun g h => h.1 ≤ g.1) : hs = byAge gs :=
  sorted_uniq (·.1) (p.trans (byAge_perm gs).symm) (f.perm p).nd h (byAge_sorted gs)
theorem byAge_congr {gs hs : List (Int × Int)} (f : Fit gs) (p : hs.Perm gs) : byAge hs = byAge gs :=
  byAge_of f ((byAge_perm hs).trans p) (byAge_sorted hs)
theorem ages_of {gs : List (Int × Int)} (f : Fit gs) {ns : List Int} (p : ns.Perm (gs.map (·.1))) (h : ns.Pairwise (· ≥ ·)) : ns = (byAge gs).map (·.1) := by
  refine sorted_uniq (fun x : Int => x) (p.trans ((byAge_perm gs).map (·.1)).symm) ?_ (h.imp fun q => q) ?_
  · rw [List.map_id']
    exact (p.nodup_iff).mpr f.nd
  · rw [List.pairwise_map]
    exact byAge_sorted gs
theorem settle_congr {gs hs : List (Int × Int)} (f : Fit gs) (p : hs.Perm gs) : settle hs = settle gs := by
  unfold settle
  rw [byAge_congr f p]
end El
namespace El
/-- a crowd comes to a first room in which h live -/
def kst (h : Int) (c : Int × Int) : Int := if c.2 + 1 ≤ h then h else if h + c.1 ≤ c.2 + 1 then h + c.1 else c.2 + 1
def stay (cs : List (Int × Int)) (n : Int) : Int := cs.foldl kst n
def Crw (cs : List (Int × Int)) : Prop := ∀ c ∈ cs, 1 ≤ c.1 ∧ 0 ≤ c.2
theorem stay_snoc (cs : List (Int × Int)) (c : Int × Int) (n : Int) : stay (cs ++ [c]) n = kst (stay cs n) c := by
  unfold stay
  rw [List.foldl_append]
  rfl
theorem stay_cat (cs ds : List (Int × Int)) (n : Int) : stay (cs ++ ds) n = stay ds (stay cs n) := by
  unfold stay
  rw [List.foldl_append]
theorem stay_cons (c : Int × Int) (cs : List (Int × Int)) (n : Int) : stay (c :: cs) n = stay cs (kst n c) := rfl
theorem kst_ge (h : Int) (c : Int × Int) (k : 1 ≤ c.1) : h ≤ kst h c := by
  unfold kst
  split
  · omega
  · split <;> omega
/-- one elder more: as many, or one more -/
theorem kst_one (h h' : Int) (c : Int × Int) (k : 1 ≤ c.1) (d : h' = h ∨ h' = h + 1) : kst h' c = kst h c ∨ kst h' c = kst h c + 1 := by
  unfold kst
  split <;> split <;> (try split) <;> (try split) <;> omega
theorem Crw.cons {c : Int × Int} {cs : List (Int × Int)} (h : Crw (c :: cs)) : (1 ≤ c.1 ∧ 0 ≤ c.2) ∧ Crw cs := ⟨h c List.mem_cons_self, fun d m => h d (List.mem_cons_of_mem _ m)⟩
theorem Crw.cat {cs ds : List (Int × Int)} (h : Crw cs) (k : Crw ds) : Crw (cs ++ ds) := fun c m => (List.mem_append.mp m).elim (h c) (k c)
theorem stay_ge : ∀ {cs : List (Int × Int)}, Crw cs → ∀ n, n ≤ stay cs n
  | [], _, n => Int.le_refl _
  | c :: cs, h, n => by
    rw [stay_cons]
    exact Int.le_trans (kst_ge n c h.cons.1.1) (stay_ge h.cons.2 _)
theorem stay_one : ∀ {cs : List (Int × Int)}, Crw cs → ∀ n n', (n' = n ∨ n' = n + 1) → stay cs n' = stay cs n ∨ stay cs n' = stay cs n + 1
  | [], _, n, n', d => d
  | c :: cs, h, n, n', d => by
    rw [stay_cons, stay_cons]
    exact stay_one h.cons.2 _ _ (kst_one n n' c h.cons.1.1 d)
/-- a crowd parted in two -/
theorem kst_part (h : Int) (a b p : Int) (ha : 1 ≤ a) (hb : 1 ≤ b) : kst (kst h (a, p)) (b, p) = kst h (a + b, p) := by
  unfold kst
  dsimp only
  split <;> (try split) <;> (try split) <;> (try split) <;> (try split) <;> omega
end El
namespace El
theorem stay_lt {M : Int} : ∀ {cs : List (Int × Int)}, (∀ c ∈ cs, c.2 + 1 < M) → ∀ n, n < M → stay cs n < M
  | [], _, n, h => h
  | c :: cs, k, n, h => by
    rw [stay_cons]
    refine stay_lt (fun d m => k d (List.mem_cons_of_mem _ m)) _ ?_
    have := k c List.mem_cons_self
    unfold kst
    split
    · omega
    · split <;> omega
theorem kst_0 (h p : Int) : kst h (0, p) = h := by
  unfold kst
  dsimp only
  split
  · rfl
  · split <;> omega
theorem kst_succ (h p : Int) (k : Nat) : kst h (((k + 1 : Nat) : Int), p) = kst h ((k : Int), p) + (if decide (kst h ((k : Int), p) ≤ p) = true then 1 else 0) := by
  by_cases e : kst h ((k : Int), p) ≤ p
  · rw [decide_eq_true e, if_pos rfl]
    unfold kst at e ⊢
    dsimp only at e ⊢
    split <;> (try split) <;> (try split) <;> (try split) <;> (split at e) <;> (try split at e) <;> omega
  · rw [decide_eq_false e, if_neg (by decide), Int.add_zero]
    unfold kst at e ⊢
    dsimp only at e ⊢
    split <;> (try split) <;> (try split) <;> (try split) <;> (split at e) <;> (try split at e) <;> omega
end El
namespace El
open PySem PySem.Spec PyProof.Rows L2
/-! ### a def of the text as callers see it -/
structure Df (P : Program) (w : World) (K : PySem.W.Frag) (mg : Str → Option Value) (base : Heap) (k : Nat) (x : Str) (ps : List Str) (st : Stmt) (sp : Sp) : Prop where
  ex : ∃ (f : Addr) (fd : FuncData), Fun K x x st f fd ∧ mg x = some (.ref f) ∧ FnOk P w K mg base CX0 k f fd ps sp ∧ Binds K fd ps []
/-- where a def stands -/
structure At (K : PySem.W.Frag) (mg : Str → Option Value) (x : Str) (ps : List Str) (st : Stmt) : Prop where
  ex : ∃ (f : Addr) (fd : FuncData), Fun K x x st f fd ∧ mg x = some (.ref f) ∧ Binds K fd ps []
theorem At.df {P : Program} {w : World} {K : PySem.W.Frag} {mg : Str → Option Value} {base : Heap} {k : Nat} {x : Str} {ps : List Str} {st : Stmt} {sp : Sp} (A : At K mg x ps st)
    (h : ∀ f fd, Fun K x x st f fd → FnOk P w K mg base CX0 k f fd ps sp) : Df P w K mg base k x ps st sp := by
  obtain ⟨f, fd, F, m, b⟩ := A.ex
  exact ⟨f, fd, F, m, h f fd F, b⟩
section
variable {X : Cx} {k : Nat} {x : Str} {ps : List Str} {st : Stmt} {sp : Sp} {p pos : Pos} {e : Expr} {es : List Expr} {kws : List Keyword} {t tk : TA}
theorem pe_df (D : Df X.prog X.w X.K X.mg X.base k x ps st sp) (hr : Room k X.A) (hg : Gl X x) (ha : PA X (e :: es) t) (hdb : (x == ("__debug__" : Str)) = false := by decide)
    (he : starEach (e :: es) X.env = (false, eval e X.env) :: starEach es X.env := by rfl) (hpl : (backTo pos (starEach es X.env)).any (·.1) = false := by rfl) : PE X (.Call (.Name x p) (e :: es) [] pos) (tCall sp [] E0 t) := by
  obtain ⟨f, fd, F, m, G, b⟩ := D.ex
  exact pe_call G hr hg m F.kp b .nil pass0 ha hdb he hpl
theorem pe_df0 (D : Df X.prog X.w X.K X.mg X.base k x ps st sp) (hr : Room k X.A) (hg : Gl X x) (hdb : (x == ("__debug__" : Str)) = false := by decide) : PE X (.Call (.Name x p) [] [] pos) (tCall sp [] E0 tNil) := by
  obtain ⟨f, fd, F, m, G, b⟩ := D.ex
  exact pe_call0 G hr hg m F.kp b .nil pass0 hdb
def tCallW (n : Nat) (sp : Sp) (g : List V → List V) (tk : TA) : TE := fun σ H Q => tk σ H fun zs H2 => zs.length = n ∧ sp (g zs) H2 Q E0
/-- f(k = v, ..): keywords alone -/
theorem pe_dfK (D : Df X.prog X.w X.K X.mg X.base k x ps st sp) (ks : List Str) (g : {α : Type} → List α → List α) (hr : Room k X.A) (hg : Gl X x) (hkw : PK X kws tk)
    (hb : ∀ (kV doc pm : Value) (an : Option Addr) (cdv ct : Value) (ws : List Value), ws.length = ks.length → bindArgs (PySem.W.fnOf x x (defArgs st) (defBody st) (defScope st) .none kV doc pm an cdv ct) ⟨[], ks.zip ws⟩ = pure (ps.zip (g ws)))
    (hrel : ∀ {zs : List V} {ws : List Value}, Vals zs ws → Vals (g zs) (g ws))
    (hall : (backToKw pos (keywordEach kws X.env)).all (·.1.isSome) = true := by rfl) (hks : (backToKw pos (keywordEach kws X.env)).filterMap (·.1) = ks := by rfl) (hdb : (x == ("__debug__" : Str)) = false := by decide)
    (hpl : ((backTo pos (starEach [] X.env)).any (·.1) || (backToKw pos (keywordEach kws X.env)).any (·.1.isNone)) = false := by rfl) :
    PE X (.Call (.Name x p) [] kws pos) (tCallW ks.length sp (fun zs => g zs) tk) := by
  obtain ⟨f, fd, F, m, G, b⟩ := D.ex
  have kp := F.kp
  have KB : KBn X.K fd ps 0 ks (fun us ws => us ++ g ws) (fun vs zs => vs ++ g zs) := by
    obtain ⟨oc, od, kV, doc, pm, an, cdv, ct, osl, rfl, lk, hcd⟩ := F.ex
    refine ⟨fun s us ws hK l1 l2 => ?_, fun {vs us zs ws} r rz => Vals.append r (hrel rz)⟩
    obtain rfl := List.eq_nil_of_length_eq_zero l1
    exact .of_eq (hb kV doc pm an cdv ct ws l2)
  refine ⟨fun pins s σ H Q I h => ?_⟩
  refine wpAny_Call_Name_kw (ld_glob I hg m ?_ hdb)
  refine PySem.W.callWith_KW0 (h₀ := X.base) I.ok.mod.kin kp hall ?_ hpl
  refine thn (hkw.run pos pins s σ H _ I h) fun ws s2 ⟨zs, H2, I2, rz, l2, q2⟩ => ⟨I2.kIn, ?_⟩
  rw [hks]
  exact run_fnN (us := []) (vs := []) G hr KB pass0 I2 .nil rz rfl l2 q2
end
theorem Df.at {P : Program} {w : World} {K : PySem.W.Frag} {mg : Str → Option Value} {base : Heap} {k : Nat} {x : Str} {ps : List Str} {st : Stmt} {sp : Sp} {fa : Addr} {fd : FuncData} {oc : Value} {od : Option Addr} {sl : Array (Option Value)}
    (D : Df P w K mg base k x ps st sp) (hf : mg x = some (.ref fa)) (l : K.lookup fa = some ⟨oc, od, .func fd, sl⟩) : FnOk P w K mg base CX0 k fa fd ps sp := by
  obtain ⟨f, fd', F, m, G, b⟩ := D.ex
  obtain rfl : fa = f := by
    have e := hf.symm.trans m
    injection e with e
    injection e
  obtain ⟨oc', od', kV, doc, pm, an, cdv, ct, osl, e1, lk, hcd⟩ := F.ex
  have e := l.symm.trans lk
  injection e with e
  injection e with _ _ e _
  injection e with e
  rw [e]
  exact G
theorem At.mk' {K : PySem.W.Frag} {mg : Str → Option Value} {h : Heap} {x : Str} {ps : List Str} {st : Stmt} {f : Addr} {oc : Value} {od an : Option Addr} {osl : Array (Option Value)} {kV doc pm cdv ct : Value} (X : K.In h) (G : h.Ns mainGlobals mg)
    (a : PySem.W.nsIn K mainGlobals x = some (some (.ref f))) (l : K.lookup f = some ⟨oc, od, .func (PySem.W.fnOf x x (defArgs st) (defBody st) (defScope st) .none kV doc pm an cdv ct), osl⟩)
    (c : PySem.W.codeIn K cdv x = true) (k : PySem.W.keepIn K (.ref f) = true)
    (b : ∀ (kV doc pm : Value) (an : Option Addr) (cdv ct : Value) (us : List Value), us.length = ps.length → bindArgs (PySem.W.fnOf x x (defArgs st) (defBody st) (defScope st) .none kV doc pm an cdv ct) ⟨us, []⟩ = pure (ps.zip us)) : At K mg x ps st :=
  have F := fun_mk (st := st) l c k
  ⟨f, _, F, PySem.W.mg_of X G a, F.binds b⟩
end El
namespace El
open PySem PySem.Spec PyProof.Rows L2
/-! ### heaps -/
/-- what B names stays as it was -/
def Kp (B : Addr → Prop) (H H' : Hp) : Prop := ∀ b o, B b → H b = some o → H' b = some o
theorem Kp.refl {B : Addr → Prop} {H : Hp} : Kp B H H := fun _ _ _ e => e
theorem Kp.trans {B : Addr → Prop} {H H1 H2 : Hp} (h : Kp B H H1) (k : Kp B H1 H2) : Kp B H H2 := fun b o hb e => k b o hb (h b o hb e)
theorem Kp.of {B : Addr → Prop} {H H' : Hp} (h : Same H H') : Kp B H H' := fun b o _ e => h b o e
theorem Kp.same {H H' : Hp} (h : Kp (fun _ => True) H H') : Same H H' := fun b o e => h b o trivial e
theorem same_new {H : Hp} {p : Addr} {o : HO} (h : H p = none) : Same H (upd H p o) := fun b u e => by
  rw [upd_ne (ne_of_none e h)]
  exact e
theorem Same.mut {H H' : Hp} {p : Addr} {o : HO} (e : Same H H') (h : H p = none) : Same H (upd H' p o) := fun b u q => by
  rw [upd_ne (ne_of_none q h)]
  exact e b u q
theorem Kp.mut {B : Addr → Prop} {H H' : Hp} {p : Addr} {o : HO} (e : Kp B H H') (h : ¬ B p) : Kp B H (upd H' p o) := fun b u hb q => by
  have n : b ≠ p := fun z => h (z ▸ hb)
  rw [upd_ne n]
  exact e b u hb q
theorem Kp.new {B : Addr → Prop} {H H' : Hp} {p : Addr} {o : HO} (e : Kp B H H') (h : H' p = none) : Kp B H (upd H' p o) := e.trans (Kp.of (same_new h))
theorem Kp.mutF {B : Addr → Prop} {H H' : Hp} {p : Addr} {o : HO} (e : Kp B H H') (h : H p = none) : Kp B H (upd H' p o) := fun b u hb q => by
  rw [upd_ne (ne_of_none q h)]
  exact e b u hb q
theorem Kp.none {B : Addr → Prop} {H H' : Hp} (e : Kp B H H') {p : Addr} (hb : B p) (h : H' p = none) : H p = none := by
  cases z : H p with
  | none => rfl
  | some x =>
    have := e _ _ hb z
    rw [h] at this
    cases this
theorem no_of {H : Hp} {a p : Addr} {o : HO} (h : H a = some o) (hp : H p = none) : p ≠ a := fun z => by
  rw [z, h] at hp
  cases hp
theorem same_none {H H' : Hp} (e : Same H H') {p : Addr} (h : H' p = none) : H p = none := e.free h
theorem ils {n : Nat} (h : n ≤ 100000) : n < sizeLine := Nat.lt_of_le_of_lt h (by decide)
theorem ile {n : Nat} (h : n ≤ 100000) : n ≤ sizeLine := Nat.le_of_lt (ils h)
theorem ints_at {ns : List Int} {i : Nat} {x : V} (h : (ns.map V.int)[i]? = some x) : ∃ n, ns[i]? = some n ∧ x = .int n := by
  rw [List.getElem?_map] at h
  cases e : ns[i]? with
  | none => rw [e] at h; cases h
  | some n => rw [e] at h; exact ⟨n, rfl, (Option.some.inj h).symm⟩
theorem refs_at {ts : List Addr} {i : Nat} {x : V} (h : (ts.map V.ref)[i]? = some x) : ∃ t, ts[i]? = some t ∧ x = .ref t := by
  rw [List.getElem?_map] at h
  cases e : ts[i]? with
  | none => rw [e] at h; cases h
  | some t => rw [e] at h; exact ⟨t, rfl, (Option.some.inj h).symm⟩
theorem at_lt {α : Type} {l : List α} {i : Nat} {x : α} (h : l[i]? = some x) : i < l.length := (List.getElem?_eq_some_iff.mp h).1
theorem at_some {α : Type} {l : List α} {i : Nat} (h : i < l.length) : ∃ x, l[i]? = some x := ⟨l[i], List.getElem?_eq_getElem h⟩
theorem take_snoc {α : Type} {l : List α} {i : Nat} {x : α} (h : l[i]? = some x) : l.take (i + 1) = l.take i ++ [x] := by
  rw [List.take_add_one, h]
  rfl
theorem take_full {α : Type} (l : List α) : l.take l.length = l := List.take_length
/-! ### a list of pairs of ints -/
structure GsAt (H : Hp) (B : Addr → Prop) (a : Addr) (ts : List Addr) (gs : List (Int × Int)) : Prop where
  top : H a = some (.lst (ts.map V.ref))
  ba : B a
  len : ts.length = gs.length
  at' : ∀ (i : Nat) (t : Addr) (g : Int × Int), ts[i]? = some t → gs[i]? = some g → H t = some (.tup [.int g.1, .int g.2])
  b : ∀ t ∈ ts, B t
theorem GsAt.keep {H H' : Hp} {B : Addr → Prop} {a : Addr} {ts : List Addr} {gs : List (Int × Int)} (h : GsAt H B a ts gs) (k : Kp B H H') : GsAt H' B a ts gs :=
  ⟨k _ _ h.ba h.top, h.ba, h.len, fun i t g e f => k _ _ (h.b t (List.mem_of_getElem? e)) (h.at' i t g e f), h.b⟩
theorem GsAt.same {H H' : Hp} {B : Addr → Prop} {a : Addr} {ts : List Addr} {gs : List (Int × Int)} (h : GsAt H B a ts gs) (k : Same H H') : GsAt H' B a ts gs := h.keep (.of k)
theorem GsAt.weaken {H : Hp} {B B' : Addr → Prop} {a : Addr} {ts : List Addr} {gs : List (Int × Int)} (h : GsAt H B a ts gs) (k : ∀ b, B b → B' b) : GsAt H B' a ts gs :=
  ⟨h.top, k _ h.ba, h.len, h.at', fun t m => k _ (h.b t m)⟩
theorem GsAt.seq {K : PySem.W.Frag} {H : Hp} {B : Addr → Prop} {a : Addr} {ts : List Addr} {gs : List (Int × Int)} (h : GsAt H B a ts gs) : SqL K H a (ts.map V.ref) := SqL.of h.top
theorem GsAt.get {H : Hp} {B : Addr → Prop} {a : Addr} {ts : List Addr} {gs : List (Int × Int)} (h : GsAt H B a ts gs) {i : Nat} {x : V} (e : (ts.map V.ref)[i]? = some x) : ∃ t g, x = .ref t ∧ gs[i]? = some g ∧ H t = some (.tup [.int g.1, .int g.2]) := by
  obtain ⟨t, e1, rfl⟩ := refs_at e
  have hi := at_lt e1
  rw [h.len] at hi
  obtain ⟨g, e2⟩ := at_some hi
  exact ⟨t, g, rfl, e2, h.at' i t g e1 e2⟩
/-- pushed -/
theorem GsAt.push {H : Hp} {B : Addr → Prop} {a : Addr} {ts : List Addr} {gs : List (Int × Int)} (h : GsAt H B a ts gs) (hn : a ∉ ts) {q : Addr} {g : Int × Int} (e : H q = some (.tup [.int g.1, .int g.2])) (bq : B q) :
    GsAt (upd H a (.lst (ts.map V.ref ++ [.ref q]))) B a (ts ++ [q]) (gs ++ [g]) := by
  refine ⟨?_, h.ba, ?_, fun i t x e1 e2 => ?_, fun t m => ?_⟩
  · rw [upd_same, List.map_append]
    rfl
  · rw [List.length_append, List.length_append, h.len]
    rfl
  · have nq : q ≠ a := fun z => by
      rw [z, h.top] at e
      cases e
    by_cases hi : i < ts.length
    · rw [List.getElem?_append_left hi] at e1
      rw [List.getElem?_append_left (by rw [← h.len]; exact hi)] at e2
      have nt : t ≠ a := fun z => hn (z ▸ List.mem_of_getElem? e1)
      rw [upd_ne nt]
      exact h.at' i t x e1 e2
    · have hi' : i = ts.length := by
        have := at_lt e1
        rw [List.length_append, List.length_singleton] at this
        omega
      subst hi'
      rw [List.getElem?_append_right (Nat.le_refl _), Nat.sub_self] at e1
      rw [h.len, List.getElem?_append_right (Nat.le_refl _), Nat.sub_self] at e2
      have e1' : q = t := Option.some.inj e1
      have e2' : g = x := Option.some.inj e2
      subst e1' e2'
      rw [upd_ne nq]
      exact e
  · rcases List.mem_append.mp m with m | m
    · exact h.b t m
    · rw [List.mem_singleton.mp m]
      exact bq
theorem GsAt.there {H : Hp} {B : Addr → Prop} {a : Addr} {ts : List Addr} {gs : List (Int × Int)} (h : GsAt H B a ts gs) : ∀ b, (b = a ∨ b ∈ ts) → ∃ x, H b = some x := fun b m => by
  rcases m with rfl | m
  · exact ⟨_, h.top⟩
  · obtain ⟨i, e⟩ := List.mem_iff_getElem?.mp m
    have hl := at_lt e
    rw [h.len] at hl
    obtain ⟨g, eg⟩ := at_some hl
    exact ⟨_, h.at' i b g e eg⟩
theorem GsAt.reB {H : Hp} {B B' : Addr → Prop} {a : Addr} {ts : List Addr} {gs : List (Int × Int)} (h : GsAt H B a ts gs) (k : ∀ b, (b = a ∨ b ∈ ts) → B b → B' b) : GsAt H B' a ts gs :=
  ⟨h.top, k _ (.inl rfl) h.ba, h.len, h.at', fun t m => k _ (.inr m) (h.b t m)⟩
/-- what stands in H and is named by B -/
def Liv (H : Hp) (B : Addr → Prop) (b : Addr) : Prop := (∃ x, H b = some x) ∧ B b
theorem GsAt.liv {H : Hp} {B : Addr → Prop} {a : Addr} {ts : List Addr} {gs : List (Int × Int)} (h : GsAt H B a ts gs) : GsAt H (Liv H B) a ts gs := h.reB fun b m hb => ⟨h.there b m, hb⟩
theorem Liv.no {H : Hp} {B : Addr → Prop} {p : Addr} (h : H p = none) : ¬ Liv H B p := fun ⟨⟨x, e⟩, _⟩ => by
  rw [h] at e
  cases e
theorem Liv.of {H : Hp} {B : Addr → Prop} {p : Addr} {o : HO} (h : H p = some o) (b : B p) : Liv H B p := ⟨⟨o, h⟩, b⟩
theorem Kp.weak {B B' : Addr → Prop} {H H' : Hp} (k : Kp B H H') (h : ∀ b, B' b → B b) : Kp B' H H' := fun b o hb e => k b o (h b hb) e
theorem Kp.liv {B : Addr → Prop} {H0 H H' : Hp} (k : Kp B H H') : Kp (Liv H0 B) H H' := k.weak fun _ h => h.2
/-! ### a list of lists of ints, each its own -/
structure RmsAt (H : Hp) (B : Addr → Prop) (o : Addr) (ts : List Addr) (rs : List (List Int)) : Prop where
  top : H o = some (.lst (ts.map V.ref))
  bo : B o
  nd : ts.Nodup
  no : o ∉ ts
  len : ts.length = rs.length
  at' : ∀ (i : Nat) (t : Addr) (r : List Int), ts[i]? = some t → rs[i]? = some r → H t = some (.lst (r.map V.int))
  b : ∀ t ∈ ts, B t
theorem RmsAt.keep {H H' : Hp} {B : Addr → Prop} {a : Addr} {ts : List Addr} {rs : List (List Int)} (h : RmsAt H B a ts rs) (k : Kp B H H') : RmsAt H' B a ts rs :=
  ⟨k _ _ h.bo h.top, h.bo, h.nd, h.no, h.len, fun i t g e f => k _ _ (h.b t (List.mem_of_getElem? e)) (h.at' i t g e f), h.b⟩
theorem RmsAt.same {H H' : Hp} {B : Addr → Prop} {a : Addr} {ts : List Addr} {rs : List (List Int)} (h : RmsAt H B a ts rs) (k : Same H H') : RmsAt H' B a ts rs := h.keep (.of k)
theorem RmsAt.weaken {H : Hp} {B B' : Addr → Prop} {a : Addr} {ts : List Addr} {rs : List (List Int)} (h : RmsAt H B a ts rs) (k : ∀ b, B b → B' b) : RmsAt H B' a ts rs :=
  ⟨h.top, k _ h.bo, h.nd, h.no, h.len, h.at', fun t m => k _ (h.b t m)⟩
theorem RmsAt.seq {K : PySem.W.Frag} {H : Hp} {B : Addr → Prop} {a : Addr} {ts : List Addr} {rs : List (List Int)} (h : RmsAt H B a ts rs) : SqL K H a (ts.map V.ref) := SqL.of h.top
theorem RmsAt.get {H : Hp} {B : Addr → Prop} {a : Addr} {ts : List Addr} {rs : List (List Int)} (h : RmsAt H B a ts rs) {i : Nat} {x : V} (e : (ts.map V.ref)[i]? = some x) : ∃ t r, x = .ref t ∧ ts[i]? = some t ∧ rs[i]? = some r ∧ H t = some (.lst (r.map V.int)) := by
  obtain ⟨t, e1, rfl⟩ := refs_at e
  have hi := at_lt e1
  rw [h.len] at hi
  obtain ⟨g, e2⟩ := at_some hi
  exact ⟨t, g, rfl, e1, e2, h.at' i t g e1 e2⟩
theorem RmsAt.of {H : Hp} {B : Addr → Prop} {a : Addr} {ts : List Addr} {rs : List (List Int)} (h : RmsAt H B a ts rs) {i : Nat} {r : List Int} (e : rs[i]? = some r) : ∃ t, ts[i]? = some t ∧ H t = some (.lst (r.map V.int)) := by
  have hi := at_lt e
  rw [← h.len] at hi
  obtain ⟨t, e2⟩ := at_some hi
  exact ⟨t, e2, h.at' i t r e2 e⟩
theorem RmsAt.nil {H : Hp} {B : Addr → Prop} {o : Addr} (h : H o = some (.lst [])) (bo : B o) : RmsAt H B o [] [] :=
  ⟨h, bo, List.nodup_nil, by simp, rfl, fun i t r e _ => by simp at e, fun t m => by simp at m⟩
/-- a new empty list behind -/
theorem RmsAt.push {H : Hp} {B : Addr → Prop} {o : Addr} {ts : List Addr} {rs : List (List Int)} (h : RmsAt H B o ts rs) {q : Addr} {r : List Int} (hq : H q = none) (bq : B q) :
    RmsAt (upd (upd H q (.lst (r.map V.int))) o (.lst (ts.map V.ref ++ [.ref q]))) B o (ts ++ [q]) (rs ++ [r]) := by
  have nq : q ≠ o := no_of h.top hq
  have nqt : ∀ t ∈ ts, q ≠ t := fun t m => by
    obtain ⟨i, hi⟩ := List.mem_iff_getElem?.mp m
    have hl := at_lt hi
    rw [h.len] at hl
    obtain ⟨r', er⟩ := at_some hl
    exact no_of (h.at' i t r' hi er) hq
  refine ⟨?_, h.bo, ?_, ?_, ?_, fun i t x e1 e2 => ?_, fun t m => ?_⟩
  · rw [upd_same, List.map_append]
    rfl
  · rw [List.nodup_append]
    exact ⟨h.nd, by simp, fun a ha b hb => by
      rw [List.mem_singleton.mp hb]
      exact (nqt a ha).symm⟩
  · intro m
    rcases List.mem_append.mp m with m | m
    · exact h.no m
    · exact nq (List.mem_singleton.mp m).symm
  · rw [List.length_append, List.length_append, h.len]
    rfl
  · by_cases hi : i < ts.length
    · rw [List.getElem?_append_left hi] at e1
      rw [List.getElem?_append_left (by rw [← h.len]; exact hi)] at e2
      have nt : t ≠ o := fun z => h.no (z ▸ List.mem_of_getElem? e1)
      rw [upd_ne nt, upd_ne (nqt t (List.mem_of_getElem? e1)).symm]
      exact h.at' i t x e1 e2
    · have hi' : i = ts.length := by
        have := at_lt e1
        rw [List.length_append, List.length_singleton] at this
        omega
      subst hi'
      rw [List.getElem?_append_right (Nat.le_refl _), Nat.sub_self] at e1
      rw [h.len, List.getElem?_append_right (Nat.le_refl _), Nat.sub_self] at e2
      have e1' : q = t := Option.some.inj e1
      have e2' : r = x := Option.some.inj e2
      subst e1' e2'
      rw [upd_ne nq, upd_same]
  · rcases List.mem_append.mp m with m | m
    · exact h.b t m
    · rw [List.mem_singleton.mp m]
      exact bq
/-- one of them changed -/
theorem RmsAt.set {H : Hp} {B : Addr → Prop} {o : Addr} {ts : List Addr} {rs : List (List Int)} (h : RmsAt H B o ts rs) {i : Nat} {t : Addr} (e : ts[i]? = some t) (r : List Int) :
    RmsAt (upd H t (.lst (r.map V.int))) B o ts (rs.set i r) := by
  have nt : t ≠ o := fun z => h.no (z ▸ List.mem_of_getElem? e)
  refine ⟨?_, h.bo, h.nd, h.no, ?_, fun j u x e1 e2 => ?_, h.b⟩
  · rw [upd_ne nt.symm]
    exact h.top
  · rw [List.length_set]
    exact h.len
  · by_cases hj : j = i
    · subst hj
      have e' : u = t := Option.some.inj (e1.symm.trans e)
      subst e'
      rw [upd_same]
      have hl := at_lt e1
      rw [h.len] at hl
      rw [List.getElem?_set_self hl] at e2
      have : r = x := Option.some.inj e2
      rw [this]
    · rw [List.getElem?_set_ne (fun z => hj z.symm)] at e2
      have hut : u ≠ t := fun z => by
        subst z
        exact hj (nd_ix h.nd e1 e)
      rw [upd_ne hut]
      exact h.at' j u x e1 e2
theorem RmsAt.newTop {H H' : Hp} {B B' : Addr → Prop} {o : Addr} {ts : List Addr} {rs : List (List Int)} (h : RmsAt H B o ts rs) (k : ∀ b u, (b = o ∨ b ∈ ts) → H b = some u → H' b = some u) (kb : ∀ b, (b = o ∨ b ∈ ts) → B' b) : RmsAt H' B' o ts rs :=
  ⟨k _ _ (.inl rfl) h.top, kb _ (.inl rfl), h.nd, h.no, h.len, fun i t r e f => k _ _ (.inr (List.mem_of_getElem? e)) (h.at' i t r e f), fun t m => kb t (.inr m)⟩
/-! ### the dict of patience -/
def pks (gs : List (Int × Int)) : List (L2.Key × V) := gs.map fun g => (Sum.inl g.1, V.int g.2)
theorem pks_len (gs : List (Int × Int)) : (pks gs).length = gs.length := List.length_map _
theorem pks_keys (gs : List (Int × Int)) : (pks gs).map (·.1) = (gs.map (·.1)).map Sum.inl := by
  unfold pks
  rw [List.map_map, List.map_map]
  rfl
theorem pks_snoc (gs : List (Int × Int)) (g : Int × Int) : pks (gs ++ [g]) = pks gs ++ [(Sum.inl g.1, V.int g.2)] := List.map_append
theorem pks_none {gs : List (Int × Int)} {a : Int} (h : a ∉ gs.map (·.1)) : valV (pks gs) (Sum.inl a) = none := by
  induction gs with
  | nil => rfl
  | cons g gs ih =>
    have h' : ¬ (a = g.1 ∨ a ∈ gs.map (·.1)) := fun z => h (by rw [List.map_cons]; exact List.mem_cons.mpr z)
    have n : ¬ (Sum.inl g.1 : L2.Key) = Sum.inl a := fun z => h' (.inl (Sum.inl.inj z).symm)
    show valV ((Sum.inl g.1, V.int g.2) :: pks gs) (Sum.inl a) = none
    rw [valV_neg n]
    exact ih fun z => h' (.inr z)
theorem pks_some : ∀ {gs : List (Int × Int)} {g : Int × Int}, (gs.map (·.1)).Nodup → g ∈ gs → valV (pks gs) (Sum.inl g.1) = some (.int g.2)
  | x :: gs, g, nd, h => by
    have nd' : (x.1 :: gs.map (·.1)).Nodup := nd
    obtain ⟨n1, n2⟩ := List.nodup_cons.mp nd'
    show valV ((Sum.inl x.1, V.int x.2) :: pks gs) (Sum.inl g.1) = some (.int g.2)
    rcases List.mem_cons.mp h with e | h
    · subst e
      rw [valV_pos rfl]
    · have n : ¬ (Sum.inl x.1 : L2.Key) = Sum.inl g.1 := fun z => n1 (by
        rw [Sum.inl.inj z]
        exact List.mem_map.mpr ⟨g, h, rfl⟩)
      rw [valV_neg n]
      exact pks_some n2 h
theorem putK_snoc {gs : List (Int × Int)} {g : Int × Int} (h : g.1 ∉ gs.map (·.1)) : putK (pks gs) (Sum.inl g.1) (V.int g.2) = pks (gs ++ [g]) := by
  rw [putK_new _ (pks_none h), pks_snoc]
theorem Fit.take_no {gs : List (Int × Int)} (f : Fit gs) {i : Nat} {g : Int × Int} (h : gs[i]? = some g) : g.1 ∉ (gs.take i).map (·.1) := by
  intro m
  have e : gs = gs.take i ++ g :: gs.drop (i + 1) := by
    have hl := at_lt h
    have e2 : gs[i] = g := by
      rw [List.getElem?_eq_getElem hl] at h
      exact Option.some.inj h
    rw [← e2, List.getElem_cons_drop, List.take_append_drop]
  have nd := f.nd
  rw [e, List.map_append, List.nodup_append] at nd
  exact nd.2.2 _ m g.1 (by rw [List.map_cons]; exact List.mem_cons_self) rfl
/-! ### rules by a written part that is named (for what stands in a comprehension) -/
section
variable {X : Cx}
theorem lenK (K : PySem.W.Frag) (e : X.K = K := by rfl) : CallR X (.builtin "len") (fun xs H Q => ∃ p ys, xs = [.ref p] ∧ (SqL K H p ys ∨ SqT K H p ys) ∧ Q (.int ys.length) H) := by
  subst e
  exact call_len_seq
theorem ixlK (K : PySem.W.Frag) (e : X.K = K := by rfl) : IxR X (rIxL K) := by
  subst e
  exact ix_list
theorem ixtK (K : PySem.W.Frag) (e : X.K = K := by rfl) : IxR X (rIxT K) := by
  subst e
  exact ix_tup
theorem sllK (K : PySem.W.Frag) (e : X.K = K := by rfl) : SlR X (rSlL K) := by
  subst e
  exact sl_list
theorem eqDK (K : PySem.W.Frag) (hu : X.A.units + 64 < cLine) (e : X.K = K := by rfl) : OpR X (compareOp .Eq) (rEqD K) := by
  subst e
  exact op_eqD hu
theorem neDK (K : PySem.W.Frag) (hu : X.A.units + 64 < cLine) (e : X.K = K := by rfl) : OpR X (compareOp .NotEq) (rNeD K) := by
  subst e
  exact op_neD hu
theorem isiK (K : PySem.W.Frag) (e : X.K = K := by rfl) : CallR X (.builtin "isinstance") (rIsi K) := by
  subst e
  exact call_isi
theorem sumK (K : PySem.W.Frag) (hc : X.calm = true) (e : X.K = K := by rfl) : CallR X (.builtin "sum") (rSum K) := by
  subst e
  exact cr_sum hc
theorem inK (K : PySem.W.Frag) (e : X.K = K := by rfl) : OpR X (compareOp .In) (rIn K false) := by
  subst e
  exact op_in_seq
theorem notInK (K : PySem.W.Frag) (e : X.K = K := by rfl) : OpR X (compareOp .NotIn) (rIn K true) := by
  subst e
  exact op_notIn_seq
theorem listOfK (K : PySem.W.Frag) (e : X.K = K := by rfl) : CallR X (.type "list") (fun xs H Q => ∃ p ys, xs = [.ref p] ∧ (SqL K H p ys ∨ SqT K H p ys) ∧ ∀ l, H l = none → Q (.ref l) (upd H l (.lst ys))) := by
  subst e
  exact call_list_of
theorem pgTupK {es : List Expr} {k : Nat} {t : TGs} {pos : Pos} (K : PySem.W.Frag) (n : Nat) (hc : X.calm = true) (h : PGs X es t)
    (hn : (assignEach es X.env).length = n := by rfl) (hst : (assignEach es X.env).findIdx? (·.1) = none := by rfl) (e : X.K = K := by rfl) : PG X (.Tuple es k pos) (gTup K n t) := by
  subst e
  exact pg_tup hc h hn hst
theorem bmK {T : String} {name : Str} {id : String} {o e : Expr} {es : List Expr} {to : TE} {t : TA} {apos cpos : Pos} {r : V → List V → Hp → VK → Prop} (K : PySem.W.Frag) (pa : PlainAttrs T) (slot : Slot T name id) (hty : typeOf (.builtin id) = pure (.type "method_descriptor")) (hm : MtR X id r) (ho : PE X o to) (ha : PA X (e :: es) t)
    (hbase : attributeBase o name X.env (eval o X.env) = eval o X.env := by rfl)
    (hfew : ((backTo cpos (starEach (e :: es) X.env)).all (fun x => !x.1) && (backToKw cpos (keywordEach [] X.env)).all (fun x => x.1.isSome)
      && decide ((e :: es).length + ([] : List Keyword).length + (if ([] : List Keyword).isEmpty then 0 else 1) < 30)) = true := by rfl)
    (hline : (apos.endLine == cpos.line) = true := by rfl) (hs : starEach (e :: es) X.env = (false, eval e X.env) :: starEach es X.env := by rfl) (hplain : (backTo cpos (starEach es X.env)).any (·.1) = false := by rfl) (eK : X.K = K := by rfl) :
    PE X (.Call (.Attribute o name apos) (e :: es) [] cpos) (tBM K T r to t) := by
  subst eK
  exact pe_bm pa slot hty hm ho ha hbase hfew hline hs hplain
end
/-! ### cuts: what holds between two parts of a body -/
section
variable {σ : L2.St} {H : Hp} {D : Ends} {c : TT} {t u tb : TS}
theorem while_to (W : Nat → L2.St → Hp → Prop) (E : L2.St → Hp → Prop) (h0 : ∃ m, W m σ H) (hd : ∀ σ H, E σ H → D.nx σ H)
    (hs : ∀ X : L2.St → Hp → Prop, (∀ σ H, E σ H → X σ H) → ∀ m σ H, W m σ H → c σ H fun b H1 => if b = true then ∃ N : L2.St → Hp → Prop, (∀ σ' H', N σ' H' → ∃ m', m' < m ∧ W m' σ' H') ∧ tb { D with nx := N, ct := N, bk := X } σ H1 else X σ H1) : tWhile c tb D σ H := ⟨W, h0, hs D.nx hd⟩
theorem seq_to (E : L2.St → Hp → Prop) (h1 : ∀ X : L2.St → Hp → Prop, (∀ σ H, E σ H → X σ H) → t { D with nx := X } σ H) (h2 : ∀ σ H, E σ H → u D σ H) : tSeq t u D σ H := h1 (u D) h2
theorem seq_set {i : Nat} {v : V} (h : u D (σ.set i (some v)) H) : tSeq (tAsg (tC v) (gName i)) u D σ H := h
theorem st_to (E : L2.St → Hp → Prop) (h1 : ∀ X : L2.St → Hp → Prop, (∀ σ H, E σ H → X σ H) → t { D with nx := X } σ H) (h2 : ∀ σ H, E σ H → D.nx σ H) : t D σ H := h1 D.nx h2
end
theorem ixN_of {n j : Nat} (hj : j < n) : ixN n (j : Int) = some j := by
  unfold ixN
  rw [if_pos (by omega), if_pos (by omega), Int.toNat_natCast]
theorem seq_ix {n j : Nat} (hj : j < n) : seqIndex? (j : Int) n = some j := (ixN_seq (ixN_of hj)).1
theorem at_pick {xs : List V} {r : Int} (h0 : 0 ≤ r) (h1 : r < xs.length) : ∃ v, atI xs r = some v ∧ v ∈ xs := by
  obtain ⟨k, rfl⟩ : ∃ k : Nat, r = k := ⟨r.toNat, by omega⟩
  obtain ⟨v, e⟩ := at_some (show k < xs.length by omega)
  exact ⟨v, atI_nat e, List.mem_of_getElem? e⟩
theorem erase_perm {α : Type} : ∀ {l : List α} {k : Nat} {x : α}, l[k]? = some x → (x :: l.eraseIdx k).Perm l
  | [], _, _, h => by simp at h
  | a :: l, 0, x, h => by
    obtain rfl : a = x := Option.some.inj h
    exact List.Perm.refl _
  | a :: l, k + 1, x, h => by
    have ih := erase_perm (l := l) (k := k) (x := x) (by simpa using h)
    exact (List.Perm.swap a x (l.eraseIdx k)).trans (ih.cons a)
/-! ### data -/
def dInts (ns : List Int) : PyData := .list (ns.map .int)
def dGs (gs : List (Int × Int)) : PyData := .list (gs.map fun g => .tuple [.int g.1, .int g.2])
def dRows (rs : List (List Int)) : PyData := .list (rs.map dInts)
theorem canAll : ∀ {xs : List PyData}, (∀ x ∈ xs, x.canLay0 = true) → PyData.canLayAll0 xs = true
  | [], _ => by simp [PyData.canLayAll0]
  | x :: xs, h => by
    rw [PyData.canLayAll0, h x List.mem_cons_self, canAll fun y hy => h y (List.mem_cons_of_mem _ hy)]
    rfl
theorem depAll {n : Nat} : ∀ {xs : List PyData}, (∀ x ∈ xs, x.depth ≤ n) → PyData.depthAll xs ≤ n
  | [], _ => by simp [PyData.depthAll]
  | x :: xs, h => by
    rw [PyData.depthAll]
    exact Nat.max_le.mpr ⟨h x List.mem_cons_self, depAll fun y hy => h y (List.mem_cons_of_mem _ hy)⟩
structure Oks (n : Nat) (d : PyData) : Prop where
  can : d.canLay0 = true
  dep : d.depth ≤ n
theorem Oks.int (i : Int) : Oks 0 (.int i) := ⟨by simp [PyData.canLay0], by simp [PyData.depth]⟩
theorem Oks.mono {n m : Nat} {d : PyData} (h : Oks n d) (k : n ≤ m) : Oks m d := ⟨h.can, Nat.le_trans h.dep k⟩
theorem Oks.lst {n : Nat} {xs : List PyData} (h : ∀ x ∈ xs, Oks n x) : Oks (n + 1) (.list xs) := ⟨by rw [PyData.canLay0]; exact canAll fun x m => (h x m).can, by rw [PyData.depth]; exact Nat.succ_le_succ (depAll fun x m => (h x m).dep)⟩
theorem Oks.tup {n : Nat} {xs : List PyData} (h : ∀ x ∈ xs, Oks n x) : Oks (n + 1) (.tuple xs) := ⟨by rw [PyData.canLay0]; exact canAll fun x m => (h x m).can, by rw [PyData.depth]; exact Nat.succ_le_succ (depAll fun x m => (h x m).dep)⟩
theorem Oks.ints (ns : List Int) : Oks 1 (dInts ns) := .lst fun x m => by
  obtain ⟨n, _, rfl⟩ := List.mem_map.mp m
  exact .int n
theorem Oks.gs (gs : List (Int × Int)) : Oks 2 (dGs gs) := .lst fun x m => by
  obtain ⟨g, _, rfl⟩ := List.mem_map.mp m
  refine .tup fun y hy => ?_
  rcases List.mem_cons.mp hy with rfl | hy
  · exact .int _
  · rw [List.mem_singleton.mp hy]
    exact .int _
theorem Oks.rows (rs : List (List Int)) : Oks 2 (dRows rs) := .lst fun x m => by
  obtain ⟨r, _, rfl⟩ := List.mem_map.mp m
  exact .ints r
theorem Oks.shaped {n : Nat} {d : PyData} (h : Oks n d) (k : n ≤ 64 := by decide) : SeqAt.shaped d = true := by
  unfold SeqAt.shaped
  rw [h.can, decide_eq_true (Nat.le_trans h.dep k)]
  rfl
theorem Oks.eqv {n : Nat} {d : PyData} (h : Oks n d) : PyData.eqv d d = true := SeqAt.eqv_refl d h.can
theorem dp_ints {K : PySem.W.Frag} {H : Hp} {ns : List Int} : DpAll K H (ns.map V.int) (ns.map .int) := by
  induction ns with
  | nil => exact .nil
  | cons n ns ih => exact .cons (.int n) ih
theorem Dp.ints {K : PySem.W.Frag} {H : Hp} {a : Addr} {ns : List Int} (h : H a = some (.lst (ns.map V.int))) : Dp K H (.ref a) (dInts ns) := .lst (SqL.of h) dp_ints
theorem dpAll_of {K : PySem.W.Frag} {H : Hp} : ∀ {vs : List V} {ds : List PyData}, vs.length = ds.length → (∀ (i : Nat) (v : V) (d : PyData), vs[i]? = some v → ds[i]? = some d → Dp K H v d) → DpAll K H vs ds
  | [], [], _, _ => .nil
  | v :: vs, d :: ds, hl, h => .cons (h 0 v d rfl rfl) (dpAll_of (by simpa using hl) fun i v d e f => h (i + 1) v d (by simpa using e) (by simpa using f))
  | [], _ :: _, hl, _ => by simp at hl
  | _ :: _, [], hl, _ => by simp at hl
theorem GsAt.dp {K : PySem.W.Frag} {H : Hp} {B : Addr → Prop} {a : Addr} {ts : List Addr} {gs : List (Int × Int)} (h : GsAt H B a ts gs) : Dp K H (.ref a) (dGs gs) := by
  refine .lst h.seq (dpAll_of (by rw [List.length_map, List.length_map, h.len]) fun i v d e f => ?_)
  obtain ⟨t, g, rfl, eg, et⟩ := h.get e
  rw [List.getElem?_map, eg] at f
  obtain rfl := Option.some.inj f
  exact .tup (SqT.of et) (.cons (.int _) (.cons (.int _) .nil))
theorem RmsAt.dp {K : PySem.W.Frag} {H : Hp} {B : Addr → Prop} {a : Addr} {ts : List Addr} {rs : List (List Int)} (h : RmsAt H B a ts rs) : Dp K H (.ref a) (dRows rs) := by
  refine .lst h.seq (dpAll_of (by rw [List.length_map, List.length_map, h.len]) fun i v d e f => ?_)
  obtain ⟨t, r, rfl, _, er, et⟩ := h.get e
  rw [List.getElem?_map, er] at f
  obtain rfl := Option.some.inj f
  exact Dp.ints et
theorem eqv_nil (gs : List Int) : PyData.eqv (dInts gs) (dInts []) = gs.isEmpty := by
  cases gs with
  | nil => rfl
  | cons x r => rfl
theorem relTy (n : String) : RelV (.ty n) (.type n) := rfl
theorem FnOk.or {P : Program} {w : World} {K : PySem.W.Frag} {mg : Str → Option Value} {base : Heap} {CX : CXT} {k : Nat} {f : Addr} {fd : FuncData} {ps : List Str} {sp sp' : Sp} (F : FnOk P w K mg base CX k f fd ps sp) (F' : FnOk P w K mg base CX k f fd ps sp') :
    FnOk P w K mg base CX k f fd ps (fun vs H Q E => sp vs H Q E ∨ sp' vs H Q E) :=
  ⟨fun vs H Q E h => h.elim (F.len vs H Q E) (F'.len vs H Q E), fun A outer s H args us vs Q E hr e0 hb r h => h.elim (F.run A outer s H args us vs Q E hr e0 hb r) (F'.run A outer s H args us vs Q E hr e0 hb r)⟩
/-! ### built-ins by their names -/
structure Bi (mg : Str → Option Value) : Prop where
  len : mg "len" = none
  range : mg "range" = none
  enumerate : mg "enumerate" = none
  sorted : mg "sorted" = none
  sum : mg "sum" = none
  min : mg "min" = none
  max : mg "max" = none
  isinstance : mg "isinstance" = none
  zip : mg "zip" = none
  list_ : mg "list" = none
  tuple_ : mg "tuple" = none
  int_ : mg "int" = none
  bool_ : mg "bool" = none
  str_ : mg "str" = none
  abs : mg "abs" = none
  repr : mg "repr" = none
  dict_ : mg "dict" = none
  any : mg "any" = none
  all : mg "all" = none
  set_ : mg "set" = none
  reversed : mg "reversed" = none
  ValueError_ : mg "ValueError" = none
  divmod : mg "divmod" = none
end El
namespace El
open PySem PySem.Spec PyProof.Rows L2
/-- how many live in each -/
def lens (rs : List (List Int)) : List Int := rs.map fun r => (r.length : Int)
theorem lens_length (rs : List (List Int)) : (lens rs).length = rs.length := List.length_map _
theorem lens_at {rs : List (List Int)} {i : Nat} {r : List Int} (h : rs[i]? = some r) : (lens rs)[i]? = some (r.length : Int) := by
  unfold lens
  rw [List.getElem?_map, h]
  rfl
theorem cut_to (xs : List V) (j : Nat) : cutV xs none (some (j : Int)) = xs.take j := by
  unfold cutV
  rw [HT.sIx_none, HT.sIx_nat]
  show (List.drop 0 xs).take (min j xs.length - 0) = _
  rw [List.drop_zero, Nat.sub_zero, ← List.take_eq_take_min]
/-- the pair that stands at a value -/
def prOf (H : Hp) : V → Int × Int
  | .ref t => match H t with
    | some (.tup [.int i, .int j]) => (i, j)
    | _ => (0, 0)
  | _ => (0, 0)
theorem prOf_is {H : Hp} {t : Addr} {g : Int × Int} (h : H t = some (.tup [.int g.1, .int g.2])) : prOf H (.ref t) = g := by
  show (match H t with
    | some (.tup [.int i, .int j]) => (i, j)
    | _ => (0, 0)) = g
  rw [h]
theorem GsAt.prs {H : Hp} {B : Addr → Prop} {a : Addr} {ts : List Addr} {gs : List (Int × Int)} (h : GsAt H B a ts gs) : (ts.map V.ref).map (prOf H) = gs := by
  refine List.ext_getElem? fun i => ?_
  rw [List.getElem?_map]
  cases e : (ts.map V.ref)[i]? with
  | none =>
    have hl : (ts.map V.ref).length ≤ i := List.getElem?_eq_none_iff.mp e
    rw [List.length_map, h.len] at hl
    rw [List.getElem?_eq_none_iff.mpr hl]
    rfl
  | some x =>
    obtain ⟨t, g, rfl, eg, et⟩ := h.get e
    rw [eg]
    show some (prOf H (.ref t)) = some g
    rw [prOf_is et]
theorem GsAt.mem {H : Hp} {B : Addr → Prop} {a : Addr} {ts : List Addr} {gs : List (Int × Int)} (h : GsAt H B a ts gs) : ∀ x ∈ ts.map V.ref, ∃ t, x = V.ref t ∧ H t = some (.tup [.int (prOf H x).1, .int (prOf H x).2]) := fun x m => by
  obtain ⟨i, e⟩ := List.mem_iff_getElem?.mp m
  obtain ⟨t, g, rfl, eg, et⟩ := h.get e
  refine ⟨t, rfl, ?_⟩
  rw [prOf_is et]
  exact et
theorem sorted_prs {k : V → Int × Int} {ys xs : List V} {gs : List (Int × Int)} (f : Fit gs) (hx : xs.map k = gs) (hs : SrtO.Srtd (ltP k) ys) (hb : SrtO.Stb (ltP k) ys xs) : ys.reverse.map k = byAge gs := by
  refine byAge_of f ?_ ?_
  · rw [← hx]
    exact ((List.reverse_perm ys).trans hb.perm).map k
  · rw [List.map_reverse, List.pairwise_reverse, List.pairwise_map]
    refine hs.imp fun {a b} h => ?_
    have h' : SrtO.lexB (k b) (k a) = false := h
    rw [SrtO.lexB_no] at h'
    omega
theorem cut_1 (xs : List V) : cutV xs (some 1) none = xs.drop 1 := by
  unfold cutV
  rw [show HT.sIx xs.length 0 (some 1) = min 1 xs.length from HT.sIx_nat xs.length 0 1, HT.sIx_none]
  cases xs with
  | nil => rfl
  | cons x r =>
    rw [show min 1 (x :: r).length = 1 by
      rw [List.length_cons]
      omega]
    show (List.take ((x :: r).length - 1) r) = r
    rw [List.length_cons, Nat.add_sub_cancel]
    exact List.take_length
theorem lens_falls {gs : List (Int × Int)} (f : Fit gs) {i : Nat} {x y : Int} (h1 : (lens (settle gs))[i]? = some x) (h2 : ((lens (settle gs)).drop 1)[i]? = some y) : ¬ x < y := by
  rw [List.getElem?_drop] at h2
  unfold lens at h1 h2
  rw [List.getElem?_map] at h1 h2
  have hp := settleL_falls (byAge gs) f.byAge.pos
  cases e1 : (settle gs)[i]? with
  | none => rw [e1] at h1; cases h1
  | some r =>
    cases e2 : (settle gs)[1 + i]? with
    | none => rw [e2] at h2; cases h2
    | some s =>
      rw [e1] at h1
      rw [e2] at h2
      obtain rfl : (r.length : Int) = x := Option.some.inj h1
      obtain rfl : (s.length : Int) = y := Option.some.inj h2
      obtain ⟨l1, q1⟩ := List.getElem?_eq_some_iff.mp (show (settleL (byAge gs))[i]? = some r from e1)
      obtain ⟨l2, q2⟩ := List.getElem?_eq_some_iff.mp (show (settleL (byAge gs))[1 + i]? = some s from e2)
      have := List.pairwise_iff_getElem.mp hp i (1 + i) l1 l2 (by omega)
      rw [q1, q2] at this
      omega
theorem dget_pks {H : Hp} {d : Addr} {gs : List (Int × Int)} {g : Int × Int} (h : H d = some (.dK (pks gs))) (f : Fit gs) (m : g ∈ gs) : DGet H d (.int g.1) (some (.int g.2)) := by
  have q := DGet.k (k := Sum.inl g.1) h
  rw [pks_some f.nd m] at q
  exact q
theorem log_lt {m : Int} {k : Nat} (h0 : 0 < m) (h : m < 2 ^ k) : m.natAbs.log2 < k := by
  obtain ⟨j, rfl⟩ : ∃ j : Nat, m = j := ⟨m.toNat, by omega⟩
  have h' : j < 2 ^ k := by exact_mod_cast h
  rw [Int.natAbs_natCast]
  exact (Nat.log2_lt (by omega)).mpr h'
theorem GsAt.mix {H : Hp} {B B' : Addr → Prop} {a m : Addr} {ts : List Addr} {gs : List (Int × Int)} {ys : List V} (h : GsAt H B a ts gs) (e : H m = some (.lst ys)) (bm : B' m) (hb : ∀ b, B b → B' b) (p : ys.Perm (ts.map V.ref)) :
    ∃ ts' gs', GsAt H B' m ts' gs' ∧ gs'.Perm gs := by
  have hm : ∀ y ∈ ys, ∃ t, y = V.ref t ∧ t ∈ ts := fun y hy => by
    obtain ⟨t, ht, rfl⟩ := List.mem_map.mp (p.mem_iff.mp hy)
    exact ⟨t, rfl, ht⟩
  obtain ⟨us, rfl, hu⟩ : ∃ us : List Addr, ys = us.map V.ref ∧ ∀ u ∈ us, u ∈ ts := by
    clear p e
    induction ys with
    | nil => exact ⟨[], rfl, fun u hu => absurd hu (by simp)⟩
    | cons y ys ih =>
      obtain ⟨t, rfl, ht⟩ := hm y List.mem_cons_self
      obtain ⟨us, rfl, hu⟩ := ih fun z hz => hm z (List.mem_cons_of_mem _ hz)
      exact ⟨t :: us, rfl, fun u h => by
        rcases List.mem_cons.mp h with rfl | h
        · exact ht
        · exact hu u h⟩
  refine ⟨us, (us.map V.ref).map (prOf H), ⟨e, bm, by rw [List.length_map, List.length_map], fun i t g e1 e2 => ?_, fun t ht => hb t (h.b t (hu t ht))⟩, ?_⟩
  · rw [List.getElem?_map, List.getElem?_map, e1] at e2
    have e2' : prOf H (.ref t) = g := Option.some.inj e2
    obtain ⟨j, ej⟩ := List.mem_iff_getElem?.mp (hu t (List.mem_of_getElem? e1))
    obtain ⟨t', g', e3, eg, et⟩ := h.get (i := j) (x := .ref t) (by rw [List.getElem?_map, ej]; rfl)
    injection e3 with e3
    subst e3
    rw [prOf_is et] at e2'
    rw [← e2']
    exact et
  · have := p.map (prOf H)
    rw [h.prs] at this
    exact this
/-- put in anywhere -/
theorem GsAt.ins {H : Hp} {B : Addr → Prop} {a : Addr} {ts : List Addr} {gs : List (Int × Int)} {ys : List V} (h : GsAt H B a ts gs) (hn : a ∉ ts) {q : Addr} {g : Int × Int} (e : H q = some (.tup [.int g.1, .int g.2])) (bq : B q) (p : ys.Perm (ts.map V.ref ++ [.ref q])) :
    ∃ ts' gs', GsAt (upd H a (.lst ys)) B a ts' gs' ∧ gs'.Perm (gs ++ [g]) ∧ a ∉ ts' ∧ ys = ts'.map V.ref := by
  have nq : q ≠ a := fun z => by
    rw [z, h.top] at e
    cases e
  have hm : ∀ y ∈ ys, ∃ t, y = V.ref t ∧ t ∈ ts ++ [q] := fun y hy => by
    rcases List.mem_append.mp (p.mem_iff.mp hy) with m | m
    · obtain ⟨t, ht, rfl⟩ := List.mem_map.mp m
      exact ⟨t, rfl, List.mem_append_left _ ht⟩
    · exact ⟨q, List.mem_singleton.mp m, List.mem_append_right _ (List.mem_singleton.mpr rfl)⟩
  obtain ⟨us, rfl, hu⟩ : ∃ us : List Addr, ys = us.map V.ref ∧ ∀ u ∈ us, u ∈ ts ++ [q] := by
    clear p
    induction ys with
    | nil => exact ⟨[], rfl, fun u hu => absurd hu (by simp)⟩
    | cons y ys ih =>
      obtain ⟨t, rfl, ht⟩ := hm y List.mem_cons_self
      obtain ⟨us, rfl, hu⟩ := ih fun z hz => hm z (List.mem_cons_of_mem _ hz)
      exact ⟨t :: us, rfl, fun u h => by
        rcases List.mem_cons.mp h with rfl | h
        · exact ht
        · exact hu u h⟩
  have ha : ∀ u ∈ us, u ≠ a ∧ B u ∧ ∃ x : Int × Int, H u = some (.tup [.int x.1, .int x.2]) := fun u m => by
    rcases List.mem_append.mp (hu u m) with m | m
    · obtain ⟨j, ej⟩ := List.mem_iff_getElem?.mp m
      obtain ⟨t', g', e3, eg, et⟩ := h.get (i := j) (x := .ref u) (by rw [List.getElem?_map, ej]; rfl)
      injection e3 with e3
      subst e3
      exact ⟨fun z => hn (z ▸ m), h.b u m, g', et⟩
    · rw [List.mem_singleton.mp m]
      exact ⟨nq, bq, g, e⟩
  refine ⟨us, (us.map V.ref).map (prOf H), ⟨upd_same, h.ba, by rw [List.length_map, List.length_map], fun i t x e1 e2 => ?_, fun t m => (ha t m).2.1⟩, ?_, fun m => (ha a m).1 rfl, rfl⟩
  · rw [List.getElem?_map, List.getElem?_map, e1] at e2
    have e2' : prOf H (.ref t) = x := Option.some.inj e2
    obtain ⟨n1, _, y, ey⟩ := ha t (List.mem_of_getElem? e1)
    rw [prOf_is ey] at e2'
    subst e2'
    rw [upd_ne n1]
    exact ey
  · have := p.map (prOf H)
    rw [List.map_append, h.prs] at this
    rw [show [V.ref q].map (prOf H) = [g] by show [prOf H (.ref q)] = [g]; rw [prOf_is e]] at this
    exact this
theorem GsAt.cat {H : Hp} {B : Addr → Prop} {a l : Addr} {ts : List Addr} {gs : List (Int × Int)} (h : GsAt H B a ts gs) {q : Addr} {g : Int × Int} (e : H q = some (.tup [.int g.1, .int g.2])) (el : H l = some (.lst (ts.map V.ref ++ [.ref q]))) :
    GsAt H (fun _ => True) l (ts ++ [q]) (gs ++ [g]) := by
  refine ⟨by rw [List.map_append]; exact el, trivial, by rw [List.length_append, List.length_append, h.len]; rfl, fun i t x e1 e2 => ?_, fun _ _ => trivial⟩
  by_cases hi : i < ts.length
  · rw [List.getElem?_append_left hi] at e1
    rw [List.getElem?_append_left (by rw [← h.len]; exact hi)] at e2
    exact h.at' i t x e1 e2
  · have hi' : i = ts.length := by
      have := at_lt e1
      rw [List.length_append, List.length_singleton] at this
      omega
    subst hi'
    rw [List.getElem?_append_right (Nat.le_refl _), Nat.sub_self] at e1
    rw [h.len, List.getElem?_append_right (Nat.le_refl _), Nat.sub_self] at e2
    obtain rfl : q = t := Option.some.inj e1
    obtain rfl : g = x := Option.some.inj e2
    exact e
theorem inV_ints (x : Int) (ns : List Int) : inV (.int x) (ns.map V.int) = decide (x ∈ ns) := by
  unfold inV
  rw [List.any_map]
  induction ns with
  | nil => rfl
  | cons n ns ih =>
    rw [List.any_cons, ih]
    have e : ((fun y => eqV y (V.int x)) ∘ V.int) n = decide (x = n) := by
      show eqV (.int n) (.int x) = decide (x = n)
      have e2 : eqV (.int n) (.int x) = decide (n = x) := by
        unfold eqV
        first | rfl | simp
      rw [e2]
      by_cases h : n = x
      · subst h; simp
      · rw [decide_eq_false h, decide_eq_false (fun z => h z.symm)]
    rw [e]
    by_cases h : x = n
    · subst h
      simp
    · rw [decide_eq_false h, Bool.false_or]
      by_cases h2 : x ∈ ns
      · rw [decide_eq_true h2, decide_eq_true (List.mem_cons_of_mem _ h2)]
      · rw [decide_eq_false h2, decide_eq_false (fun z => (List.mem_cons.mp z).elim h h2)]
theorem flat_ints (ns : List Int) : (ns.map V.int).all flatV = true := by
  rw [List.all_map, List.all_eq_true]
  intro x _
  rfl
theorem eqvAll_ints : ∀ a b : List Int, PyData.eqvAll (a.map .int) (b.map .int) = decide (a = b)
  | [], [] => rfl
  | [], y :: b => by
    rw [decide_eq_false (by simp)]
    rfl
  | x :: a, [] => by
    rw [decide_eq_false (by simp)]
    rfl
  | x :: a, y :: b => by
    rw [List.map_cons, List.map_cons, PyData.eqvAll, eqvAll_ints a b]
    show ((x == y) && decide (a = b)) = _
    by_cases h : x = y
    · subst h
      by_cases h2 : a = b
      · subst h2
        simp
      · rw [decide_eq_false h2, decide_eq_false (fun z => h2 (List.cons.inj z).2)]
        simp
    · have : (x == y) = false := by simpa using h
      rw [this, decide_eq_false (fun z => h (List.cons.inj z).1)]
      rfl
theorem eqv_ints (a b : List Int) : PyData.eqv (dInts a) (dInts b) = decide (a = b) := by
  unfold dInts
  rw [PyData.eqv]
  exact eqvAll_ints a b
theorem cut_at (xs : List V) (k : Nat) : cutV xs (some (k : Int)) (some ((k : Int) + 1)) = (xs.drop k).take 1 := by
  unfold cutV
  rw [HT.sIx_nat, show (k : Int) + 1 = ((k + 1 : Nat) : Int) by omega, HT.sIx_nat]
  by_cases h : k < xs.length
  · rw [Nat.min_eq_left (by omega), Nat.min_eq_left (by omega), Nat.add_sub_cancel_left]
  · have h1 : min k xs.length = xs.length := by omega
    have h2 : min (k + 1) xs.length = xs.length := by omega
    rw [h1, h2, Nat.sub_self, List.take_zero, List.drop_of_length_le (show xs.length ≤ k by omega)]
    rfl
theorem drop_take1 (L : List Int) (k : Nat) : (L.drop k).take 1 = L[k]?.toList := by
  by_cases h : k < L.length
  · rw [List.getElem?_eq_getElem h, List.drop_eq_getElem_cons h]
    rfl
  · rw [List.getElem?_eq_none (by omega), List.drop_of_length_le (by omega)]
    rfl
end El
namespace El
open PySem PySem.Spec PyProof.Rows L2
/-- [f(a, b) for a, b in gs], pairs of ints to ints -/
theorem lc_prs {K : PySem.W.Frag} {B : Addr → Prop} {a D : Addr} {ts : List Addr} {gs : List (Int × Int)} {i j : Nat} {te : TE} {vs : List Nat} {σ : L2.St} {H1 : Hp} {Qd : Hp → Prop} (f : Int × Int → Int) (hG : GsAt H1 B a ts gs) (hD : H1 D = none) (hl : gs.length ≤ 1000)
    (he : ∀ (z : Int × Int) (H' : Hp), z ∈ gs → Same H1 H' → ∀ Q : VK, Q (.int (f z)) H' → te (((wipe σ vs).set i (some (.int z.1))).set j (some (.int z.2))) H' Q) (hw : ∀ z : Int × Int, wipe (((wipe σ vs).set i (some (.int z.1))).set j (some (.int z.2))) vs = wipe σ vs)
    (hd : ∀ H2, Same H1 H2 → H2 D = some (.lst ((gs.map f).map V.int)) → Qd H2) :
    ∃ W : Nat → Nat → Hp → Prop, (∃ m, W 0 m (upd H1 D (.lst []))) ∧ ∀ k m H, W k m H →
      ((Itl K a).stop k H ∧ Qd H) ∨ ((Itl K a).go k H ∧ ∃ Nx : Hp → Prop, (∀ H', Nx H' → ∃ m', m' < m ∧ W (k + 1) m' H') ∧ ∀ x H', (Itl K a).yld k H x H' → gTup K 2 (gCons (gName i) (gCons (gName j) gNil)) x (wipe σ vs) H' fun σ2 H2 => wipe σ2 vs = wipe σ vs ∧ tYes σ2 H2 fun b H3 =>
        if b = true then te σ2 H3 fun y H4 => ∃ acc, H4 D = some (.lst acc) ∧ acc.length < sizeLine ∧ Nx (upd H4 D (.lst (acc ++ [y]))) else Nx H3) := by
  refine lc_it (walk_list (xs := ts.map V.ref)) (fun k H2 => Same H1 H2 ∧ H2 D = some (.lst (((gs.take k).map f).map V.int))) ⟨same_new hD, upd_same⟩ (fun k H2 _ hW => ?_) (fun k x H2 H3 hk hW hY => ?_) (fun H2 hW => ?_)
  · exact (hG.same hW.1).seq
  · obtain ⟨sm, e⟩ := hW
    obtain ⟨rfl, hx⟩ := hY
    obtain ⟨t, z, rfl, ez, et⟩ := (hG.same sm).get hx
    refine ⟨t, _, rfl, SqT.of et, rfl, .int z.1, _, rfl, .int z.2, _, rfl, rfl, ?_⟩
    refine ⟨hw z, he z H3 (List.mem_of_getElem? ez) sm _ ⟨_, e, ils (by rw [List.length_map, List.length_map, List.length_take]; omega), Same.mut sm hD, ?_⟩⟩
    rw [upd_same, take_snoc ez, List.map_append, List.map_append]
    rfl
  · obtain ⟨sm, e⟩ := hW
    rw [List.length_map, hG.len, take_full] at e
    exact hd H2 sm e
theorem GsAt.top' {H : Hp} {B : Addr → Prop} {a : Addr} {ts : List Addr} {gs : List (Int × Int)} (h : GsAt H B a ts gs) {b : Addr} (e : H b = some (.lst (ts.map V.ref))) : GsAt H (fun _ => True) b ts gs := ⟨e, trivial, h.len, h.at', fun _ _ => trivial⟩
/-- a pair of a list of pairs, by its place -/
theorem GsAt.at_ {H : Hp} {B : Addr → Prop} {a : Addr} {ts : List Addr} {gs : List (Int × Int)} (h : GsAt H B a ts gs) {i : Nat} {g : Int × Int} (e : gs[i]? = some g) : ∃ t, (ts.map V.ref)[i]? = some (.ref t) ∧ H t = some (.tup [.int g.1, .int g.2]) := by
  have hl := at_lt e
  rw [← h.len] at hl
  obtain ⟨t, e2⟩ := at_some hl
  exact ⟨t, by rw [List.getElem?_map, e2]; rfl, h.at' i t g e2 e⟩
theorem pick2 {P : Int → Prop} {a b r : Int} (h0 : 0 ≤ r) (h1 : r < 2) (pa : P a) (pb : P b) : ∃ v : Int, atI [V.int a, .int b] r = some (.int v) ∧ P v := by
  obtain ⟨v, hv, mv⟩ := at_pick (xs := [V.int a, .int b]) h0 h1
  rcases List.mem_cons.mp mv with rfl | mv
  · exact ⟨_, hv, pa⟩
  · obtain rfl := List.mem_singleton.mp mv
    exact ⟨_, hv, pb⟩
theorem pick3 {P : Int → Prop} {a b c r : Int} (h0 : 0 ≤ r) (h1 : r < 3) (pa : P a) (pb : P b) (pc : P c) : ∃ v : Int, atI [V.int a, .int b, .int c] r = some (.int v) ∧ P v := by
  obtain ⟨v, hv, mv⟩ := at_pick (xs := [V.int a, .int b, .int c]) h0 h1
  rcases List.mem_cons.mp mv with rfl | mv
  · exact ⟨_, hv, pa⟩
  rcases List.mem_cons.mp mv with rfl | mv
  · exact ⟨_, hv, pb⟩
  · obtain rfl := List.mem_singleton.mp mv
    exact ⟨_, hv, pc⟩
theorem pick4 {P : Int → Prop} {a b c d r : Int} (h0 : 0 ≤ r) (h1 : r < 4) (pa : P a) (pb : P b) (pc : P c) (pd : P d) : ∃ v : Int, atI [V.int a, .int b, .int c, .int d] r = some (.int v) ∧ P v := by
  obtain ⟨v, hv, mv⟩ := at_pick (xs := [V.int a, .int b, .int c, .int d]) h0 h1
  rcases List.mem_cons.mp mv with rfl | mv
  · exact ⟨_, hv, pa⟩
  rcases List.mem_cons.mp mv with rfl | mv
  · exact ⟨_, hv, pb⟩
  rcases List.mem_cons.mp mv with rfl | mv
  · exact ⟨_, hv, pc⟩
  · obtain rfl := List.mem_singleton.mp mv
    exact ⟨_, hv, pd⟩
theorem pickL {P : Int → Prop} {L : List Int} {r : Int} (h0 : 0 ≤ r) (h1 : r < L.length) (p : ∀ x ∈ L, P x) : ∃ v : Int, atI (L.map V.int) r = some (.int v) ∧ P v := by
  obtain ⟨v, hv, mv⟩ := at_pick (xs := L.map V.int) h0 (by rw [List.length_map]; exact h1)
  obtain ⟨x, mx, rfl⟩ := List.mem_map.mp mv
  exact ⟨x, hv, p x mx⟩
/-- pairs that stand at these, whatever list tells them -/
structure Prs (H : Hp) (ts : List Addr) (gs : List (Int × Int)) : Prop where
  len : ts.length = gs.length
  at' : ∀ (i : Nat) (t : Addr) (g : Int × Int), ts[i]? = some t → gs[i]? = some g → H t = some (.tup [.int g.1, .int g.2])
theorem GsAt.pr {H : Hp} {B : Addr → Prop} {a : Addr} {ts : List Addr} {gs : List (Int × Int)} (h : GsAt H B a ts gs) : Prs H ts gs := ⟨h.len, h.at'⟩
theorem Prs.gs {H : Hp} {a : Addr} {ts : List Addr} {gs : List (Int × Int)} (h : Prs H ts gs) (e : H a = some (.lst (ts.map V.ref))) : GsAt H (fun _ => True) a ts gs := ⟨e, trivial, h.len, h.at', fun _ _ => trivial⟩
theorem Prs.same {H H' : Hp} {ts : List Addr} {gs : List (Int × Int)} (h : Prs H ts gs) (k : Same H H') : Prs H' ts gs := ⟨h.len, fun i t g e f => k _ _ (h.at' i t g e f)⟩
theorem Prs.nil {H : Hp} : Prs H [] [] := ⟨rfl, fun i t g e _ => by simp at e⟩
theorem Prs.cons {H : Hp} {t : Addr} {g : Int × Int} {ts : List Addr} {gs : List (Int × Int)} (e : H t = some (.tup [.int g.1, .int g.2])) (h : Prs H ts gs) : Prs H (t :: ts) (g :: gs) := by
  refine ⟨by rw [List.length_cons, List.length_cons, h.len], fun i u x e1 e2 => ?_⟩
  cases i with
  | zero =>
    obtain rfl : t = u := Option.some.inj e1
    obtain rfl : g = x := Option.some.inj e2
    exact e
  | succ i => exact h.at' i u x (by simpa using e1) (by simpa using e2)
theorem Prs.cat {H : Hp} {ts us : List Addr} {gs hs : List (Int × Int)} (h : Prs H ts gs) (k : Prs H us hs) : Prs H (ts ++ us) (gs ++ hs) := by
  refine ⟨by rw [List.length_append, List.length_append, h.len, k.len], fun i t r e1 e2 => ?_⟩
  by_cases hi : i < ts.length
  · rw [List.getElem?_append_left hi] at e1
    rw [List.getElem?_append_left (by rw [← h.len]; exact hi)] at e2
    exact h.at' i t r e1 e2
  · rw [List.getElem?_append_right (by omega)] at e1
    rw [List.getElem?_append_right (by rw [← h.len]; omega), ← h.len] at e2
    exact k.at' _ t r e1 e2
theorem Prs.take {H : Hp} {ts : List Addr} {gs : List (Int × Int)} (h : Prs H ts gs) (n : Nat) : Prs H (ts.take n) (gs.take n) := by
  refine ⟨by rw [List.length_take, List.length_take, h.len], fun i t r e1 e2 => ?_⟩
  rw [List.getElem?_take] at e1 e2
  split at e1
  · rename_i hi
    rw [if_pos hi] at e2
    exact h.at' i t r e1 e2
  · cases e1
theorem Prs.drop {H : Hp} {ts : List Addr} {gs : List (Int × Int)} (h : Prs H ts gs) (n : Nat) : Prs H (ts.drop n) (gs.drop n) := by
  refine ⟨by rw [List.length_drop, List.length_drop, h.len], fun i t r e1 e2 => ?_⟩
  rw [List.getElem?_drop] at e1 e2
  exact h.at' _ t r e1 e2
theorem cutFrom (xs : List V) (j : Nat) : cutV xs (some (j : Int)) none = xs.drop j := by
  unfold cutV
  rw [HT.sIx_none, HT.sIx_nat]
  show (List.drop (min j xs.length) xs).take (xs.length - min j xs.length) = _
  by_cases h : j ≤ xs.length
  · rw [Nat.min_eq_left h, List.take_of_length_le (by rw [List.length_drop]; omega)]
  · rw [Nat.min_eq_right (by omega), List.drop_of_length_le (Nat.le_refl _), List.drop_of_length_le (show xs.length ≤ j by omega), List.take_nil]
theorem iteX {c : Bool} {A B : Prop} (hc : c = false) (h : B) : if c = true then A else B := by
  rw [hc]
  exact iteF h
theorem nd_self (x : V) : (!decide (x = x)) = false := by rw [decide_eq_true rfl]; rfl
theorem log2_lt {x : Int} {k : Nat} (h0 : 0 ≤ x) (h1 : x < 2 ^ k) (hk : 0 < k) : x.natAbs.log2 < k := by
  by_cases h4 : x.natAbs = 0
  · rw [h4]; exact Nat.lt_of_le_of_lt (by decide) hk
  · refine (Nat.log2_lt h4).mpr ?_
    have : ((x.natAbs : Nat) : Int) < ((2 ^ k : Nat) : Int) := by
      rw [show ((x.natAbs : Nat) : Int) = x by omega]
      exact_mod_cast h1
    exact_mod_cast this
theorem part_at {gs : List (Int × Int)} {i : Nat} {g : Int × Int} (e : gs[i]? = some g) : gs = gs.take i ++ [g] ++ gs.drop (i + 1) := by
  have hi := at_lt e
  have h2 := List.getElem_cons_drop (as := gs) (i := i) hi
  rw [List.getElem?_eq_getElem hi] at e
  rw [Option.some.inj e] at h2
  rw [List.append_assoc]
  show gs = gs.take i ++ (g :: gs.drop (i + 1))
  rw [h2, List.take_append_drop]
theorem rg0 {i : Nat} {x : V} (h : x = V.int (0 + (i : Int))) : x = V.int (i : Int) := by
  rw [h, Int.zero_add]
end El
namespace El
open PySem PySem.Spec PyProof.Rows L2
def topS (i : Nat) : Stmt := PySem.Challenge.pw_elderinn_k35_whole_one_more_elder.main.body.getD i (.Pass ⟨0, 0, 0, 0⟩)
end El
namespace El
open PySem PySem.Spec PyProof.Rows L2
section
variable {P : Program} {w : World} {K : PySem.W.Frag} {mg : Str → Option Value} {base : Heap}
abbrev s_check_first : Stmt := topS 5
abbrev N_check_first : List Str := ["j"]
abbrev P_check_first : List Str := ["j"]
theorem sc_check_first : FnScope N_check_first P_check_first (defScope s_check_first) := ⟨rfl, rfl, rfl, by decide +kernel, rfl, by decide +kernel, by decide +kernel⟩
def sp_check_first : Sp := fun vs H Q _ => ∃ j : Nat, vs = [.int (j : Int)] ∧ Q .non H
theorem ok_check_first (A : At K mg "check_first" P_check_first s_check_first) : Df P w K mg base 1 "check_first" P_check_first s_check_first sp_check_first := by
  refine A.df fun f fd F => F.ok sc_check_first (fun vs H Q E h => ?_) (fun cdv AA outer s H vs Q E hr h => ?_)
  · obtain ⟨_, rfl, _⟩ := h
    rfl
  · obtain ⟨j, rfl, q⟩ := h
    have nd := sc_check_first.nd
    refine ⟨_, (pss_one (ps_if (pt_cmpR op_lt (pv 0) pe_int (nomark _)) (pss_one ps_never) pss_nil)), ?_⟩
    refine ⟨_, rfl, _, _, rfl, rfl, _, rfl, ?_⟩
    rw [decide_eq_false (by omega)]
    exact iteF q
end
end El
namespace El
open PySem PySem.Spec PyProof.Rows L2
section
variable {P : Program} {w : World} {K : PySem.W.Frag} {mg : Str → Option Value} {base : Heap}
abbrev s_is_crowd : Stmt := topS 6
abbrev N_is_crowd : List Str := ["count", "patience"]
abbrev P_is_crowd : List Str := ["count", "patience"]
theorem sc_is_crowd : FnScope N_is_crowd P_is_crowd (defScope s_is_crowd) := ⟨rfl, rfl, rfl, by decide +kernel, rfl, by decide +kernel, by decide +kernel⟩
def sp_is_crowd : Sp := fun vs H Q _ => ∃ c p : Int, vs = [.int c, .int p] ∧ Q (.bl (decide (1 ≤ c) && decide (0 ≤ p))) H
theorem ok_is_crowd (A : At K mg "is_crowd" P_is_crowd s_is_crowd) : Df P w K mg base 1 "is_crowd" P_is_crowd s_is_crowd sp_is_crowd := by
  refine A.df fun f fd F => F.ok sc_is_crowd (fun vs H Q E h => ?_) (fun cdv AA outer s H vs Q E hr h => ?_)
  · obtain ⟨_, _, rfl, _⟩ := h
    rfl
  · obtain ⟨c, p, rfl, q⟩ := h
    have nd := sc_is_crowd.nd
    refine ⟨_, (pss_one (ps_ret (pe_and (pe_cmpR op_ge (pv 0) pe_int (nomark _)) (pe_one (pe_cmpR op_ge (pv 1) pe_int (nomark _)))))), ?_⟩
    refine ⟨.int c, rfl, _, _, rfl, rfl, _, rfl, ite2 (fun e => ?_) (fun e => ?_)⟩
    · have e := of_decide_eq_true e
      rw [decide_eq_true e, Bool.true_and] at q
      exact ⟨.int p, rfl, _, _, rfl, rfl, q⟩
    · rw [decide_eq_false (fun z => e (decide_eq_true z)), Bool.false_and] at q
      exact q
end
end El
namespace El
open PySem PySem.Spec PyProof.Rows L2
section
variable {P : Program} {w : World} {K : PySem.W.Frag} {mg : Str → Option Value} {base : Heap}
abbrev s_check_crowds : Stmt := topS 7
abbrev N_check_crowds : List Str := ["crowds", "number", "count", "patience"]
abbrev P_check_crowds : List Str := ["crowds"]
theorem sc_check_crowds : FnScope N_check_crowds P_check_crowds (defScope s_check_crowds) := ⟨rfl, rfl, rfl, by decide +kernel, rfl, by decide +kernel, by decide +kernel⟩
def sp_check_crowds : Sp := fun vs H Q _ => ∃ (B : Addr → Prop) (a : Addr) (ts : List Addr) (cs : List (Int × Int)), vs = [.ref a] ∧ GsAt H B a ts cs ∧ Crw cs ∧ ∀ H', Same H H' → Q .non H'
theorem ok_check_crowds (A : At K mg "check_crowds" P_check_crowds s_check_crowds) (B : Bi mg) (D_is_crowd : Df P w K mg base 1 "is_crowd" P_is_crowd s_is_crowd sp_is_crowd) : Df P w K mg base 2 "check_crowds" P_check_crowds s_check_crowds sp_check_crowds := by
  refine A.df fun f fd F => F.ok sc_check_crowds (fun vs H Q E h => ?_) (fun cdv AA outer s H vs Q E hr h => ?_)
  · obtain ⟨_, _, _, _, rfl, _⟩ := h
    rfl
  · obtain ⟨BB, a, ts, cs, rfl, hG, hC, q⟩ := h
    have nd := sc_check_crowds.nd
    refine ⟨_, (pss_one (ps_for PassesOwn.never rfl (pi_enum (by rfl) B.enumerate (pa_cons (pv 0) pa_nil)) (pg_tup (by rfl) (pgs_cons (pg_name (i := 1) nd rfl (.inl rfl)) (pgs_cons (pg_tup (by rfl) (pgs_cons (pg_name (i := 2) nd rfl (.inl rfl)) (pgs_cons (pg_name (i := 3) nd rfl (.inl rfl)) pgs_nil))) pgs_nil))) (pss_one (ps_if (pt_not (pt_val (pe_df D_is_crowd (hr.mono (by decide)) (by rfl) (pa_cons (pv 2) (pa_cons (pv 3) pa_nil))))) (pss_one ps_never) pss_nil)))), ?_⟩
    refine ⟨.ref a, rfl, a, ts.map V.ref, rfl, hG.seq, ?_⟩
    refine for_it (walk_enum (xs := ts.map V.ref)) (fun i σ H2 => ∃ y2 y3 y4, σ = [some (.ref a), y2, y3, y4] ∧ Same H H2) ⟨none, none, none, rfl, Same.refl _⟩ (fun i σ H2 _ hW => ?_) (fun i x σ H2 H3 hi hW hY => ?_) (fun σ H2 hW => ?_)
    · obtain ⟨_, _, _, _, sm⟩ := hW
      exact (hG.same sm).seq
    · obtain ⟨y2, y3, y4, rfl, sm⟩ := hW
      obtain ⟨T, x1, x2, rfl, nT, rfl, f1, f2⟩ := hY
      obtain rfl : V.int ↑i = x1 := Option.some.inj f1
      obtain ⟨t, g, rfl, eg, et⟩ := (hG.same sm).get f2
      have s3 : Same H2 (upd H2 T (.tup [.int i, .ref t])) := same_new nT
      refine ⟨T, [.int i, .ref t], rfl, SqT.of upd_same, rfl, .int i, [.ref t], rfl, .ref t, [], rfl, ?_⟩
      refine ⟨t, _, rfl, SqT.of (s3 _ _ et), rfl, .int g.1, [.int g.2], rfl, .int g.2, [], rfl, rfl, rfl, ?_⟩
      have hg := hC g (List.mem_of_getElem? eg)
      refine ⟨.int g.1, rfl, .int g.2, rfl, g.1, g.2, rfl, _, rfl, ?_⟩
      rw [decide_eq_true hg.1, decide_eq_true hg.2]
      refine iteF ?_
      exact ⟨_, _, _, rfl, sm.trans s3⟩
    · obtain ⟨y2, y3, y4, rfl, sm⟩ := hW
      exact q H2 sm
end
end El
namespace El
open PySem PySem.Spec PyProof.Rows L2
section
variable {P : Program} {w : World} {K : PySem.W.Frag} {mg : Str → Option Value} {base : Heap}
abbrev s_kept_with : Stmt := topS 10
abbrev N_kept_with : List Str := ["crowds", "n", "told", "count", "patience"]
abbrev P_kept_with : List Str := ["crowds", "n"]
theorem sc_kept_with : FnScope N_kept_with P_kept_with (defScope s_kept_with) := ⟨rfl, rfl, rfl, by decide +kernel, rfl, by decide +kernel, by decide +kernel⟩
def sp_kept_with : Sp := fun vs H Q _ => ∃ (B : Addr → Prop) (a : Addr) (ts : List Addr) (cs : List (Int × Int)) (n : Int), vs = [.ref a, .int n] ∧ GsAt H B a ts cs ∧ Crw cs ∧ Q (.int (stay cs n)) H
theorem ok_kept_with (A : At K mg "kept_with" P_kept_with s_kept_with) (B : Bi mg) : Df P w K mg base 1 "kept_with" P_kept_with s_kept_with sp_kept_with := by
  refine A.df fun f fd F => F.ok sc_kept_with (fun vs H Q E h => ?_) (fun cdv AA outer s H vs Q E hr h => ?_)
  · obtain ⟨_, _, _, _, _, rfl, _⟩ := h
    rfl
  · obtain ⟨BB, a, ts, cs, n, rfl, hG, hC, q⟩ := h
    have nd := sc_kept_with.nd
    refine ⟨_, (pss_cons (ps_set (i := 2) nd rfl (.inl rfl) (pv 1))
    (pss_cons (ps_for PassesOwn.never rfl (pi_list (pv 0)) (pg_tup (by rfl) (pgs_cons (pg_name (i := 3) nd rfl (.inl rfl)) (pgs_cons (pg_name (i := 4) nd rfl (.inl rfl)) pgs_nil))) (pss_one (ps_set (i := 2) nd rfl (.inl rfl) (pe_callB (call_max2 rfl) (by rfl) B.max (by decide +kernel) (pa_cons (pv 2) (pa_cons (pe_callB (call_min2 rfl) (by rfl) B.min (by decide +kernel) (pa_cons (pe_op op_add (pv 2) (pv 3)) (pa_cons (pe_op op_add (pv 4) pe_int) pa_nil))) pa_nil))))))
    (pss_one (ps_ret (pv 2))))), ?_⟩
    refine ⟨.int n, rfl, .ref a, rfl, a, rfl, ⟨_, hG.seq⟩, ?_⟩
    refine for_it (walk_list (xs := ts.map V.ref)) (fun i σ H2 => ∃ y3 y4, σ = [some (.ref a), some (.int n), some (.int (stay (cs.take i) n)), y3, y4] ∧ H2 = H) ⟨none, none, rfl, rfl⟩ (fun i σ H2 _ hW => ?_) (fun i x σ H2 H3 hi hW hY => ?_) (fun σ H2 hW => ?_)
    · obtain ⟨_, _, _, rfl⟩ := hW
      exact hG.seq
    · obtain ⟨y3, y4, rfl, rfl⟩ := hW
      obtain ⟨rfl, hx⟩ := hY
      obtain ⟨t, g, rfl, eg, et⟩ := hG.get hx
      have hg := hC g (List.mem_of_getElem? eg)
      refine ⟨t, _, rfl, SqT.of et, rfl, .int g.1, _, rfl, .int g.2, _, rfl, rfl, ?_⟩
      refine ⟨_, rfl, _, rfl, _, rfl, _, _, rfl, rfl, _, rfl, _, _, rfl, rfl, _, _, rfl, _, _, rfl, ?_⟩
      have e : (if (if g.2 + 1 < stay (cs.take i) n + g.1 then g.2 + 1 else stay (cs.take i) n + g.1) > stay (cs.take i) n then (if g.2 + 1 < stay (cs.take i) n + g.1 then g.2 + 1 else stay (cs.take i) n + g.1) else stay (cs.take i) n) = kst (stay (cs.take i) n) g := by
        unfold kst
        split <;> split <;> (try split) <;> (try split) <;> omega
      refine ⟨some (.int g.1), some (.int g.2), ?_, rfl⟩
      rw [take_snoc eg, stay_snoc, ← e]
      rfl
    · obtain ⟨y3, y4, rfl, rfl⟩ := hW
      rw [show (ts.map V.ref).length = cs.length by rw [List.length_map, hG.len], take_full]
      exact ⟨_, rfl, q⟩
end
end El
namespace El
open PySem PySem.Spec PyProof.Rows L2
section
variable {P : Program} {w : World} {K : PySem.W.Frag} {mg : Str → Option Value} {base : Heap}
abbrev s_kept : Stmt := topS 9
abbrev N_kept : List Str := ["crowds", "n"]
abbrev P_kept : List Str := ["crowds", "n"]
theorem sc_kept : FnScope N_kept P_kept (defScope s_kept) := ⟨rfl, rfl, rfl, by decide +kernel, rfl, by decide +kernel, by decide +kernel⟩
def sp_kept : Sp := fun vs H Q _ => ∃ (B : Addr → Prop) (a : Addr) (ts : List Addr) (cs : List (Int × Int)) (n : Int), vs = [.ref a, .int n] ∧ GsAt H B a ts cs ∧ Crw cs ∧ 0 ≤ n ∧ ∀ H', Same H H' → Q (.int (stay cs n)) H'
theorem ok_kept (A : At K mg "kept" P_kept s_kept) (D_check_crowds : Df P w K mg base 2 "check_crowds" P_check_crowds s_check_crowds sp_check_crowds) (D_check_first : Df P w K mg base 1 "check_first" P_check_first s_check_first sp_check_first)
    (D_kept_with : Df P w K mg base 1 "kept_with" P_kept_with s_kept_with sp_kept_with) : Df P w K mg base 3 "kept" P_kept s_kept sp_kept := by
  refine A.df fun f fd F => F.ok sc_kept (fun vs H Q E h => ?_) (fun cdv AA outer s H vs Q E hr h => ?_)
  · obtain ⟨_, _, _, _, _, rfl, _⟩ := h
    rfl
  · obtain ⟨BB, a, ts, cs, n, rfl, hG, hC, h0, q⟩ := h
    have nd := sc_kept.nd
    refine ⟨_, (pss_cons (ps_expr (pe_df D_check_crowds (hr.mono (by decide)) (by rfl) (pa_cons (pv 0) pa_nil)))
    (pss_cons (ps_expr (pe_df D_check_first (hr.mono (by decide)) (by rfl) (pa_cons (pv 1) pa_nil)))
    (pss_one (ps_ret (pe_df D_kept_with (hr.mono (by decide)) (by rfl) (pa_cons (pv 0) (pa_cons (pv 1) pa_nil))))))), ?_⟩
    obtain ⟨j, rfl⟩ : ∃ j : Nat, n = j := ⟨n.toNat, by omega⟩
    refine ⟨.ref a, rfl, BB, a, ts, cs, rfl, hG, hC, fun H1 s1 => ?_⟩
    refine ⟨_, rfl, j, rfl, ?_⟩
    exact ⟨.ref a, rfl, _, rfl, BB, a, ts, cs, _, rfl, hG.same s1, hC, q _ s1⟩
end
end El
namespace El
open PySem PySem.Spec PyProof.Rows L2
/-! ### the bag of draws -/
def bagL (g : Addr) (l t f : Int) : List (L2.Key × V) := [(Sum.inr "great", .ref g), (Sum.inr "left", .int l), (Sum.inr "turn", .int t), (Sum.inr "fold", .int f)]
theorem bag_great {H : Hp} {b g : Addr} {l t f : Int} (h : H b = some (.dK (bagL g l t f))) : DGet H b (.str "great") (some (.ref g)) := DGet.k (k := Sum.inr "great") h
theorem bag_left {H : Hp} {b g : Addr} {l t f : Int} (h : H b = some (.dK (bagL g l t f))) : DGet H b (.str "left") (some (.int l)) := DGet.k (k := Sum.inr "left") h
theorem bag_turn {H : Hp} {b g : Addr} {l t f : Int} (h : H b = some (.dK (bagL g l t f))) : DGet H b (.str "turn") (some (.int t)) := DGet.k (k := Sum.inr "turn") h
theorem bag_fold {H : Hp} {b g : Addr} {l t f : Int} (h : H b = some (.dK (bagL g l t f))) : DGet H b (.str "fold") (some (.int f)) := DGet.k (k := Sum.inr "fold") h
theorem bag_putLeft {H : Hp} {b g : Addr} {l t f z : Int} (h : H b = some (.dK (bagL g l t f))) : DPut H b (.str "left") (.int z) (upd H b (.dK (bagL g z t f))) := DPut.k (k := Sum.inr "left") (v := .int z) h (by show 4 < sizeLine; decide)
theorem bag_putTurn {H : Hp} {b g : Addr} {l t f z : Int} (h : H b = some (.dK (bagL g l t f))) : DPut H b (.str "turn") (.int z) (upd H b (.dK (bagL g l z f))) := DPut.k (k := Sum.inr "turn") (v := .int z) h (by show 4 < sizeLine; decide)
def Off (t g : Addr) (b : Addr) : Prop := b ≠ t ∧ b ≠ g
theorem Kp.off {H H' : Hp} {t g p : Addr} {o : HO} (e : Kp (Off t g) H H') (h : p = t ∨ p = g) : Kp (Off t g) H (upd H' p o) := e.mut fun z => by
  rcases h with rfl | rfl
  · exact z.1 rfl
  · exact z.2 rfl
structure Bag (H : Hp) (b g : Addr) (n : Nat) : Prop where
  ne : b ≠ g
  ex : ∃ (gs : List Int) (l t f : Int), H b = some (.dK (bagL g l t f)) ∧ H g = some (.lst (gs.map V.int)) ∧ (∀ x ∈ gs, 0 ≤ x) ∧ gs.length ≤ 63 ∧ 0 ≤ l ∧ 0 ≤ t ∧ t ≤ n ∧ 0 ≤ f ∧ f < 2305843009213693951
theorem Bag.keep {H H' : Hp} {b g : Addr} {n : Nat} (h : Bag H b g n) (k : Same H H') : Bag H' b g n := by
  obtain ⟨gs, l, t, f, h1, h2, h3⟩ := h.ex
  exact ⟨h.ne, gs, l, t, f, k _ _ h1, k _ _ h2, h3⟩
theorem Bag.more {H : Hp} {b g : Addr} {n m : Nat} (h : Bag H b g n) (k : n ≤ m) : Bag H b g m := by
  obtain ⟨gs, l, t, f, h1, h2, h3, h4, h5, h6, h7, h8⟩ := h.ex
  exact ⟨h.ne, gs, l, t, f, h1, h2, h3, h4, h5, h6, by omega, h8⟩
theorem Bag.off {H : Hp} {b g : Addr} {n : Nat} (h : Bag H b g n) {p : Addr} (e : H p = none) : Off b g p := by
  obtain ⟨gs, l, t, f, h1, h2, _⟩ := h.ex
  exact ⟨no_of h1 e, no_of h2 e⟩
theorem Bag.mut {H : Hp} {b g : Addr} {n : Nat} (h : Bag H b g n) {p : Addr} {o : HO} (k : Off b g p) : Bag (upd H p o) b g n := by
  obtain ⟨gs, l, t, f, h1, h2, h3⟩ := h.ex
  exact ⟨h.ne, gs, l, t, f, by rw [upd_ne k.1.symm]; exact h1, by rw [upd_ne k.2.symm]; exact h2, h3⟩
end El
namespace El
open PySem PySem.Spec PyProof.Rows L2
section
variable {P : Program} {w : World} {K : PySem.W.Frag} {mg : Str → Option Value} {base : Heap}
abbrev s__law_bag : Stmt := topS 12
abbrev N__law_bag : List Str := ["script", "fold", "great", "cell"]
abbrev P__law_bag : List Str := ["script"]
theorem sc__law_bag : FnScope N__law_bag P__law_bag (defScope s__law_bag) := ⟨rfl, rfl, rfl, by decide +kernel, rfl, by decide +kernel, by decide +kernel⟩
def sp__law_bag (K : PySem.W.Frag) : Sp := fun vs H Q _ => ∃ (a : Addr) (ns : List Int), vs = [.ref a] ∧ SqL K H a (ns.map V.int) ∧ ns.length ≤ 63 ∧
  ∀ H' b g, Same H H' → H b = none → H g = none → Bag H' b g 0 → Q (.ref b) H'
theorem ok__law_bag (A : At K mg "_law_bag" P__law_bag s__law_bag) (B : Bi mg) : Df P w K mg base 1 "_law_bag" P__law_bag s__law_bag (sp__law_bag K) := by
  refine A.df fun f fd F => F.ok sc__law_bag (fun vs H Q E h => ?_) (fun cdv AA outer s H vs Q E hr h => ?_)
  · obtain ⟨a, _, rfl, _⟩ := h
    rfl
  · obtain ⟨a, ns, rfl, hS, hl, q⟩ := h
    have nd := sc__law_bag.nd
    refine ⟨_, (pss_cons (ps_par (i := 1) (j := 2) (by rfl) nd rfl rfl (by decide) rfl rfl (pa_cons pe_int (pa_cons (pe_lst pa_nil) pa_nil)) (by rfl))
    (pss_cons (ps_for PassesOwn.never rfl (pi_list (pv 0)) (pg_name (i := 3) nd rfl (.inl rfl)) (pss_cons (ps_set (i := 1) nd rfl (.inl rfl) (pe_op op_mod (pe_op op_add (pe_op op_mul (pv 1) pe_int) (pv 3)) pe_int)) (pss_one (ps_if (pt_cmpR op_ge (pe_callB call_abs (by rfl) B.abs (by decide +kernel) (pa_cons (pv 3) pa_nil)) (pe_op op_pow pe_int pe_int) (nomark _)) (pss_one (ps_expr (pe_bm PySem.F.plainAttrs_list PySem.F.slot_list_append PySem.F.type_list_append mt_append (pv 2) (pa_cons (pe_callB call_abs (by rfl) B.abs (by decide +kernel) (pa_cons (pv 3) pa_nil)) pa_nil)))) pss_nil))))
    (pss_one (ps_ret (pe_disp (pps_cons pe_str (pv 2) (pps_cons pe_str pe_int (pps_cons pe_str pe_int (pps_cons pe_str (pv 1) pps_nil)))) (by rfl) (by rfl) (fun z => by cases z) (by decide)))))), ?_⟩
    refine ⟨Nat.zero_le _, fun g ng => ⟨_, _, rfl, ?_⟩⟩
    refine ⟨.ref a, rfl, a, rfl, ⟨_, (same_new ng).seq hS⟩, ?_⟩
    refine for_it (walk_list (xs := ns.map V.int)) (fun i σ H2 => ∃ (c : Int) (gs : List Int) (y3 : Option V), σ = [some (.ref a), some (.int c), some (.ref g), y3] ∧ Same H H2 ∧ H2 g = some (.lst (gs.map V.int)) ∧ (∀ x ∈ gs, 0 ≤ x) ∧ gs.length ≤ i ∧ 0 ≤ c ∧ c < 2305843009213693951)
      ⟨11, [], none, rfl, same_new ng, upd_same, fun x h => absurd h (by simp), Nat.le_refl _, by decide, by decide⟩ (fun i σ H2 _ hW => ?_) (fun i x σ H2 H3 hi hW hY => ?_) (fun σ H2 hW => ?_)
    · obtain ⟨_, _, _, _, sm, _⟩ := hW
      exact sm.seq hS
    · obtain ⟨c, gs, y3, rfl, sm, eg, hp, hgl, c0, c1⟩ := hW
      obtain ⟨rfl, hx⟩ := hY
      obtain ⟨n, hx', rfl⟩ := ints_at hx
      have hil : i < 63 := by
        rw [List.length_map] at hi
        omega
      refine ⟨.int c, rfl, _, _, rfl, rfl, .inl ⟨by omega, by omega⟩, .int n, rfl, _, _, rfl, rfl, _, _, rfl, rfl, (by show (0 : Int) < 2305843009213693951; decide), ?_⟩
      have f0 : 0 ≤ (c * 1000003 + n) % 2305843009213693951 := Int.emod_nonneg _ (by decide)
      have f1 : (c * 1000003 + n) % 2305843009213693951 < 2305843009213693951 := Int.emod_lt_of_pos _ (by decide)
      refine ⟨.int n, rfl, _, rfl, _, _, rfl, rfl, ⟨by decide, by decide, by decide⟩, _, _, rfl, rfl, _, rfl, ite2 (fun e => ?_) (fun e => ?_)⟩
      · have m0 : 0 ≤ (if n < 0 then -n else n) := by split <;> omega
        refine ⟨.ref g, rfl, .inl ⟨rfl, _, SqL.of eg⟩, .int n, rfl, _, rfl, g, _, _, rfl, rfl, eg, ils (by rw [List.length_map]; omega), ?_⟩
        refine ⟨_, gs ++ [if n < 0 then -n else n], _, rfl, Same.mut sm ng, by rw [upd_same, List.map_append]; rfl, fun x hx => ?_, by rw [List.length_append, List.length_singleton]; omega, f0, f1⟩
        rcases List.mem_append.mp hx with hx | hx
        · exact hp x hx
        · rw [List.mem_singleton.mp hx]
          exact m0
      · exact ⟨_, gs, _, rfl, sm, eg, hp, Nat.le_succ_of_le hgl, f0, f1⟩
    · obtain ⟨c, gs, y3, rfl, sm, eg, hp, hgl, c0, c1⟩ := hW
      rw [List.length_map] at hgl
      refine fun b nb => ⟨.ref g, rfl, .int c, rfl, upd_same, [(Sum.inr "great", .ref g), (Sum.inr "left", .int 0), (Sum.inr "turn", .int 0), (Sum.inr "fold", .int c)], rfl, (by show 4 ≤ 15; decide), ?_⟩
      have nbg : g ≠ b := ne_of_none eg nb
      rw [upd_upd]
      exact q _ b g (sm.trans (same_new nb)) (sm.free nb) ng ⟨nbg.symm, gs, 0, 0, c, upd_same, by rw [upd_ne nbg]; exact eg, hp, by omega, by decide, by decide, by decide, c0, c1⟩
end
end El
namespace El
open PySem PySem.Spec PyProof.Rows L2
section
variable {P : Program} {w : World} {K : PySem.W.Frag} {mg : Str → Option Value} {base : Heap}
abbrev s__law_draw : Stmt := topS 13
abbrev N__law_draw : List Str := ["bag", "many", "drawn", "turn", "mixed"]
abbrev P__law_draw : List Str := ["bag", "many"]
theorem sc__law_draw : FnScope N__law_draw P__law_draw (defScope s__law_draw) := ⟨rfl, rfl, rfl, by decide +kernel, rfl, by decide +kernel, by decide +kernel⟩
def sp__law_draw : Sp := fun vs H Q _ => ∃ (b g : Addr) (n : Nat) (m : Int), vs = [.ref b, .int m] ∧ Bag H b g n ∧ n ≤ 1000000000 ∧ 0 < m ∧ m < 2 ^ 200 ∧
  ∀ H' r, Kp (Off b g) H H' → Bag H' b g (n + 1) → 0 ≤ r → r < m → Q (.int r) H'
theorem ok__law_draw (A : At K mg "_law_draw" P__law_draw s__law_draw) (B : Bi mg) : Df P w K mg base 1 "_law_draw" P__law_draw s__law_draw sp__law_draw := by
  refine A.df fun f fd F => F.ok sc__law_draw (fun vs H Q E h => ?_) (fun cdv AA outer s H vs Q E hr h => ?_)
  · obtain ⟨_, _, _, _, rfl, _⟩ := h
    rfl
  · obtain ⟨b, g, n, m, rfl, hT, hn, m0, m1, q⟩ := h
    have nd := sc__law_draw.nd
    refine ⟨_, (pss_cons (ps_if (PW.pt (pw_and (pt_cmpR op_lt (pe_dget (hu_of hr) (pv 0) pe_str (fun _ _ => rfl)) (pv 1) (nomark _)) (pw_and1 (pt_cmpR op_gt (pe_callB call_len_seq (by rfl) B.len PySem.boot_len (pa_cons (pe_dget (hu_of hr) (pv 0) pe_str (fun _ _ => rfl)) pa_nil)) pe_int (nomark _))))) (pss_one (ps_dput (hu_of hr) (pv 0) pe_str (pe_bm PySem.F.plainAttrs_list PySem.F.slot_list_pop PySem.F.type_list_pop mt_popAt (pe_dget (hu_of hr) (pv 0) pe_str (fun _ _ => rfl)) (pa_cons pe_int pa_nil)) rfl)) pss_nil)
    (pss_cons (ps_if (pt_cmpR op_ge (pe_dget (hu_of hr) (pv 0) pe_str (fun _ _ => rfl)) (pv 1) (nomark _)) (pss_cons (ps_set (i := 2) nd rfl (.inl rfl) (pe_op op_mod (pe_dget (hu_of hr) (pv 0) pe_str (fun _ _ => rfl)) (pv 1))) (pss_cons (ps_dput (hu_of hr) (pv 0) pe_str (pe_op op_fdivW (pe_dget (hu_of hr) (pv 0) pe_str (fun _ _ => rfl)) (pv 1)) rfl) (pss_one (ps_ret (pv 2))))) pss_nil)
    (pss_cons (ps_daug (hu_of hr) (pv 0) pe_str pe_int in_add (fun _ _ _ => rfl))
    (pss_cons (ps_set (i := 3) nd rfl (.inl rfl) (pe_dget (hu_of hr) (pv 0) pe_str (fun _ _ => rfl)))
    (pss_cons (ps_set (i := 4) nd rfl (.inl rfl) (pe_op op_add (pe_op op_mul (pe_op op_add (pe_dget (hu_of hr) (pv 0) pe_str (fun _ _ => rfl)) (pe_op op_mul pe_int (pv 3))) (pe_op op_pow (pe_op op_add (pv 3) pe_int) pe_int)) (pe_op op_mul pe_int (pv 3))))
    (pss_one (ps_ret (pe_op op_mod (pe_op op_fdivW (pe_op op_mod (pe_op op_pow (pe_op op_mod (pv 4) pe_int) pe_int) (pe_op op_add (pe_op op_pow pe_int pe_int) pe_int)) pe_int) (pv 1))))))))), ?_⟩
    have ne := hT.ne
    refine seq_to (fun σ H2 => σ = [some (.ref b), some (.int m), none, none, none] ∧ Kp (Off b g) H H2 ∧ Bag H2 b g n) (fun X hX => ?_) (fun σ H2 hE => ?_)
    · obtain ⟨gs, l, t, f, j1, j2, j3, j4, j5, j6, j7, j8, j9⟩ := hT.ex
      refine ⟨.ref b, rfl, b, _, rfl, bag_left j1, .int m, rfl, _, _, rfl, rfl, _, rfl, ite2 (fun ea => ?_) (fun ea => ?_)⟩
      · refine ⟨.ref b, rfl, b, _, rfl, bag_great j1, g, _, rfl, .inl (SqL.of j2), _, _, rfl, rfl, _, rfl, ite2 (fun eb => ?_) (fun eb => ?_)⟩
        · have eb : (0 : Int) < ((gs.map V.int).length : Int) := of_decide_eq_true eb
          rw [List.length_map] at eb
          cases gs with
          | nil => exact absurd eb (by decide)
          | cons x r =>
            refine ⟨.ref b, rfl, b, _, rfl, bag_great j1, .inl ⟨rfl, _, SqL.of j2⟩, g, _, 0, 0, .int x, rfl, rfl, j2, by decide, by decide, seq_ix (j := 0) (by simp), rfl, ?_⟩
            refine ⟨.ref b, rfl, b, _, rfl, bag_putLeft (by rw [upd_ne ne]; exact j1), ?_⟩
            exact hX _ _ ⟨rfl, Kp.off (Kp.off Kp.refl (.inr rfl)) (.inl rfl), ne, r, x, t, f, upd_same, by rw [upd_ne ne.symm, upd_same]; rfl, fun y hy => j3 y (List.mem_cons_of_mem _ hy), Nat.le_of_succ_le j4, j3 x List.mem_cons_self, j6, j7, j8, j9⟩
        · exact hX _ _ ⟨rfl, Kp.refl, hT⟩
      · exact iteF (hX _ _ ⟨rfl, Kp.refl, hT⟩)
    · obtain ⟨rfl, kp, hT2⟩ := hE
      obtain ⟨gs, l, t, f, j1, j2, j3, j4, j5, j6, j7, j8, j9⟩ := hT2.ex
      have g1 : CDivW l m := ⟨m0, Nat.lt_trans (log_lt m0 m1) (by decide)⟩
      refine ⟨.ref b, rfl, b, _, rfl, bag_left j1, .int m, rfl, _, _, rfl, rfl, _, rfl, ite2 (fun ea => ?_) (fun ea => ?_)⟩
      · refine ⟨.ref b, rfl, b, _, rfl, bag_left j1, .int m, rfl, _, _, rfl, rfl, m0, ?_⟩
        refine ⟨.ref b, rfl, b, _, rfl, bag_left j1, .int m, rfl, _, _, rfl, rfl, g1, .ref b, rfl, b, _, rfl, bag_putLeft j1, _, rfl, ?_⟩
        exact q _ _ (Kp.off kp (.inl rfl)) ⟨ne, gs, l / m, t, f, upd_same, by rw [upd_ne ne.symm]; exact j2, j3, j4, Int.ediv_nonneg j5 (by omega), j6, by omega, j8, j9⟩ (Int.emod_nonneg _ (by omega)) (Int.emod_lt_of_pos _ m0)
      · refine ⟨.ref b, rfl, b, _, rfl, bag_turn j1, _, _, rfl, rfl, _, bag_putTurn j1, ?_⟩
        have e1 : upd H2 b (.dK (bagL g l (t + 1) f)) b = some (.dK (bagL g l (t + 1) f)) := upd_same
        have hT3 : Bag (upd H2 b (.dK (bagL g l (t + 1) f))) b g (n + 1) := ⟨ne, gs, l, t + 1, f, e1, by rw [upd_ne ne.symm]; exact j2, j3, j4, j5, by omega, by omega, j8, j9⟩
        have k3 : Kp (Off b g) H (upd H2 b (.dK (bagL g l (t + 1) f))) := Kp.off kp (.inl rfl)
        revert e1 hT3 k3
        generalize upd H2 b (.dK (bagL g l (t + 1) f)) = H3
        intro e1 hT3 k3
        refine ⟨.ref b, rfl, b, _, rfl, bag_turn e1, ?_⟩
        refine ⟨.ref b, rfl, b, _, rfl, bag_fold e1, .int (t + 1), rfl, _, _, rfl, rfl, .inl ⟨by decide, by decide⟩, _, _, rfl, rfl, .int (t + 1), rfl, _, _, rfl, rfl, _, _, rfl, rfl, ⟨by decide, by decide, ?_⟩, _, _, rfl, rfl, .inl ⟨by omega, by omega⟩, .int (t + 1), rfl, _, _, rfl, rfl, .inl ⟨by decide, by decide⟩, _, _, rfl, rfl, ?_⟩
        · show (t + 1 + 29).natAbs < 2 ^ 64
          omega
        · refine ⟨_, rfl, _, _, rfl, rfl, (by show (0 : Int) < 2305843009213693951; decide), _, _, rfl, rfl, ⟨by decide, by decide, ?_⟩, _, _, rfl, rfl, ⟨by decide, by decide, by decide⟩, _, _, rfl, rfl, _, _, rfl, rfl, (by show (0 : Int) < 10 ^ 18 + 9; decide), _, _, rfl, rfl, ⟨by decide, by decide⟩, .int m, rfl, _, _, rfl, rfl, m0, ?_⟩
          · have f0 := Int.emod_nonneg ((f + 17 * (t + 1)) * (t + 1 + 29) ^ (2 : Int).toNat + 7919 * (t + 1)) (show (2305843009213693951 : Int) ≠ 0 by decide)
            have f1 := Int.emod_lt_of_pos ((f + 17 * (t + 1)) * (t + 1 + 29) ^ (2 : Int).toNat + 7919 * (t + 1)) (show (0 : Int) < 2305843009213693951 by decide)
            show (((f + 17 * (t + 1)) * (t + 1 + 29) ^ (2 : Int).toNat + 7919 * (t + 1)) % 2305843009213693951).natAbs < 2 ^ 64
            omega
          · exact q _ _ k3 hT3 (Int.emod_nonneg _ (by omega)) (Int.emod_lt_of_pos _ m0)
end
end El
namespace El
open PySem PySem.Spec PyProof.Rows L2
section
variable {P : Program} {w : World} {K : PySem.W.Frag} {mg : Str → Option Value} {base : Heap}
abbrev s__law_crowds : Stmt := topS 14
abbrev N__law_crowds : List Str := ["bag", "most", "found", "top", "k"]
abbrev P__law_crowds : List Str := ["bag", "most"]
theorem sc__law_crowds : FnScope N__law_crowds P__law_crowds (defScope s__law_crowds) := ⟨rfl, rfl, rfl, by decide +kernel, rfl, by decide +kernel, by decide +kernel⟩
def sp__law_crowds : Sp := fun vs H Q _ => ∃ (b g : Addr) (n most : Nat), vs = [.ref b, .int (most : Int)] ∧ Bag H b g n ∧ most ≤ 60 ∧ n ≤ 800000000 ∧
  ∀ H' o ts cs, Kp (Off b g) H H' → Bag H' b g (n + 500) → GsAt H' (fun b => H b = none) o ts cs → o ∉ ts → Crw cs → cs.length ≤ most → (∀ c ∈ cs, c.1 < 2 ^ 150 ∧ c.2 < 2 ^ 150) → Q (.ref o) H'
theorem ok__law_crowds (A : At K mg "_law_crowds" P__law_crowds s__law_crowds) (B : Bi mg) (D__law_draw : Df P w K mg base 1 "_law_draw" P__law_draw s__law_draw sp__law_draw) : Df P w K mg base 2 "_law_crowds" P__law_crowds s__law_crowds sp__law_crowds := by
  refine A.df fun f fd F => F.ok sc__law_crowds (fun vs H Q E h => ?_) (fun cdv AA outer s H vs Q E hr h => ?_)
  · obtain ⟨_, _, _, _, rfl, _⟩ := h
    rfl
  · obtain ⟨b, g, n, most, rfl, hT, hm, hn, q⟩ := h
    have nd := sc__law_crowds.nd
    refine ⟨_, (pss_cons (ps_par (i := 2) (j := 3) (by rfl) nd rfl rfl (by decide) rfl rfl (pa_cons (pe_lst pa_nil) (pa_cons (pe_ix ix_tup (pe_tup (pa_cons pe_int (pa_cons pe_int (pa_cons (pe_op op_pow pe_int pe_int) pa_nil)))) (pe_df D__law_draw (hr.mono (by decide)) (by rfl) (pa_cons (pv 0) (pa_cons pe_int pa_nil))) (fun _ _ => rfl)) pa_nil)) (by rfl))
    (pss_cons (ps_for PassesOwn.never rfl (pi_range1 (by rfl) B.range (pa_cons (pe_df D__law_draw (hr.mono (by decide)) (by rfl) (pa_cons (pv 0) (pa_cons (pe_op op_add (pv 1) pe_int) pa_nil))) pa_nil)) (pg_name (i := 4) nd rfl (.inl rfl)) (pss_one (ps_expr (pe_bm PySem.F.plainAttrs_list PySem.F.slot_list_append PySem.F.type_list_append mt_append (pv 2) (pa_cons (pe_tup (pa_cons (pe_op op_add pe_int (pe_df D__law_draw (hr.mono (by decide)) (by rfl) (pa_cons (pv 0) (pa_cons (pv 3) pa_nil)))) (pa_cons (pe_ix ix_tup (pe_tup (pa_cons (pe_df D__law_draw (hr.mono (by decide)) (by rfl) (pa_cons (pv 0) (pa_cons pe_int pa_nil))) (pa_cons (pe_df D__law_draw (hr.mono (by decide)) (by rfl) (pa_cons (pv 0) (pa_cons (pe_op op_mul pe_int (pv 3)) pa_nil))) pa_nil))) (pe_df D__law_draw (hr.mono (by decide)) (by rfl) (pa_cons (pv 0) (pa_cons pe_int pa_nil))) (fun _ _ => rfl)) pa_nil))) pa_nil)))))
    (pss_one (ps_ret (pv 2))))), ?_⟩
    refine ⟨Nat.zero_le _, fun o no => ?_⟩
    have oo : Off b g o := hT.off no
    refine ⟨_, _, rfl, rfl, ⟨by decide, by decide, by decide⟩, (by show 3 ≤ sizeLine; decide), fun p np => ?_⟩
    have op : Off b g p := (hT.mut oo).off np
    refine ⟨.ref b, rfl, b, g, n, 3, rfl, (hT.mut oo).mut op, by omega, by decide, by decide, fun H1 r1 k1 T1 a1 b1 => ?_⟩
    obtain ⟨top, hv, t0, t1⟩ := pick3 (P := fun x => 0 < x ∧ x < 2 ^ 100) (a := 4) (b := 12) (c := 10 ^ Int.toNat 29) a1 b1 ⟨by decide, by decide⟩ ⟨by decide, by decide⟩ ⟨by decide, by decide⟩
    refine ⟨p, _, _, _, rfl, rfl, SqT.of (k1 _ _ op upd_same), hv, _, _, rfl, ?_⟩
    have kA : Kp (Off b g) H H1 := ((Kp.of (same_new no)).trans (Kp.of (same_new np))).trans k1
    have eo : H1 o = some (.lst []) := k1 _ _ oo (same_new np _ _ upd_same)
    refine ⟨.ref b, rfl, .int (most : Int), rfl, _, _, rfl, rfl, b, g, n + 1, _, rfl, T1, by omega, by omega, ?_, fun H2 r2 k2 T2 a2 b2 => ?_⟩
    · exact Int.lt_of_le_of_lt (show (most : Int) + 1 ≤ 61 by omega) (by decide)
    refine ⟨_, rfl, by omega, by omega, ?_⟩
    have offD : ∀ z, H z = none → Off b g z := fun z hz => hT.off hz
    refine for_it walk_range (fun i σ H5 => ∃ ts cs y4, σ = [some (.ref b), some (.int (most : Int)), some (.ref o), some (.int top), y4] ∧ Kp (Off b g) H H5 ∧ Bag H5 b g (n + 2 + 4 * i) ∧ GsAt H5 (fun b => H b = none) o ts cs ∧ o ∉ ts ∧ cs.length = i ∧ Crw cs ∧ ∀ c ∈ cs, c.1 < 2 ^ 150 ∧ c.2 < 2 ^ 150)
      ⟨[], [], none, rfl, kA.trans k2, T2, ⟨k2 _ _ oo eo, no, rfl, fun i t g e _ => by simp at e, fun t m => by simp at m⟩, by simp, rfl, fun c m => by simp at m, fun c m => by simp at m⟩ (fun _ _ _ _ _ => trivial) (fun i x σ H5 H6 hi hW hY => ?_) (fun σ H5 hW => ?_)
    · obtain ⟨ts, cs, y4, rfl, kp, T5, hG, hno, hcl, hC, hb⟩ := hW
      obtain ⟨rfl, rfl⟩ := hY
      have hi60 : i < 61 := by omega
      refine ⟨.ref o, rfl, .inl ⟨rfl, _, hG.seq⟩, ?_⟩
      refine ⟨.ref b, rfl, .int top, rfl, b, g, _, top, rfl, T5, by omega, t0, Int.lt_trans t1 (by decide), fun H7 s1 k7 T7 a7 b7 => ⟨_, _, rfl, rfl, ?_⟩⟩
      refine ⟨.ref b, rfl, b, g, _, 3, rfl, T7, by omega, by decide, by decide, fun H8 s2 k8 T8 a8 b8 => ?_⟩
      have t2 : (2 : Int) * top < 2 ^ 101 := Int.lt_of_lt_of_le (show (2 : Int) * top < 2 * 2 ^ 100 by omega) (by decide)
      refine ⟨.ref b, rfl, .int top, rfl, _, _, rfl, rfl, .inl ⟨by decide, by decide⟩, b, g, _, _, rfl, T8, by omega, by omega, Int.lt_trans t2 (by decide), fun H9 s3 k9 T9 a9 b9 => ?_⟩
      refine ⟨(by show 2 ≤ sizeLine; decide), fun u nu => ?_⟩
      have ou : Off b g u := T9.off nu
      refine ⟨.ref b, rfl, b, g, _, 2, rfl, T9.mut ou, by omega, by decide, by decide, fun H10 s4 k10 T10 a10 b10 => ?_⟩
      obtain ⟨bears, hv2, p0, p1⟩ := pick2 (P := fun x => 0 ≤ x ∧ x < 2 ^ 150) (a := s2) (b := s3) a10 b10 ⟨a8, Int.lt_trans b8 (by decide)⟩ ⟨a9, Int.lt_trans b9 (Int.lt_trans t2 (by decide))⟩
      refine ⟨u, _, _, _, rfl, rfl, SqT.of (k10 _ _ ou upd_same), hv2, (by show 2 ≤ sizeLine; decide), fun v nv => ?_⟩
      have ov : Off b g v := T10.off nv
      have k6 : Kp (Off b g) H6 H10 := (((k7.trans k8).trans k9).trans (Kp.of (same_new nu))).trans k10
      have kp10 : Kp (Off b g) H H10 := kp.trans k6
      have nv0 : H v = none := kp10.none ov nv
      have hG10 : GsAt H10 (fun b => H b = none) o ts cs := hG.keep (fun z x hz e => k6 z x (offD z hz) e)
      have hG11 := hG10.same (same_new (o := .tup [.int (1 + s1), .int bears]) nv)
      refine ⟨o, _, _, rfl, rfl, hG11.top, ils (by rw [List.length_map, hG.len]; omega), ?_⟩
      have hP := hG11.push hno (q := v) (g := (1 + s1, bears)) upd_same nv0
      refine ⟨ts ++ [v], cs ++ [(1 + s1, bears)], _, rfl, (kp10.new nv).mutF no, ((T10.mut ov).mut oo).more (by omega), hP, ?_, ?_, ?_, ?_⟩
      · intro m
        rcases List.mem_append.mp m with m | m
        · exact hno m
        · rw [List.mem_singleton.mp m] at hG10
          have z := hG10.top
          rw [nv] at z
          cases z
      · rw [List.length_append, hcl]
        rfl
      · exact hC.cat fun c m => by
          rw [List.mem_singleton.mp m]
          exact ⟨by show 1 ≤ 1 + s1; omega, p0⟩
      · intro c m
        rcases List.mem_append.mp m with m | m
        · exact hb c m
        · rw [List.mem_singleton.mp m]
          exact ⟨Int.lt_of_le_of_lt (show 1 + s1 ≤ 2 ^ 100 by omega) (by decide), p1⟩
    · obtain ⟨ts, cs, y4, rfl, kp, T5, hG, hno, hcl, hC, hb⟩ := hW
      exact ⟨.ref o, rfl, q H5 o ts cs kp (T5.more (by omega)) hG hno hC (by omega) hb⟩
end
end El
namespace El
open PySem PySem.Spec PyProof.Rows L2
section
variable {P : Program} {w : World} {K : PySem.W.Frag} {mg : Str → Option Value} {base : Heap}
abbrev s_law : Stmt := topS 16
abbrev N_law : List Str := ["script", "bag", "turn", "one", "other", "times", "near", "about", "elders", "here", "more", "at", "count", "bears", "part", "parted"]
abbrev P_law : List Str := ["script"]
theorem sc_law : FnScope N_law P_law (defScope s_law) := ⟨rfl, rfl, rfl, by decide +kernel, rfl, by decide +kernel, by decide +kernel⟩
def sp_law (K : PySem.W.Frag) : Sp := fun vs H Q _ => ∃ (a : Addr) (ns : List Int), vs = [.ref a] ∧ SqL K H a (ns.map V.int) ∧ ns.length ≤ 63 ∧ ∀ H', Q (.bl true) H'
theorem ok_law (A : At K mg "law" P_law s_law) (B : Bi mg)
    (D__law_bag : Df P w K mg base 1 "_law_bag" P__law_bag s__law_bag (sp__law_bag K)) (D__law_draw : Df P w K mg base 1 "_law_draw" P__law_draw s__law_draw sp__law_draw)
    (D__law_crowds : Df P w K mg base 2 "_law_crowds" P__law_crowds s__law_crowds sp__law_crowds)
    (D_kept : Df P w K mg base 3 "kept" P_kept s_kept sp_kept) : Df P w K mg base 4 "law" P_law s_law (sp_law K) := by
  refine A.df fun f fd F => F.ok sc_law (fun vs H Q E h => ?_) (fun cdv AA outer s H vs Q E hr h => ?_)
  · obtain ⟨a, _, rfl, _⟩ := h
    rfl
  · obtain ⟨a, ns, rfl, hS, hl, q⟩ := h
    have nd := sc_law.nd
    refine ⟨_, (pss_cons (ps_set (i := 1) nd rfl (.inl rfl) (pe_df D__law_bag (hr.mono (by decide)) (by rfl) (pa_cons (pv 0) pa_nil)))
    (pss_cons (ps_if (pt_cmpR op_ne (pe_df D_kept (hr.mono (by decide)) (by rfl) (pa_cons (pe_lst pa_nil) (pa_cons pe_int pa_nil))) pe_int (nomark _)) (pss_one (ps_ret pe_bl)) pss_nil)
    (pss_cons (ps_for PassesOwn.never rfl (pi_range1 (by rfl) B.range (pa_cons (pe_op op_add pe_int (pe_callB (call_min2 rfl) (by rfl) B.min (by decide +kernel) (pa_cons pe_int (pa_cons (pe_callB call_len_seq (by rfl) B.len PySem.boot_len (pa_cons (pv 0) pa_nil)) pa_nil)))) pa_nil)) (pg_name (i := 2) nd rfl (.inl rfl)) (pss_cons (ps_par (i := 3) (j := 4) (by rfl) nd rfl rfl (by decide) rfl rfl (pa_cons (pe_df D__law_crowds (hr.mono (by decide)) (by rfl) (pa_cons (pv 1) (pa_cons pe_int pa_nil))) (pa_cons (pe_df D__law_crowds (hr.mono (by decide)) (by rfl) (pa_cons (pv 1) (pa_cons pe_int pa_nil))) pa_nil)) (by rfl)) (pss_one (ps_for PassesOwn.never rfl (pi_range1 (by rfl) B.range (pa_cons pe_int pa_nil)) (pg_name (i := 5) nd rfl (.inl rfl)) (pss_cons (ps_set (i := 6) nd rfl (.inl rfl) (pe_ix ix_list (pe_op op_cat (pe_lst (pa_cons pe_int pa_nil)) (pe_lc (own := [("count", 12), ("bears", 13)]) (tt := tYes) rfl nd (pi_list (pe_op op_cat (pv 3) (pv 4))) (blkOk_by (N := N_law) (sc := defScope s_law) (by decide +kernel)) (fun _ _ _ _ _ => (pgTupK K 2 (by rfl) (pgs_cons (pg_name (i := 12) nd rfl (.inl rfl)) (pgs_cons (pg_name (i := 13) nd rfl (.inl rfl)) pgs_nil)))) (fun _ _ _ _ _ => pts_nil) (fun _ _ _ _ _ => (pv 13)))) (pe_df D__law_draw (hr.mono (by decide)) (by rfl) (pa_cons (pv 1) (pa_cons (pe_op op_add pe_int (pe_callB call_len_seq (by rfl) B.len PySem.boot_len (pa_cons (pe_op op_cat (pv 3) (pv 4)) pa_nil))) pa_nil))) (fun _ _ => rfl))) (pss_cons (ps_set (i := 7) nd rfl (.inl rfl) (pe_callB (call_max2 rfl) (by rfl) B.max (by decide +kernel) (pa_cons pe_int (pa_cons (pe_op op_sub (pe_op op_add (pv 6) (pe_df D__law_draw (hr.mono (by decide)) (by rfl) (pa_cons (pv 1) (pa_cons pe_int pa_nil)))) pe_int) pa_nil)))) (pss_cons (ps_set (i := 8) nd rfl (.inl rfl) (pe_ix ix_tup (pe_tup (pa_cons (pe_df D__law_draw (hr.mono (by decide)) (by rfl) (pa_cons (pv 1) (pa_cons pe_int pa_nil))) (pa_cons (pv 7) (pa_cons (pe_df D__law_draw (hr.mono (by decide)) (by rfl) (pa_cons (pv 1) (pa_cons (pe_op op_pow pe_int pe_int) pa_nil))) pa_nil)))) (pe_df D__law_draw (hr.mono (by decide)) (by rfl) (pa_cons (pv 1) (pa_cons pe_int pa_nil))) (fun _ _ => rfl))) (pss_cons (ps_par (i := 9) (j := 10) (by rfl) nd rfl rfl (by decide) rfl rfl (pa_cons (pe_df D_kept (hr.mono (by decide)) (by rfl) (pa_cons (pe_op op_cat (pv 3) (pv 4)) (pa_cons (pv 8) pa_nil))) (pa_cons (pe_df D_kept (hr.mono (by decide)) (by rfl) (pa_cons (pe_op op_cat (pv 3) (pv 4)) (pa_cons (pe_op op_add (pv 8) pe_int) pa_nil))) pa_nil)) (by rfl)) (pss_cons (ps_if (PW.pt (pw_or (pt_cmpR op_notIn_seq (pe_op op_sub (pv 10) (pv 9)) (pe_tup (pa_cons pe_int (pa_cons pe_int pa_nil))) (by rfl)) (pw_or1 (pt_cmpR op_lt (pv 9) (pv 8) (nomark _))))) (pss_one (ps_ret pe_bl)) pss_nil) (pss_cons (ps_if (pt_cmpR op_ne (pe_df D_kept (hr.mono (by decide)) (by rfl) (pa_cons (pv 4) (pa_cons (pe_df D_kept (hr.mono (by decide)) (by rfl) (pa_cons (pv 3) (pa_cons (pv 8) pa_nil))) pa_nil))) (pv 9) (nomark _)) (pss_one (ps_ret pe_bl)) pss_nil) (pss_one (ps_if (pt_cmpR op_gt (pe_callB call_len_seq (by rfl) B.len PySem.boot_len (pa_cons (pv 3) pa_nil)) pe_int (nomark _)) (pss_cons (ps_set (i := 11) nd rfl (.inl rfl) (pe_df D__law_draw (hr.mono (by decide)) (by rfl) (pa_cons (pv 1) (pa_cons (pe_callB call_len_seq (by rfl) B.len PySem.boot_len (pa_cons (pv 3) pa_nil)) pa_nil)))) (pss_cons (ps_asg (pe_ix ix_list (pv 3) (pv 11) (fun _ _ => rfl)) (pg_tup (by rfl) (pgs_cons (pg_name (i := 12) nd rfl (.inl rfl)) (pgs_cons (pg_name (i := 13) nd rfl (.inl rfl)) pgs_nil)))) (pss_one (ps_if (pt_cmpR op_gt (pv 12) pe_int (nomark _)) (pss_cons (ps_set (i := 14) nd rfl (.inl rfl) (pe_op op_add pe_int (pe_df D__law_draw (hr.mono (by decide)) (by rfl) (pa_cons (pv 1) (pa_cons (pe_op op_sub (pv 12) pe_int) pa_nil))))) (pss_cons (ps_set (i := 15) nd rfl (.inl rfl) (pe_op op_cat (pe_op op_cat (pe_slice sl_list (pv 3) po_none (po_some (pv 11))) (pe_lst (pa_cons (pe_tup (pa_cons (pv 14) (pa_cons (pv 13) pa_nil))) (pa_cons (pe_tup (pa_cons (pe_op op_sub (pv 12) (pv 14)) (pa_cons (pv 13) pa_nil))) pa_nil)))) (pe_slice sl_list (pv 3) (po_some (pe_op op_add (pv 11) pe_int)) po_none))) (pss_one (ps_if (pt_cmpR op_ne (pe_df D_kept (hr.mono (by decide)) (by rfl) (pa_cons (pe_op op_cat (pv 15) (pv 4)) (pa_cons (pv 8) pa_nil))) (pv 9) (nomark _)) (pss_one (ps_ret pe_bl)) pss_nil)))) pss_nil)))) pss_nil))))))))))))
    (pss_one (ps_ret pe_bl))))), ?_⟩
    refine ⟨.ref a, rfl, a, ns, rfl, hS, hl, fun H1 b g s1 nb ng hT => ?_⟩
    -- kept([], 7)
    refine ⟨Nat.zero_le _, fun e ne => ?_⟩
    refine ⟨(fun _ => True), e, [], [], 7, rfl, Prs.nil.gs upd_same, (fun c m => by simp at m), by decide, fun H2 s2 => ?_⟩
    refine ⟨rfl, _, rfl, iteX (nd_self _) ?_⟩
    have s12 : Same H1 H2 := (same_new ne).trans s2
    have hT := hT.keep s12
    have s1 := s1.trans s12
    refine ⟨.ref a, rfl, a, _, rfl, .inl (s1.seq hS), _, _, rfl, _, _, rfl, rfl, _, rfl, ?_, ?_, ?_⟩
    · split <;> omega
    · split <;> omega
    have hlaps : ((2 : Int) + (if ((ns.map V.int).length : Int) < 4 then ((ns.map V.int).length : Int) else 4)).toNat ≤ 6 := by
      split <;> omega
    refine for_it walk_range (fun i σ H2 => ∃ y2 y3 y4 y5 y6 y7 y8 y9 y10 y11 y12 y13 y14 y15, σ = [some (.ref a), some (.ref b), y2, y3, y4, y5, y6, y7, y8, y9, y10, y11, y12, y13, y14, y15] ∧ Bag H2 b g (100000 * i)) ⟨_, _, _, _, _, _, _, _, _, _, _, _, _, _, rfl, hT⟩ (fun _ _ _ _ _ => trivial) (fun i x σ H2 H3 hi hW hY => ?_) (fun σ H2 hW => q _)
    obtain ⟨y2, y3, y4, y5, y6, y7, y8, y9, y10, y11, y12, y13, y14, y15, rfl, T2⟩ := hW
    obtain ⟨rfl, rfl⟩ := hY
    have hi11 : i ≤ 10 := by omega
    -- one, other
    refine ⟨.ref b, rfl, b, g, _, 8, rfl, T2, by decide, by omega, fun H4 o1 ts1 cs1 k4 T4 hG1 hno1 hC1 hl1 hb1 => ?_⟩
    have hG1 : GsAt H4 (Off b g) o1 ts1 cs1 := hG1.weaken fun z hz => T2.off hz
    refine ⟨.ref b, rfl, b, g, _, 8, rfl, T4, by decide, by omega, fun H5 o2 ts2 cs2 k5 T5 hG2 hno2 hC2 hl2 hb2 => ?_⟩
    have hG2 : GsAt H5 (Off b g) o2 ts2 cs2 := hG2.weaken fun z hz => T4.off hz
    have hG1 := hG1.keep k5
    refine ⟨_, _, rfl, ?_⟩
    have hCC := hC1.cat hC2
    have hbb : ∀ c ∈ cs1 ++ cs2, c.1 < 2 ^ 150 ∧ c.2 < 2 ^ 150 := fun c m => (List.mem_append.mp m).elim (hb1 c) (hb2 c)
    -- four times
    refine ⟨_, rfl, by decide, by decide, ?_⟩
    refine for_it walk_range (fun j σ H2 => ∃ y5 y6 y7 y8 y9 y10 y11 y12 y13 y14 y15, σ = [some (.ref a), some (.ref b), some (.int (0 + (i : Int))), some (.ref o1), some (.ref o2), y5, y6, y7, y8, y9, y10, y11, y12, y13, y14, y15] ∧ Kp (Off b g) H5 H2 ∧ Bag H2 b g (100000 * i + 1100 + 100 * j)) ⟨_, _, _, _, _, _, _, _, _, _, _, rfl, Kp.refl, T5.more (by omega)⟩ (fun _ _ _ _ _ => trivial) (fun j x σ H7 H8 hj hW hY => ?_) (fun σ H7 hW => ?_)
    · obtain ⟨y5, y6, y7, y8, y9, y10, y11, y12, y13, y14, y15, rfl, kp, T7⟩ := hW
      obtain ⟨rfl, rfl⟩ := hY
      have hj4 : j < 4 := hj
      have G1 := hG1.keep kp
      have G2 := hG2.keep kp
      have hll : (ts1.map V.ref).length + (ts2.map V.ref).length ≤ sizeLine := ile (by rw [List.length_map, List.length_map, hG1.len, hG2.len]; omega)
      -- near
      refine ⟨(by show 1 ≤ sizeLine; decide), fun z nz => ?_⟩
      have sz := same_new (o := .lst [.int 0]) nz
      refine ⟨.ref o1, rfl, .ref o2, rfl, o1, o2, _, _, rfl, rfl, (G1.same sz).top, (G2.same sz).top, hll, fun c nc => ?_⟩
      have sc := same_new (o := .lst (ts1.map V.ref ++ ts2.map V.ref)) nc
      have ez : upd (upd H8 z (.lst [.int 0])) c (.lst (ts1.map V.ref ++ ts2.map V.ref)) z = some (.lst [.int 0]) := sc _ _ upd_same
      have s9 : Same H8 (upd (upd H8 z (.lst [.int 0])) c (.lst (ts1.map V.ref ++ ts2.map V.ref))) := sz.trans sc
      have GC := ((G1.same s9).pr.cat (G2.same s9).pr).gs (a := c) (by rw [upd_same, List.map_append])
      revert ez s9 GC
      generalize upd (upd H8 z (.lst [.int 0])) c (.lst (ts1.map V.ref ++ ts2.map V.ref)) = H9
      intro ez s9 GC
      refine ⟨c, rfl, ⟨_, GC.seq⟩, fun D nD => ?_⟩
      refine lc_prs (fun c => c.2) GC nD (by rw [List.length_append]; omega) (fun c H' _ _ Q h => ⟨_, rfl, h⟩) (fun _ => rfl) (fun H10 s10 e10 => ?_)
      refine ⟨z, D, _, _, rfl, rfl, s10 _ _ ez, e10, ile (by rw [List.length_map, List.length_map, List.length_append]; show 1 + (cs1.length + cs2.length) ≤ 100000; omega), fun c' nc' => ?_⟩
      have sc' := same_new (o := .lst ([V.int 0] ++ ((cs1 ++ cs2).map fun c => c.2).map V.int)) nc'
      have s11 : Same H8 (upd H10 c' (.lst ([V.int 0] ++ ((cs1 ++ cs2).map fun c => c.2).map V.int))) := s9.trans (s10.trans sc')
      have oc' : Off b g c' := (T7.keep (s9.trans s10)).off nc'
      have ec' : upd H10 c' (.lst ([V.int 0] ++ ((cs1 ++ cs2).map fun c => c.2).map V.int)) c' = some (.lst ([V.int 0] ++ ((cs1 ++ cs2).map fun c => c.2).map V.int)) := upd_same
      revert s11 ec'
      generalize upd H10 c' (.lst ([V.int 0] ++ ((cs1 ++ cs2).map fun c => c.2).map V.int)) = H11
      intro s11 ec'
      refine ⟨.ref b, rfl, .ref o1, rfl, .ref o2, rfl, o1, o2, _, _, rfl, rfl, (G1.same s11).top, (G2.same s11).top, hll, fun c2 nc2 => ?_⟩
      have s12 := s11.trans (same_new (o := .lst (ts1.map V.ref ++ ts2.map V.ref)) nc2)
      have T12 := T7.keep s12
      refine ⟨c2, _, rfl, .inl (SqL.of upd_same), _, _, rfl, rfl, b, g, _, _, rfl, T12, by omega, by omega, ?_, fun H13 r13 k13 T13 a13 b13 => ?_⟩
      · rw [List.length_append, List.length_map, List.length_map, hG1.len, hG2.len]
        exact Int.lt_of_le_of_lt (show 1 + ((cs1.length + cs2.length : Nat) : Int) ≤ 61 by omega) (by decide)
      rw [List.length_append, List.length_map, List.length_map, hG1.len, hG2.len] at b13
      obtain ⟨near, hv, p0, p1⟩ := pickL (P := fun x => 0 ≤ x ∧ x < 2 ^ 150) (L := 0 :: (cs1 ++ cs2).map fun c => c.2) (r := r13) a13 (by rw [List.length_cons, List.length_map, List.length_append]; omega) (fun x m => by
        rcases List.mem_cons.mp m with rfl | m
        · exact ⟨by decide, by decide⟩
        · obtain ⟨c, mc, rfl⟩ := List.mem_map.mp m
          exact ⟨(hCC c mc).2, (hbb c mc).2⟩)
      refine ⟨c', _, _, _, rfl, rfl, SqL.of (k13 _ _ oc' (same_new nc2 _ _ ec')), hv, ?_⟩
      have kp13 : Kp (Off b g) H5 H13 := kp.trans ((Kp.of s12).trans k13)
      -- about
      refine ⟨_, rfl, .ref b, rfl, b, g, _, 5, rfl, T13, by omega, by decide, by decide, fun H14 r14 k14 T14 a14 b14 => ?_⟩
      refine ⟨_, _, rfl, rfl, _, _, rfl, rfl, _, _, rfl, ?_⟩
      obtain ⟨about, ha, a0, a1⟩ : ∃ x : Int, (if near + r14 - 2 > 0 then near + r14 - 2 else 0) = x ∧ 0 ≤ x ∧ x < 2 ^ 199 := by
        refine ⟨_, rfl, by split <;> omega, ?_⟩
        refine Int.lt_of_le_of_lt (show _ ≤ (2 : Int) ^ 150 + 5 by split <;> omega) (by decide)
      rw [ha]
      -- elders
      refine ⟨.ref b, rfl, b, g, _, 9, rfl, T14, by omega, by decide, by decide, fun H15 r15 k15 T15 a15 b15 => ?_⟩
      refine ⟨.int about, rfl, .ref b, rfl, _, _, rfl, rfl, ⟨by decide, by decide, by decide⟩, b, g, _, _, rfl, T15, by omega, by decide, by decide, fun H16 r16 k16 T16 a16 b16 => ?_⟩
      refine ⟨(by show 3 ≤ sizeLine; decide), fun u nu => ?_⟩
      have ou : Off b g u := T16.off nu
      refine ⟨.ref b, rfl, b, g, _, 3, rfl, T16.mut ou, by omega, by decide, by decide, fun H17 r17 k17 T17 a17 b17 => ?_⟩
      obtain ⟨elders, hv, e0, e1⟩ := pick3 (P := fun x => 0 ≤ x ∧ x < 2 ^ 199) (a := r15) (b := about) (c := r16) a17 b17 ⟨a15, Int.lt_trans b15 (by decide)⟩ ⟨a0, a1⟩ ⟨a16, Int.lt_trans b16 (by decide)⟩
      refine ⟨u, _, _, _, rfl, rfl, SqT.of (k17 _ _ ou upd_same), hv, ?_⟩
      have kp17 : Kp (Off b g) H5 H17 := (((kp13.trans k14).trans k15).trans k16).trans ((Kp.of (same_new nu)).trans k17)
      have G1 := hG1.keep kp17
      have G2 := hG2.keep kp17
      -- here, more
      refine ⟨.ref o1, rfl, .ref o2, rfl, o1, o2, _, _, rfl, rfl, G1.top, G2.top, hll, fun c3 n3 => ?_⟩
      have s18 := same_new (o := .lst (ts1.map V.ref ++ ts2.map V.ref)) n3
      have GC := ((G1.same s18).pr.cat (G2.same s18).pr).gs (a := c3) (by rw [upd_same, List.map_append])
      refine ⟨.int elders, rfl, _, c3, _, _, elders, rfl, GC, hCC, e0, fun H19 s19 => ?_⟩
      have s19 := s18.trans s19
      refine ⟨.ref o1, rfl, .ref o2, rfl, o1, o2, _, _, rfl, rfl, (G1.same s19).top, (G2.same s19).top, hll, fun c4 n4 => ?_⟩
      have s20 := s19.trans (same_new (o := .lst (ts1.map V.ref ++ ts2.map V.ref)) n4)
      have GC := ((G1.same s20).pr.cat (G2.same s20).pr).gs (a := c4) (by rw [upd_same, List.map_append])
      refine ⟨_, rfl, _, _, rfl, rfl, _, c4, _, _, elders + 1, rfl, GC, hCC, by omega, fun H21 s21 => ⟨_, _, rfl, ?_⟩⟩
      have s21 := s20.trans s21
      have h1 := stay_one hCC elders (elders + 1) (.inr rfl)
      have h2 := stay_ge hCC elders
      have hcat : stay (cs1 ++ cs2) elders = stay cs2 (stay cs1 elders) := stay_cat _ _ _
      revert h1 h2 hcat
      generalize stay (cs1 ++ cs2) (elders + 1) = more
      generalize stay (cs1 ++ cs2) elders = here
      intro h1 h2 hcat
      refine ⟨_, rfl, _, rfl, _, _, rfl, rfl, (by show 2 ≤ sizeLine; decide), fun u5 n5 => ?_⟩
      refine ⟨u5, _, rfl, .inr (SqT.of upd_same), rfl, rfl, _, rfl, ?_⟩
      have s22 := s21.trans (same_new (o := .tup [.int 0, .int 1]) n5)
      have kp22 := kp17.trans (Kp.of s22)
      have T22 := T17.keep s22
      have hin : inV (.int (more - here)) [V.int 0, .int 1] = true := by
        show inV (.int (more - here)) (([0, 1] : List Int).map V.int) = true
        rw [inV_ints, decide_eq_true]
        rcases h1 with h1 | h1
        · rw [show more - here = 0 by omega]; simp
        · rw [show more - here = 1 by omega]; simp
      refine iteX (by show (!inV (.int (more - here)) [V.int 0, .int 1]) = false; rw [hin]; rfl) ?_
      refine ⟨_, rfl, _, rfl, _, _, rfl, rfl, _, rfl, iteX (decide_eq_false (by omega)) ?_⟩
      have G1 := G1.same s22
      have G2 := G2.same s22
      revert kp22 T22 G1 G2
      generalize upd H21 u5 (.tup [.int 0, .int 1]) = H22
      intro kp22 T22 G1 G2
      -- kept(other, kept(one, elders))
      refine ⟨.ref o2, rfl, .ref o1, rfl, .int elders, rfl, _, o1, _, _, elders, rfl, G1, hC1, e0, fun H23 s23 => ?_⟩
      refine ⟨_, o2, _, _, stay cs1 elders, rfl, G2.same s23, hC2, Int.le_trans e0 (stay_ge hC1 _), fun H24 s24 => ?_⟩
      refine ⟨_, rfl, rfl, _, rfl, iteX (by rw [← hcat]; exact nd_self _) ?_⟩
      have s24 := s23.trans s24
      have G1 := G1.same s24
      have G2 := G2.same s24
      have kp24 := kp22.trans (Kp.of s24)
      have T24 := T22.keep s24
      -- one parted
      refine ⟨.ref o1, rfl, o1, _, rfl, .inl G1.seq, _, _, rfl, rfl, _, rfl, ite2 (fun el => ?_) (fun el => ?_)⟩
      · have el := of_decide_eq_true el
        rw [List.length_map, hG1.len] at el
        refine ⟨.ref b, rfl, .ref o1, rfl, o1, _, rfl, .inl G1.seq, b, g, _, _, rfl, T24, by omega, by rw [List.length_map, hG1.len]; exact el, ?_, fun H25 r25 k25 T25 a25 b25 => ?_⟩
        · rw [List.length_map, hG1.len]
          exact Int.lt_of_le_of_lt (show (cs1.length : Int) ≤ 61 by omega) (by decide)
        rw [List.length_map, hG1.len] at b25
        have kp25 := kp24.trans k25
        have G1 := hG1.keep kp25
        have G2 := hG2.keep kp25
        obtain ⟨at_, rfl⟩ : ∃ k : Nat, r25 = k := ⟨r25.toNat, by omega⟩
        obtain ⟨c, ec⟩ := at_some (show at_ < cs1.length by omega)
        obtain ⟨t, et1, et⟩ := G1.at_ ec
        have mc := List.mem_of_getElem? ec
        refine ⟨.ref o1, rfl, _, rfl, o1, _, _, _, rfl, rfl, G1.seq, atI_nat et1, t, _, rfl, SqT.of et, rfl, .int c.1, _, rfl, .int c.2, _, rfl, rfl, ?_⟩
        refine ⟨_, rfl, _, _, rfl, rfl, _, rfl, ite2 (fun ep => ?_) (fun ep => ?_)⟩
        · have ep := of_decide_eq_true ep
          refine ⟨.ref b, rfl, _, rfl, _, _, rfl, rfl, b, g, _, _, rfl, T25, by omega, by omega, Int.lt_trans (show c.1 - 1 < 2 ^ 150 by have := (hb1 c mc).1; omega) (by decide), fun H26 r26 k26 T26 a26 b26 => ⟨_, _, rfl, rfl, ?_⟩⟩
          have kp26 := kp25.trans k26
          have G1 := hG1.keep kp26
          have G2 := hG2.keep kp26
          -- parted
          refine ⟨.ref o1, rfl, _, rfl, _, rfl, o1, _, rfl, G1.seq, fun p np => ?_⟩
          rw [cut_to, ← List.map_take]
          have sp := same_new (o := .lst ((ts1.take at_).map V.ref)) np
          refine ⟨_, rfl, _, rfl, (by show 2 ≤ sizeLine; decide), fun u1 nu1 => ?_⟩
          have su1 := same_new (o := .tup [.int (1 + r26), .int c.2]) nu1
          refine ⟨_, rfl, _, rfl, _, _, rfl, rfl, _, rfl, (by show 2 ≤ sizeLine; decide), fun u2 nu2 => ?_⟩
          have su2 := same_new (o := .tup [.int (c.1 - (1 + r26)), .int c.2]) nu2
          refine ⟨(by show 2 ≤ sizeLine; decide), fun l nl => ?_⟩
          have sl := same_new (o := .lst [.ref u1, .ref u2]) nl
          have ep1 := sl _ _ (su2 _ _ (su1 _ _ (upd_same (H := H26) (a := p) (o := .lst ((ts1.take at_).map V.ref)))))
          have eu1 := sl _ _ (su2 _ _ (upd_same (H := upd H26 p (.lst ((ts1.take at_).map V.ref))) (a := u1) (o := .tup [.int (1 + r26), .int c.2])))
          have eu2 := sl _ _ (upd_same (H := upd (upd H26 p (.lst ((ts1.take at_).map V.ref))) u1 (.tup [.int (1 + r26), .int c.2])) (a := u2) (o := .tup [.int (c.1 - (1 + r26)), .int c.2]))
          have el1 := upd_same (H := upd (upd (upd H26 p (.lst ((ts1.take at_).map V.ref))) u1 (.tup [.int (1 + r26), .int c.2])) u2 (.tup [.int (c.1 - (1 + r26)), .int c.2])) (a := l) (o := .lst [.ref u1, .ref u2])
          have s27 := sp.trans (su1.trans (su2.trans sl))
          revert ep1 eu1 eu2 el1 s27
          generalize upd (upd (upd (upd H26 p (.lst ((ts1.take at_).map V.ref))) u1 (.tup [.int (1 + r26), .int c.2])) u2 (.tup [.int (c.1 - (1 + r26)), .int c.2])) l (.lst [.ref u1, .ref u2]) = H27
          intro ep1 eu1 eu2 el1 s27
          refine ⟨p, l, _, _, rfl, rfl, ep1, el1, ile (by rw [List.length_map, List.length_take]; show _ + 2 ≤ 100000; omega), fun c5 n5 => ?_⟩
          have s28 := same_new (o := .lst ((ts1.take at_).map V.ref ++ [.ref u1, .ref u2])) n5
          have ec5 := upd_same (H := H27) (a := c5) (o := .lst ((ts1.take at_).map V.ref ++ [.ref u1, .ref u2]))
          have s29 := s27.trans s28
          refine ⟨.ref o1, rfl, _, rfl, _, _, rfl, rfl, _, rfl, o1, _, rfl, (G1.same s29).seq, fun p2 np2 => ?_⟩
          rw [show ((at_ : Int) + 1) = ((at_ + 1 : Nat) : Int) by omega, cutFrom, ← List.map_drop]
          have s30 := same_new (o := .lst ((ts1.drop (at_ + 1)).map V.ref)) np2
          refine ⟨c5, p2, _, _, rfl, rfl, s30 _ _ ec5, upd_same, ile (by rw [List.length_append, List.length_map, List.length_take, List.length_map, List.length_drop]; show _ + 2 + _ ≤ 100000; rw [hG1.len]; omega), fun c6 n6 => ?_⟩
          have s31 := same_new (o := .lst ((ts1.take at_).map V.ref ++ [.ref u1, .ref u2] ++ (ts1.drop (at_ + 1)).map V.ref)) n6
          have s32 : Same H27 _ := s28.trans (s30.trans s31)
          have s33 := s27.trans s32
          have PP := ((((G1.same s33).pr.take at_).cat (.cons (g := (1 + r26, c.2)) (s32 _ _ eu1) (.cons (g := (c.1 - (1 + r26), c.2)) (s32 _ _ eu2) .nil)))).cat ((G1.same s33).pr.drop (at_ + 1))
          have ePP := upd_same (H := upd (upd H27 c5 (.lst ((ts1.take at_).map V.ref ++ [.ref u1, .ref u2]))) p2 (.lst ((ts1.drop (at_ + 1)).map V.ref))) (a := c6) (o := .lst ((ts1.take at_).map V.ref ++ [.ref u1, .ref u2] ++ (ts1.drop (at_ + 1)).map V.ref))
          have s33 : Same H26 _ := s33
          revert PP ePP s33
          generalize upd (upd (upd H27 c5 (.lst ((ts1.take at_).map V.ref ++ [.ref u1, .ref u2]))) p2 (.lst ((ts1.drop (at_ + 1)).map V.ref))) c6 (.lst ((ts1.take at_).map V.ref ++ [.ref u1, .ref u2] ++ (ts1.drop (at_ + 1)).map V.ref)) = H33
          intro PP ePP s33
          -- kept(parted + other, elders)
          refine ⟨.ref c6, rfl, .ref o2, rfl, c6, o2, _, _, rfl, rfl, ePP, (G2.same s33).top, ile (by rw [List.length_append, List.length_append, List.length_map, List.length_take, List.length_map, List.length_drop, List.length_map, hG1.len, hG2.len]; show _ + 2 + _ + _ ≤ 100000; omega), fun c7 n7 => ?_⟩
          have s34 := same_new (o := .lst ((ts1.take at_).map V.ref ++ [.ref u1, .ref u2] ++ (ts1.drop (at_ + 1)).map V.ref ++ ts2.map V.ref)) n7
          have GA := ((PP.same s34).cat ((G2.same s33).same s34).pr).gs (a := c7) (by rw [upd_same]; simp)
          refine ⟨_, rfl, _, c7, _, _, elders, rfl, GA, ?_, e0, fun H35 s35 => ?_⟩
          · refine Crw.cat (Crw.cat (Crw.cat (fun d m => hC1 d (List.mem_of_mem_take m)) fun d m => ?_) fun d m => hC1 d (List.mem_of_mem_drop m)) hC2
            have := (hC1 c mc).2
            rcases List.mem_cons.mp m with rfl | m
            · exact ⟨by show 1 ≤ 1 + r26; omega, this⟩
            · rw [List.mem_singleton.mp m]
              exact ⟨by show 1 ≤ c.1 - (1 + r26); omega, this⟩
          · have e : stay (cs1.take at_ ++ [(1 + r26, c.2), (c.1 - (1 + r26), c.2)] ++ cs1.drop (at_ + 1) ++ cs2) elders = here := by
              rw [hcat]
              rw [stay_cat, stay_cat, stay_cat]
              show stay cs2 (stay (cs1.drop (at_ + 1)) (kst (kst (stay (cs1.take at_) elders) (1 + r26, c.2)) (c.1 - (1 + r26), c.2))) = _
              rw [kst_part _ _ _ _ (by omega) (by omega), show 1 + r26 + (c.1 - (1 + r26)) = c.1 by omega]
              conv => rhs; rw [part_at ec]
              rw [stay_cat, stay_cat]
              rfl
            refine ⟨_, rfl, rfl, _, rfl, iteX (by rw [e]; exact nd_self _) ?_⟩
            exact ⟨_, _, _, _, _, _, _, _, _, _, _, rfl, kp26.trans (Kp.of (s33.trans (s34.trans s35))), (T26.keep (s33.trans (s34.trans s35))).more (by omega)⟩
        · exact ⟨_, _, _, _, _, _, _, _, _, _, _, rfl, kp25, T25.more (by omega)⟩
      · exact ⟨_, _, _, _, _, _, _, _, _, _, _, rfl, kp24, T24.more (by omega)⟩
    · obtain ⟨y5, y6, y7, y8, y9, y10, y11, y12, y13, y14, y15, rfl, kp, T7⟩ := hW
      exact ⟨_, _, _, _, _, _, _, _, _, _, _, _, _, _, rfl, T7.more (by show 100000 * i + 1100 + 100 * 4 ≤ _; omega)⟩
end
end El
namespace El
open PySem PySem.Spec PyProof.Rows L2
theorem all_mk {l : PySem.W.OpenLaw} {w : World} {K : PySem.W.Frag} {h : Heap} {mg : Str → Option Value} {fa f1 f2 f3 f4 f5 f6 f7 f8 f9 : Addr} (X : K.In h) (G : h.Ns mainGlobals mg) (hfa : mg "law" = some (.ref fa))
    {od1 an1 od2 an2 od3 an3 od4 an4 od5 an5 od6 an6 od7 an7 od8 an8 od9 an9 : Option Addr} {sl1 sl2 sl3 sl4 sl5 sl6 sl7 sl8 sl9 : Array (Option Value)} {oc1 kV1 dc1 pm1 cd1 ct1 oc2 kV2 dc2 pm2 cd2 ct2 oc3 kV3 dc3 pm3 cd3 ct3 oc4 kV4 dc4 pm4 cd4 ct4 oc5 kV5 dc5 pm5 cd5 ct5 oc6 kV6 dc6 pm6 cd6 ct6 oc7 kV7 dc7 pm7 cd7 ct7 oc8 kV8 dc8 pm8 cd8 ct8 oc9 kV9 dc9 pm9 cd9 ct9 : Value}
    (a1 : PySem.W.nsIn K mainGlobals "check_first" = some (some (.ref f1))) (l1 : K.lookup f1 = some ⟨oc1, od1, .func (PySem.W.fnOf "check_first" "check_first" (defArgs s_check_first) (defBody s_check_first) (defScope s_check_first) .none kV1 dc1 pm1 an1 cd1 ct1), sl1⟩) (c1 : PySem.W.codeIn K cd1 "check_first" = true) (k1 : PySem.W.keepIn K (.ref f1) = true)
    (a2 : PySem.W.nsIn K mainGlobals "is_crowd" = some (some (.ref f2))) (l2 : K.lookup f2 = some ⟨oc2, od2, .func (PySem.W.fnOf "is_crowd" "is_crowd" (defArgs s_is_crowd) (defBody s_is_crowd) (defScope s_is_crowd) .none kV2 dc2 pm2 an2 cd2 ct2), sl2⟩) (c2 : PySem.W.codeIn K cd2 "is_crowd" = true) (k2 : PySem.W.keepIn K (.ref f2) = true)
    (a3 : PySem.W.nsIn K mainGlobals "check_crowds" = some (some (.ref f3))) (l3 : K.lookup f3 = some ⟨oc3, od3, .func (PySem.W.fnOf "check_crowds" "check_crowds" (defArgs s_check_crowds) (defBody s_check_crowds) (defScope s_check_crowds) .none kV3 dc3 pm3 an3 cd3 ct3), sl3⟩) (c3 : PySem.W.codeIn K cd3 "check_crowds" = true) (k3 : PySem.W.keepIn K (.ref f3) = true)
    (a4 : PySem.W.nsIn K mainGlobals "kept_with" = some (some (.ref f4))) (l4 : K.lookup f4 = some ⟨oc4, od4, .func (PySem.W.fnOf "kept_with" "kept_with" (defArgs s_kept_with) (defBody s_kept_with) (defScope s_kept_with) .none kV4 dc4 pm4 an4 cd4 ct4), sl4⟩) (c4 : PySem.W.codeIn K cd4 "kept_with" = true) (k4 : PySem.W.keepIn K (.ref f4) = true)
    (a5 : PySem.W.nsIn K mainGlobals "kept" = some (some (.ref f5))) (l5 : K.lookup f5 = some ⟨oc5, od5, .func (PySem.W.fnOf "kept" "kept" (defArgs s_kept) (defBody s_kept) (defScope s_kept) .none kV5 dc5 pm5 an5 cd5 ct5), sl5⟩) (c5 : PySem.W.codeIn K cd5 "kept" = true) (k5 : PySem.W.keepIn K (.ref f5) = true)
    (a6 : PySem.W.nsIn K mainGlobals "_law_bag" = some (some (.ref f6))) (l6 : K.lookup f6 = some ⟨oc6, od6, .func (PySem.W.fnOf "_law_bag" "_law_bag" (defArgs s__law_bag) (defBody s__law_bag) (defScope s__law_bag) .none kV6 dc6 pm6 an6 cd6 ct6), sl6⟩) (c6 : PySem.W.codeIn K cd6 "_law_bag" = true) (k6 : PySem.W.keepIn K (.ref f6) = true)
    (a7 : PySem.W.nsIn K mainGlobals "_law_draw" = some (some (.ref f7))) (l7 : K.lookup f7 = some ⟨oc7, od7, .func (PySem.W.fnOf "_law_draw" "_law_draw" (defArgs s__law_draw) (defBody s__law_draw) (defScope s__law_draw) .none kV7 dc7 pm7 an7 cd7 ct7), sl7⟩) (c7 : PySem.W.codeIn K cd7 "_law_draw" = true) (k7 : PySem.W.keepIn K (.ref f7) = true)
    (a8 : PySem.W.nsIn K mainGlobals "_law_crowds" = some (some (.ref f8))) (l8 : K.lookup f8 = some ⟨oc8, od8, .func (PySem.W.fnOf "_law_crowds" "_law_crowds" (defArgs s__law_crowds) (defBody s__law_crowds) (defScope s__law_crowds) .none kV8 dc8 pm8 an8 cd8 ct8), sl8⟩) (c8 : PySem.W.codeIn K cd8 "_law_crowds" = true) (k8 : PySem.W.keepIn K (.ref f8) = true)
    (a9 : PySem.W.nsIn K mainGlobals "law" = some (some (.ref f9))) (l9 : K.lookup f9 = some ⟨oc9, od9, .func (PySem.W.fnOf "law" "law" (defArgs s_law) (defBody s_law) (defScope s_law) .none kV9 dc9 pm9 an9 cd9 ct9), sl9⟩) (c9 : PySem.W.codeIn K cd9 "law" = true) (k9 : PySem.W.keepIn K (.ref f9) = true)
    (z1 : PySem.W.nsIn K mainGlobals "len" = some none) (z2 : PySem.W.nsIn K mainGlobals "range" = some none) (z3 : PySem.W.nsIn K mainGlobals "enumerate" = some none) (z4 : PySem.W.nsIn K mainGlobals "sorted" = some none) (z5 : PySem.W.nsIn K mainGlobals "sum" = some none) (z6 : PySem.W.nsIn K mainGlobals "min" = some none) (z7 : PySem.W.nsIn K mainGlobals "max" = some none) (z8 : PySem.W.nsIn K mainGlobals "isinstance" = some none) (z9 : PySem.W.nsIn K mainGlobals "zip" = some none) (z10 : PySem.W.nsIn K mainGlobals "list" = some none) (z11 : PySem.W.nsIn K mainGlobals "tuple" = some none) (z12 : PySem.W.nsIn K mainGlobals "int" = some none) (z13 : PySem.W.nsIn K mainGlobals "bool" = some none) (z14 : PySem.W.nsIn K mainGlobals "str" = some none) (z15 : PySem.W.nsIn K mainGlobals "abs" = some none) (z16 : PySem.W.nsIn K mainGlobals "repr" = some none) (z17 : PySem.W.nsIn K mainGlobals "dict" = some none) (z18 : PySem.W.nsIn K mainGlobals "any" = some none) (z19 : PySem.W.nsIn K mainGlobals "all" = some none) (z20 : PySem.W.nsIn K mainGlobals "set" = some none) (z21 : PySem.W.nsIn K mainGlobals "reversed" = some none) (z22 : PySem.W.nsIn K mainGlobals "ValueError" = some none) (z23 : PySem.W.nsIn K mainGlobals "divmod" = some none) :
    ∃ fd : FuncData, (∀ (s : Shared) (v : Value), BindsTo s fd ⟨[v], []⟩ [("script", v)]) ∧ ∀ base : Heap, K.In base → base.Ns mainGlobals mg → FnOk l.prog w K mg base CX0 4 fa fd ["script"] (sp_law K) := by
  obtain rfl : f9 = fa := by
    have e := (PySem.W.mg_of X G a9).symm.trans hfa
    injection e with e
    injection e
  have B : Bi mg := ⟨PySem.W.mg_none_of X G z1, PySem.W.mg_none_of X G z2, PySem.W.mg_none_of X G z3, PySem.W.mg_none_of X G z4, PySem.W.mg_none_of X G z5, PySem.W.mg_none_of X G z6, PySem.W.mg_none_of X G z7, PySem.W.mg_none_of X G z8, PySem.W.mg_none_of X G z9, PySem.W.mg_none_of X G z10, PySem.W.mg_none_of X G z11, PySem.W.mg_none_of X G z12, PySem.W.mg_none_of X G z13, PySem.W.mg_none_of X G z14, PySem.W.mg_none_of X G z15, PySem.W.mg_none_of X G z16, PySem.W.mg_none_of X G z17, PySem.W.mg_none_of X G z18, PySem.W.mg_none_of X G z19, PySem.W.mg_none_of X G z20, PySem.W.mg_none_of X G z21, PySem.W.mg_none_of X G z22, PySem.W.mg_none_of X G z23⟩
  have A1 : At K mg "check_first" P_check_first s_check_first := .mk' X G a1 l1 c1 k1 fun _ _ _ _ _ _ us hl => match us, hl with | [_], _ => rfl
  have A2 : At K mg "is_crowd" P_is_crowd s_is_crowd := .mk' X G a2 l2 c2 k2 fun _ _ _ _ _ _ us hl => match us, hl with | [_, _], _ => rfl
  have A3 : At K mg "check_crowds" P_check_crowds s_check_crowds := .mk' X G a3 l3 c3 k3 fun _ _ _ _ _ _ us hl => match us, hl with | [_], _ => rfl
  have A4 : At K mg "kept_with" P_kept_with s_kept_with := .mk' X G a4 l4 c4 k4 fun _ _ _ _ _ _ us hl => match us, hl with | [_, _], _ => rfl
  have A5 : At K mg "kept" P_kept s_kept := .mk' X G a5 l5 c5 k5 fun _ _ _ _ _ _ us hl => match us, hl with | [_, _], _ => rfl
  have A6 : At K mg "_law_bag" P__law_bag s__law_bag := .mk' X G a6 l6 c6 k6 fun _ _ _ _ _ _ us hl => match us, hl with | [_], _ => rfl
  have A7 : At K mg "_law_draw" P__law_draw s__law_draw := .mk' X G a7 l7 c7 k7 fun _ _ _ _ _ _ us hl => match us, hl with | [_, _], _ => rfl
  have A8 : At K mg "_law_crowds" P__law_crowds s__law_crowds := .mk' X G a8 l8 c8 k8 fun _ _ _ _ _ _ us hl => match us, hl with | [_, _], _ => rfl
  have A9 : At K mg "law" P_law s_law := .mk' X G a9 l9 c9 k9 fun _ _ _ _ _ _ us hl => match us, hl with | [_], _ => rfl
  refine ⟨PySem.W.fnOf "law" "law" (defArgs s_law) (defBody s_law) (defScope s_law) .none kV9 dc9 pm9 an9 cd9 ct9, fun s v => .of_eq rfl, fun base _ _ => ?_⟩
  have D_check_first := ok_check_first (P := l.prog) (w := w) (base := base) A1 
  have D_is_crowd := ok_is_crowd (P := l.prog) (w := w) (base := base) A2 
  have D_check_crowds := ok_check_crowds (P := l.prog) (w := w) (base := base) A3 B D_is_crowd
  have D_kept_with := ok_kept_with (P := l.prog) (w := w) (base := base) A4 B
  have D_kept := ok_kept (P := l.prog) (w := w) (base := base) A5 D_check_crowds D_check_first D_kept_with
  have D__law_bag := ok__law_bag (P := l.prog) (w := w) (base := base) A6 B
  have D__law_draw := ok__law_draw (P := l.prog) (w := w) (base := base) A7 B
  have D__law_crowds := ok__law_crowds (P := l.prog) (w := w) (base := base) A8 B D__law_draw
  have D_law := ok_law (P := l.prog) (w := w) (base := base) A9 B D__law_bag D__law_draw D__law_crowds D_kept
  exact D_law.at hfa l9
end El
open PySem PySem.W PyProof.Rows
set_option maxRecDepth 100000 in
set_option maxHeartbeats 0 in
theorem PySem.Challenge.cw_elderinn_k35_whole_one_more_elder_holds : PySem.Challenge.rw_elderinn_k35_whole_one_more_elder.Holds := by
  w_on; o_law; k_head; (case hw => w_witness2)
  k_fill
  refine L2.walk_of (l := PySem.Challenge.rw_elderinn_k35_whole_one_more_elder) (n := 63) (k := 4) (x := "script") (CX := fun _ => L2.CX0) (sp := fun w => El.sp_law _) rfl (by decide) rfl ⟨rfl, by decide, by decide⟩ (fun w h Y => PySem.W.kIn_of Y) ?F (fun _ _ a ns hl _ hS => ⟨a, ns, rfl, hS, hl, fun _ => rfl⟩) (fun _ _ _ _ _ h => h)
  case F =>
    intro w mg fa h KX G hmg
    refine' El.all_mk KX G hmg ?a1 ?l1 ?c1 ?k1 ?a2 ?l2 ?c2 ?k2 ?a3 ?l3 ?c3 ?k3 ?a4 ?l4 ?c4 ?k4 ?a5 ?l5 ?c5 ?k5 ?a6 ?l6 ?c6 ?k6 ?a7 ?l7 ?c7 ?k7 ?a8 ?l8 ?c8 ?k8 ?a9 ?l9 ?c9 ?k9 ?z1 ?z2 ?z3 ?z4 ?z5 ?z6 ?z7 ?z8 ?z9 ?z10 ?z11 ?z12 ?z13 ?z14 ?z15 ?z16 ?z17 ?z18 ?z19 ?z20 ?z21 ?z22 ?z23
    (case a1 => k_is)
    (case l1 => k_is)
    (case c1 => k_is)
    (case k1 => k_is)
    (case a2 => k_is)
    (case l2 => k_is)
    (case c2 => k_is)
    (case k2 => k_is)
    (case a3 => k_is)
    (case l3 => k_is)
    (case c3 => k_is)
    (case k3 => k_is)
    (case a4 => k_is)
    (case l4 => k_is)
    (case c4 => k_is)
    (case k4 => k_is)
    (case a5 => k_is)
    (case l5 => k_is)
    (case c5 => k_is)
    (case k5 => k_is)
    (case a6 => k_is)
    (case l6 => k_is)
    (case c6 => k_is)
    (case k6 => k_is)
    (case a7 => k_is)
    (case l7 => k_is)
    (case c7 => k_is)
    (case k7 => k_is)
    (case a8 => k_is)
    (case l8 => k_is)
    (case c8 => k_is)
    (case k8 => k_is)
    (case a9 => k_is)
    (case l9 => k_is)
    (case c9 => k_is)
    (case k9 => k_is)
    (case z1 => k_is)
    (case z2 => k_is)
    (case z3 => k_is)
    (case z4 => k_is)
    (case z5 => k_is)
    (case z6 => k_is)
    (case z7 => k_is)
    (case z8 => k_is)
    (case z9 => k_is)
    (case z10 => k_is)
    (case z11 => k_is)
    (case z12 => k_is)
    (case z13 => k_is)
    (case z14 => k_is)
    (case z15 => k_is)
    (case z16 => k_is)
    (case z17 => k_is)
    (case z18 => k_is)
    (case z19 => k_is)
    (case z20 => k_is)
    (case z21 => k_is)
    (case z22 => k_is)
    (case z23 => k_is)
