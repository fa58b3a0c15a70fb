import PyProof.Rows.All
import Wide.All
import OpenK.AllK
import Wide.FinOn
import HandS.ForMost
import HandS.ForExc
import HandS.Wide
import HandS.SortKw
import HandS.SortRule
import HandS.SortInts
import HandS.Style
import HandS.IsInst
import HandS.Conv
import HandS.Walk
import HandS.Flow
import HandS.More
import HandS.Defaults
import HandS.RaiseMore
import HandS.Remove
import HandS.Star
import HandS.Steps
import PySem.Challenge.RW_elderinn_k02_sizes_told
set_option Elab.async false
set_option linter.all false
set_option maxRecDepth 100000
set_option maxHeartbeats 8000000
namespace El
/-! ### the rule by age, in plain lists -/
def place : List (List Int) → Int → Int → List (List Int)
  | [], a, _ => [[a]]
  | r :: rs, a, p => if (r.length : Int) ≤ p then (r ++ [a]) :: rs else r :: place rs a p
def firstB : List (List Int) → Int → Nat
  | [], _ => 0
  | r :: rs, p => if (r.length : Int) ≤ p then 0 else firstB rs p + 1
theorem firstB_le : ∀ (rs : List (List Int)) (p : Int), firstB rs p ≤ rs.length
  | [], _ => Nat.le_refl _
  | r :: rs, p => by
    unfold firstB
    split
    · exact Nat.zero_le _
    · exact Nat.succ_le_succ (firstB_le rs p)
theorem firstB_out : ∀ (rs : List (List Int)) (p : Int) (i : Nat) (r : List Int), i < firstB rs p → rs[i]? = some r → p < (r.length : Int)
  | [], _, _, _, h, _ => absurd h (Nat.not_lt_zero _)
  | s :: rs, p, i, r, h, e => by
    unfold firstB at h
    split at h
    · exact absurd h (Nat.not_lt_zero _)
    · rename_i hn
      cases i with
      | zero =>
        have e' : s = r := Option.some.inj e
        subst e'
        omega
      | succ i => exact firstB_out rs p i r (Nat.lt_of_succ_lt_succ h) (by simpa using e)
theorem firstB_in : ∀ (rs : List (List Int)) (p : Int), firstB rs p < rs.length → ∃ r, rs[firstB rs p]? = some r ∧ (r.length : Int) ≤ p
  | [], _, h => absurd h (Nat.not_lt_zero _)
  | s :: rs, p, h => by
    unfold firstB at h ⊢
    split
    · rename_i hn
      exact ⟨s, rfl, hn⟩
    · rename_i hn
      rw [if_neg hn] at h
      obtain ⟨r, e, q⟩ := firstB_in rs p (Nat.lt_of_succ_lt_succ h)
      exact ⟨r, by simpa using e, q⟩
theorem firstB_is : ∀ (rs : List (List Int)) (p : Int) (i : Nat), i ≤ rs.length → (∀ j r, j < i → rs[j]? = some r → p < (r.length : Int)) → (∀ r, rs[i]? = some r → (r.length : Int) ≤ p) → firstB rs p = i
  | [], _, i, h, _, _ => by
    have : i = 0 := Nat.le_zero.mp h
    subst this
    rfl
  | s :: rs, p, 0, _, _, h2 => by
    unfold firstB
    rw [if_pos (h2 s rfl)]
  | s :: rs, p, i + 1, h, h1, h2 => by
    have h0 := h1 0 s (Nat.succ_pos _) rfl
    unfold firstB
    rw [if_neg (by omega), firstB_is rs p i (Nat.le_of_succ_le_succ h) (fun j r hj e => h1 (j + 1) r (Nat.succ_lt_succ hj) (by simpa using e)) fun r e => h2 r (by simpa using e)]
theorem place_new : ∀ (rs : List (List Int)) (a p : Int), firstB rs p = rs.length → place rs a p = rs ++ [[a]]
  | [], _, _, _ => rfl
  | r :: rs, a, p, h => by
    unfold firstB at h
    unfold place
    split at h
    · exact absurd h (by rw [List.length_cons]; omega)
    · rename_i hn
      rw [if_neg hn, place_new rs a p (by rw [List.length_cons] at h; omega)]
      rfl
theorem place_at : ∀ (rs : List (List Int)) (a p : Int) (r : List Int), rs[firstB rs p]? = some r → place rs a p = rs.set (firstB rs p) (r ++ [a])
  | [], _, _, _, h => by simp at h
  | s :: rs, a, p, r, h => by
    unfold firstB at h ⊢
    unfold place
    split
    · rename_i hn
      rw [if_pos hn] at h
      have e : s = r := Option.some.inj h
      subst e
      rfl
    · rename_i hn
      rw [if_neg hn] at h
      rw [place_at rs a p r (by simpa using h)]
      rfl
theorem place_len (rs : List (List Int)) (a p : Int) : (place rs a p).length = if firstB rs p = rs.length then rs.length + 1 else rs.length := by
  by_cases h : firstB rs p = rs.length
  · rw [if_pos h, place_new rs a p h, List.length_append]
    rfl
  · have hl := firstB_le rs p
    obtain ⟨r, e, _⟩ := firstB_in rs p (by omega)
    rw [if_neg h, place_at rs a p r e, List.length_set]
/-- all in order -/
def settleL (gs : List (Int × Int)) : List (List Int) := gs.foldl (fun rs g => place rs g.1 g.2) []
theorem settleL_snoc (gs : List (Int × Int)) (g : Int × Int) : settleL (gs ++ [g]) = place (settleL gs) g.1 g.2 := by
  unfold settleL
  rw [List.foldl_append]
  rfl
theorem settleL_take {gs : List (Int × Int)} {i : Nat} {g : Int × Int} (h : gs[i]? = some g) : settleL (gs.take (i + 1)) = place (settleL (gs.take i)) g.1 g.2 := by
  rw [List.take_add_one, h]
  exact settleL_snoc _ _
theorem place_count (rs : List (List Int)) (a p : Int) : (place rs a p).flatten.length = rs.flatten.length + 1 := by
  induction rs with
  | nil => rfl
  | cons r rs ih =>
    unfold place
    split
    · simp only [List.flatten_cons, List.length_append, List.length_cons, List.length_nil]
      omega
    · simp only [List.flatten_cons, List.length_append]
      omega
theorem settleL_count (gs : List (Int × Int)) : (settleL gs).flatten.length = gs.length := by
  suffices h : ∀ (gs : List (Int × Int)) (rs : List (List Int)), (gs.foldl (fun rs g => place rs g.1 g.2) rs).flatten.length = rs.flatten.length + gs.length by
    have q := h gs []
    rw [List.flatten_nil, List.length_nil, Nat.zero_add] at q
    exact q
  intro gs
  induction gs with
  | nil => intro rs; rfl
  | cons g gs ih =>
    intro rs
    rw [List.foldl_cons, ih, place_count, List.length_cons]
    omega
theorem place_ne (rs : List (List Int)) (a p : Int) (h : ∀ r ∈ rs, r ≠ []) : ∀ r ∈ place rs a p, r ≠ [] := by
  induction rs with
  | nil =>
    intro r hr
    rw [List.mem_singleton.mp hr]
    exact List.cons_ne_nil _ _
  | cons s rs ih =>
    unfold place
    split
    · intro r hr
      rcases List.mem_cons.mp hr with e | hr
      · rw [e]
        simp
      · exact h r (List.mem_cons_of_mem _ hr)
    · intro r hr
      rcases List.mem_cons.mp hr with e | hr
      · rw [e]
        exact h s List.mem_cons_self
      · exact ih (fun r hr => h r (List.mem_cons_of_mem _ hr)) r hr
theorem settleL_ne (gs : List (Int × Int)) : ∀ r ∈ settleL gs, r ≠ [] := by
  suffices h : ∀ (gs : List (Int × Int)) (rs : List (List Int)), (∀ r ∈ rs, r ≠ []) → ∀ r ∈ gs.foldl (fun rs g => place rs g.1 g.2) rs, r ≠ [] from h gs [] (fun r hr => absurd hr (by simp))
  intro gs
  induction gs with
  | nil => intro rs h; exact h
  | cons g gs ih =>
    intro rs h
    rw [List.foldl_cons]
    exact ih _ (place_ne rs _ _ h)
theorem len_le_flat : ∀ (rs : List (List Int)), (∀ r ∈ rs, r ≠ []) → rs.length ≤ rs.flatten.length
  | [], _ => Nat.le_refl _
  | r :: rs, h => by
    have h1 := h r List.mem_cons_self
    have h2 := len_le_flat rs fun r hr => h r (List.mem_cons_of_mem _ hr)
    have h3 : 0 < r.length := List.length_pos_iff.mpr h1
    rw [List.flatten_cons, List.length_append, List.length_cons]
    omega
theorem room_le_flat : ∀ (rs : List (List Int)) (r : List Int), r ∈ rs → r.length ≤ rs.flatten.length
  | s :: rs, r, h => by
    rw [List.flatten_cons, List.length_append]
    rcases List.mem_cons.mp h with e | h
    · rw [e]
      omega
    · have := room_le_flat rs r h
      omega
theorem settleL_len (gs : List (Int × Int)) : (settleL gs).length ≤ gs.length := by
  rw [← settleL_count gs]
  exact len_le_flat _ (settleL_ne gs)
theorem settleL_room {gs : List (Int × Int)} {r : List Int} (h : r ∈ settleL gs) : r.length ≤ gs.length := by
  rw [← settleL_count gs]
  exact room_le_flat _ _ h
/-- sizes never rise -/
def Falls (rs : List (List Int)) : Prop := rs.Pairwise fun r s => s.length ≤ r.length
theorem place_mem {rs : List (List Int)} {a p : Int} {r : List Int} (h : r ∈ place rs a p) : r ∈ rs ∨ (∃ s ∈ rs, r = s ++ [a] ∧ (s.length : Int) ≤ p) ∨ r = [a] := by
  induction rs with
  | nil => exact .inr (.inr (List.mem_singleton.mp h))
  | cons s rs ih =>
    unfold place at h
    split at h
    · rename_i hn
      rcases List.mem_cons.mp h with e | h
      · exact .inr (.inl ⟨s, List.mem_cons_self, e, hn⟩)
      · exact .inl (List.mem_cons_of_mem _ h)
    · rcases List.mem_cons.mp h with e | h
      · rw [e]
        exact .inl List.mem_cons_self
      · rcases ih h with q | ⟨t, ht, q⟩ | q
        · exact .inl (List.mem_cons_of_mem _ q)
        · exact .inr (.inl ⟨t, List.mem_cons_of_mem _ ht, q⟩)
        · exact .inr (.inr q)
theorem place_falls (rs : List (List Int)) (a p : Int) (hp : 0 ≤ p) (h : Falls rs) : Falls (place rs a p) := by
  induction rs with
  | nil => exact List.pairwise_singleton _ _
  | cons s rs ih =>
    obtain ⟨h1, h2⟩ := List.pairwise_cons.mp h
    unfold place
    split
    · refine List.pairwise_cons.mpr ⟨fun r hr => ?_, h2⟩
      have := h1 r hr
      rw [List.length_append]
      omega
    · rename_i hn
      refine List.pairwise_cons.mpr ⟨fun r hr => ?_, ih h2⟩
      rcases place_mem hr with q | ⟨t, ht, q, q2⟩ | q
      · exact h1 r q
      · rw [q, List.length_append, List.length_singleton]
        omega
      · rw [q, List.length_singleton]
        omega
theorem settleL_falls (gs : List (Int × Int)) (h : ∀ g ∈ gs, 0 ≤ g.2) : Falls (settleL gs) := by
  suffices q : ∀ (gs : List (Int × Int)) (rs : List (List Int)), (∀ g ∈ gs, 0 ≤ g.2) → Falls rs → Falls (gs.foldl (fun rs g => place rs g.1 g.2) rs) from q gs [] h List.Pairwise.nil
  intro gs
  induction gs with
  | nil => intro rs _ hr; exact hr
  | cons g gs ih =>
    intro rs hg hr
    rw [List.foldl_cons]
    exact ih _ (fun x hx => hg x (List.mem_cons_of_mem _ hx)) (place_falls rs _ _ (hg g List.mem_cons_self) hr)
/-! ### from the eldest on -/
def byAge (gs : List (Int × Int)) : List (Int × Int) := gs.mergeSort fun g h => decide (h.1 ≤ g.1)
theorem byAge_perm (gs : List (Int × Int)) : (byAge gs).Perm gs := List.mergeSort_perm _ _
theorem byAge_sorted (gs : List (Int × Int)) : (byAge gs).Pairwise fun g h => h.1 ≤ g.1 := by
  have q := List.pairwise_mergeSort (le := fun (g h : Int × Int) => decide (h.1 ≤ g.1)) (fun a b c h1 h2 => by
    have h1 := of_decide_eq_true h1
    have h2 := of_decide_eq_true h2
    exact decide_eq_true (by omega)) (fun a b => by
    by_cases h : b.1 ≤ a.1
    · simp [h]
    · have : a.1 ≤ b.1 := by omega
      simp [this]) gs
  exact q.imp fun h => of_decide_eq_true h
theorem byAge_length (gs : List (Int × Int)) : (byAge gs).length = gs.length := (byAge_perm gs).length_eq
theorem sorted_uniq {α : Type} (k : α → Int) : ∀ {l m : List α}, l.Perm m → (l.map k).Nodup → l.Pairwise (fun g h => k h ≤ k g) → m.Pairwise (fun g h => k h ≤ k g) → l = m
  | [], m, p, _, _, _ => by rw [List.nil_perm.mp p]
  | x :: l, [], p, _, _, _ => absurd p.length_eq (by simp)
  | x :: l, y :: m, p, nd, h1, h2 => by
    have nd' : (k x :: l.map k).Nodup := nd
    obtain ⟨n1, n2⟩ := List.nodup_cons.mp nd'
    obtain ⟨a1, a2⟩ := List.pairwise_cons.mp h1
    obtain ⟨b1, b2⟩ := List.pairwise_cons.mp h2
    have e : x = y := by
      rcases List.mem_cons.mp (p.mem_iff.mp List.mem_cons_self) with e | hx
      · exact e
      · have hy : y ∈ x :: l := p.mem_iff.mpr List.mem_cons_self
        rcases List.mem_cons.mp hy with e | hy
        · exact e.symm
        · have c1 := b1 x hx
          have c2 := a1 y hy
          have c3 : k x = k y := by omega
          exact absurd (List.mem_map.mpr ⟨y, hy, c3.symm⟩) n1
    subst e
    rw [sorted_uniq k (List.Perm.cons_inv p) n2 a2 b2]
def settle (gs : List (Int × Int)) : List (List Int) := settleL (byAge gs)
/-- guests that there can be -/
structure Fit (gs : List (Int × Int)) : Prop where
  nd : (gs.map (·.1)).Nodup
  pos : ∀ g ∈ gs, 0 ≤ g.2
theorem Fit.perm {gs hs : List (Int × Int)} (f : Fit gs) (p : hs.Perm gs) : Fit hs := ⟨((p.map (·.1)).nodup_iff).mpr f.nd, fun g hg => f.pos g (p.mem_iff.mp hg)⟩
theorem Fit.byAge {gs : List (Int × Int)} (f : Fit gs) : Fit (byAge gs) := f.perm (byAge_perm gs)
theorem byAge_of {gs hs : List (Int × Int)} (f : Fit gs) (p : hs.Perm gs) (h : hs.Pairwise fun g h => h.1 ≤ g.1) : hs = byAge gs :=
  sorted_uniq (·.1) (p.trans (byAge_perm gs).symm) (f.perm p).nd h (byAge_sorted gs)
theorem byAge_congr {gs hs : List (Int × Int)} (f : Fit gs) (p : hs.Perm gs) : byAge hs = byAge gs :=
  byAge_of f ((byAge_perm hs).trans p) (byAge_sorted hs)
theorem ages_of {gs : List (Int × Int)} (f : Fit gs) {ns : List Int} (p : ns.Perm (gs.map (·.1))) (h : ns.Pairwise (· ≥ ·)) : ns = (byAge gs).map (·.1) := by
  refine sorted_uniq (fun x : Int => x) (p.trans ((byAge_perm gs).map (·.1)).symm) ?_ (h.imp fun q => q) ?_
  · rw [List.map_id']
    exact (p.nodup_iff).mpr f.nd
  · rw [List.pairwise_map]
    exact byAge_sorted gs
theorem settle_congr {gs hs : List (Int × Int)} (f : Fit gs) (p : hs.Perm gs) : settle hs = settle gs := by
  unfold settle
  rw [byAge_congr f p]
end El
namespace El
open PySem PySem.Spec PyProof.Rows L2
/-! ### a def of the text as callers see it -/
structure Df (P : Program) (w : World) (K : PySem.W.Frag) (mg : Str → Option Value) (base : Heap) (k : Nat) (x : Str) (ps : List Str) (st : Stmt) (sp : Sp) : Prop where
  ex : ∃ (f : Addr) (fd : FuncData), Fun K x x st f fd ∧ mg x = some (.ref f) ∧ FnOk P w K mg base CX0 k f fd ps sp ∧ Binds K fd ps []
/-- where a def stands -/
structure At (K : PySem.W.Frag) (mg : Str → Option Value) (x : Str) (ps : List Str) (st : Stmt) : Prop where
  ex : ∃ (f : Addr) (fd : FuncData), Fun K x x st f fd ∧ mg x = some (.ref f) ∧ Binds K fd ps []
theorem At.df {P : Program} {w : World} {K : PySem.W.Frag} {mg : Str → Option Value} {base : Heap} {k : Nat} {x : Str} {ps : List Str} {st : Stmt} {sp : Sp} (A : At K mg x ps st)
    (h : ∀ f fd, Fun K x x st f fd → FnOk P w K mg base CX0 k f fd ps sp) : Df P w K mg base k x ps st sp := by
  obtain ⟨f, fd, F, m, b⟩ := A.ex
  exact ⟨f, fd, F, m, h f fd F, b⟩
section
variable {X : Cx} {k : Nat} {x : Str} {ps : List Str} {st : Stmt} {sp : Sp} {p pos : Pos} {e : Expr} {es : List Expr} {kws : List Keyword} {t tk : TA}
theorem pe_df (D : Df X.prog X.w X.K X.mg X.base k x ps st sp) (hr : Room k X.A) (hg : Gl X x) (ha : PA X (e :: es) t) (hdb : (x == ("__debug__" : Str)) = false := by decide)
    (he : starEach (e :: es) X.env = (false, eval e X.env) :: starEach es X.env := by rfl) (hpl : (backTo pos (starEach es X.env)).any (·.1) = false := by rfl) : PE X (.Call (.Name x p) (e :: es) [] pos) (tCall sp [] E0 t) := by
  obtain ⟨f, fd, F, m, G, b⟩ := D.ex
  exact pe_call G hr hg m F.kp b .nil pass0 ha hdb he hpl
theorem pe_df0 (D : Df X.prog X.w X.K X.mg X.base k x ps st sp) (hr : Room k X.A) (hg : Gl X x) (hdb : (x == ("__debug__" : Str)) = false := by decide) : PE X (.Call (.Name x p) [] [] pos) (tCall sp [] E0 tNil) := by
  obtain ⟨f, fd, F, m, G, b⟩ := D.ex
  exact pe_call0 G hr hg m F.kp b .nil pass0 hdb
def tCallW (n : Nat) (sp : Sp) (g : List V → List V) (tk : TA) : TE := fun σ H Q => tk σ H fun zs H2 => zs.length = n ∧ sp (g zs) H2 Q E0
/-- f(k = v, ..): keywords alone -/
theorem pe_dfK (D : Df X.prog X.w X.K X.mg X.base k x ps st sp) (ks : List Str) (g : {α : Type} → List α → List α) (hr : Room k X.A) (hg : Gl X x) (hkw : PK X kws tk)
    (hb : ∀ (kV doc pm : Value) (an : Option Addr) (cdv ct : Value) (ws : List Value), ws.length = ks.length → bindArgs (PySem.W.fnOf x x (defArgs st) (defBody st) (defScope st) .none kV doc pm an cdv ct) ⟨[], ks.zip ws⟩ = pure (ps.zip (g ws)))
    (hrel : ∀ {zs : List V} {ws : List Value}, Vals zs ws → Vals (g zs) (g ws))
    (hall : (backToKw pos (keywordEach kws X.env)).all (·.1.isSome) = true := by rfl) (hks : (backToKw pos (keywordEach kws X.env)).filterMap (·.1) = ks := by rfl) (hdb : (x == ("__debug__" : Str)) = false := by decide)
    (hpl : ((backTo pos (starEach [] X.env)).any (·.1) || (backToKw pos (keywordEach kws X.env)).any (·.1.isNone)) = false := by rfl) :
    PE X (.Call (.Name x p) [] kws pos) (tCallW ks.length sp (fun zs => g zs) tk) := by
  obtain ⟨f, fd, F, m, G, b⟩ := D.ex
  have kp := F.kp
  have KB : KBn X.K fd ps 0 ks (fun us ws => us ++ g ws) (fun vs zs => vs ++ g zs) := by
    obtain ⟨oc, od, kV, doc, pm, an, cdv, ct, osl, rfl, lk, hcd⟩ := F.ex
    refine ⟨fun s us ws hK l1 l2 => ?_, fun {vs us zs ws} r rz => Vals.append r (hrel rz)⟩
    obtain rfl := List.eq_nil_of_length_eq_zero l1
    exact .of_eq (hb kV doc pm an cdv ct ws l2)
  refine ⟨fun pins s σ H Q I h => ?_⟩
  refine wpAny_Call_Name_kw (ld_glob I hg m ?_ hdb)
  refine PySem.W.callWith_KW0 (h₀ := X.base) I.ok.mod.kin kp hall ?_ hpl
  refine thn (hkw.run pos pins s σ H _ I h) fun ws s2 ⟨zs, H2, I2, rz, l2, q2⟩ => ⟨I2.kIn, ?_⟩
  rw [hks]
  exact run_fnN (us := []) (vs := []) G hr KB pass0 I2 .nil rz rfl l2 q2
end
theorem Df.at {P : Program} {w : World} {K : PySem.W.Frag} {mg : Str → Option Value} {base : Heap} {k : Nat} {x : Str} {ps : List Str} {st : Stmt} {sp : Sp} {fa : Addr} {fd : FuncData} {oc : Value} {od : Option Addr} {sl : Array (Option Value)}
    (D : Df P w K mg base k x ps st sp) (hf : mg x = some (.ref fa)) (l : K.lookup fa = some ⟨oc, od, .func fd, sl⟩) : FnOk P w K mg base CX0 k fa fd ps sp := by
  obtain ⟨f, fd', F, m, G, b⟩ := D.ex
  obtain rfl : fa = f := by
    have e := hf.symm.trans m
    injection e with e
    injection e
  obtain ⟨oc', od', kV, doc, pm, an, cdv, ct, osl, e1, lk, hcd⟩ := F.ex
  have e := l.symm.trans lk
  injection e with e
  injection e with _ _ e _
  injection e with e
  rw [e]
  exact G
theorem At.mk' {K : PySem.W.Frag} {mg : Str → Option Value} {h : Heap} {x : Str} {ps : List Str} {st : Stmt} {f : Addr} {oc : Value} {od an : Option Addr} {osl : Array (Option Value)} {kV doc pm cdv ct : Value} (X : K.In h) (G : h.Ns mainGlobals mg)
    (a : PySem.W.nsIn K mainGlobals x = some (some (.ref f))) (l : K.lookup f = some ⟨oc, od, .func (PySem.W.fnOf x x (defArgs st) (defBody st) (defScope st) .none kV doc pm an cdv ct), osl⟩)
    (c : PySem.W.codeIn K cdv x = true) (k : PySem.W.keepIn K (.ref f) = true)
    (b : ∀ (kV doc pm : Value) (an : Option Addr) (cdv ct : Value) (us : List Value), us.length = ps.length → bindArgs (PySem.W.fnOf x x (defArgs st) (defBody st) (defScope st) .none kV doc pm an cdv ct) ⟨us, []⟩ = pure (ps.zip us)) : At K mg x ps st :=
  have F := fun_mk (st := st) l c k
  ⟨f, _, F, PySem.W.mg_of X G a, F.binds b⟩
end El
namespace El
open PySem PySem.Spec PyProof.Rows L2
section
variable {X : Cx}
/-! sorted(..., reverse=b) of anything whose walk is known -/
/-- partners: each pair is something of ours and the value that stands for it -/
abbrev Partners (P : List (V × Value)) : Prop := ∀ p ∈ P, RelV p.1 p.2
theorem partners_of : ∀ {xs : List V} {us : List Value}, Vals xs us → ∃ P, Partners P ∧ P.map Prod.fst = xs ∧ P.map Prod.snd = us
  | _, _, .nil => ⟨[], fun _ m => (List.not_mem_nil m).elim, rfl, rfl⟩
  | _, _, .cons h t =>
    let ⟨P, hP, e1, e2⟩ := partners_of t
    ⟨(_, _) :: P, fun p m => (List.mem_cons.mp m).elim (fun e => e ▸ h) (hP p), congrArg _ e1, congrArg _ e2⟩
theorem Partners.vals : ∀ {P : List (V × Value)}, Partners P → Vals (P.map Prod.fst) (P.map Prod.snd)
  | [], _ => .nil
  | _ :: _, h => .cons (h _ (.head _)) (Partners.vals fun p m => h p (.tail _ m))
/-- the values in another order: the partners go along -/
theorem go_along {α β : Type} {f : α → β} {ys : List β} : ∀ {P : List α}, ys.Perm (P.map f) → ∃ P' : List α, P'.Perm P ∧ P'.map f = ys := by
  suffices key : ∀ {as bs : List β}, as.Perm bs → ∀ P : List α, P.map f = as → ∃ P' : List α, P'.Perm P ∧ P'.map f = bs from
    fun {P} h => key h.symm P rfl
  intro as bs h
  induction h with
  | nil => exact fun P e => ⟨P, .refl _, e⟩
  | cons x _ ih =>
    intro P e
    match P, e with
    | q :: P, e =>
      obtain ⟨P', hp, e'⟩ := ih P (List.cons.inj e).2
      exact ⟨q :: P', hp.cons q, by rw [List.map_cons, e', (List.cons.inj e).1]⟩
  | swap x y l =>
    intro P e
    match P, e with
    | q :: r :: P, e => exact ⟨r :: q :: P, .swap .., by
        have e1 := List.cons.inj e
        have e2 := List.cons.inj e1.2
        rw [List.map_cons, List.map_cons, e1.1, e2.1, e2.2]⟩
  | trans _ _ ih1 ih2 =>
    intro P e
    obtain ⟨P1, h1, e1⟩ := ih1 P e
    obtain ⟨P2, h2, e2⟩ := ih2 P1 e1
    exact ⟨P2, h2.trans h1, e2⟩
/-- forwards or backwards -/
abbrev turn {α : Type} (b : Bool) (l : List α) : List α := if b = true then l.reverse else l
theorem turn_map {α β : Type} (f : α → β) (l : List α) : ∀ b, (turn b l).map f = turn b (l.map f)
  | true => List.map_reverse ..
  | false => rfl
theorem turn_perm {α : Type} (l : List α) : ∀ b, (turn b l).Perm l
  | true => l.reverse_perm
  | false => .refl _
theorem turn_arr {α : Type} (l : List α) : ∀ b : Bool, (if b = true then l.toArray.reverse else l.toArray) = (turn b l).toArray
  | true => List.reverse_toArray ..
  | false => rfl
/-- the walk over v gathers what stands for xs, and nothing that lay there is touched -/
def Gathers (X : Cx) (s : Shared) (v : Value) (xs : List V) : Prop :=
  ∀ R : List Value → Shared → Prop, (∀ us h t, Vals xs us → (∀ b o, s.heap.get? b = some o → h.get? b = some o) → R us { s with heap := h, toks := t }) → wpAny (model X.prog X.w) X.A.in1 (collect v) R X.xe s
theorem sorted_gathered {pins : List (Addr × Obj)} {σ : L2.St} {H : Hp} {s : Shared} {Q : VK} {b : Bool} {v : Value} {xs : List V} {less : Value → Value → Bool}
    (I : Inv X pins σ H s) (few : xs.length ≤ sizeLine) (walk : Gathers X s v xs) (O : SrtO.Swo less)
    (able : ∀ (us : List Value) (s' : Shared) (l : Addr), 2 ≤ us.length → Vals xs us → Inv X pins σ (upd H l (.lst xs)) s' → H l = none → SrtO.SortableO X.prog X.w X.A.in1.in1 s' l us less)
    (q : ∀ (P : List (V × Value)) (l : Addr), Partners P → (P.map Prod.fst).Perm xs → SrtO.Srtd less (P.map Prod.snd) → H l = none → Q (.ref l) (upd H l (.lst (turn b (P.map Prod.fst))))) :
    wpAny (model X.prog X.w) X.A (call (.builtin "sorted") [v] [(Str.ofString "reverse", .bool b)]) (EP X pins σ Q) X.xe s := by
  refine call_function_entry_kw kind_sorted plain_sorted entry_sorted (args_sorted_rev v (.bool b)) ?_
  refine wpAny_bind (m := checkCount "sorted" 1 1 _) (wpAny_pure ?_)
  refine wpAny_bind (walk _ fun us h t for_xs grown => ?_)
  have n2 : us.length ≤ sizeLine := for_xs.length ▸ few
  refine wpAny_bind (wpAny_newList (wpAny_bind (wpAny_holding ?_)) n2)
  -- the new list lies there, and is ours
  generalize hl : ({ s with heap := h, toks := t } : Shared).heap.objs.size = l
  have hl' : h.objs.size = l := hl
  have at_l : (h.push (seqObj "list" us.toArray 0)).get? l = some (seqObj "list" us.toArray 0) := hl' ▸ Heap.get?_push_size _ rfl
  have free : H l = none := hl' ▸ (I.kept (t' := t) grown).hok.fresh (Nat.le_refl _)
  have J : Inv X pins σ (upd H l (.lst xs)) { s with heap := h.push (seqObj "list" us.toArray 0), toks := t } :=
    (I.kept (t' := t) grown).laid (t' := t) (fun _ _ => Heap.get?_push_of_some _) (Nat.le_of_eq hl) ⟨few, _, 0, for_xs, at_l⟩
  -- it is sorted where it lies
  refine PyProof.Rows.wpAny_call_entry_kw slot_list_sort ⟨_, at_l, rfl⟩ entry_list_sort ?_ (args_list_sort_rev _ (.bool b))
  refine SrtR.list_sort_ordR O at_l n2 (fun two => able us _ l two for_xs J free) fun out up same => ⟨_, rfl, wpAny_pure ⟨_, rfl, ?_⟩⟩
  obtain ⟨P0, hP0, rfl, rfl⟩ := partners_of for_xs
  obtain ⟨P, p1, rfl⟩ := go_along (same.perm.trans (turn_perm (P0.map Prod.snd) b))
  rw [turn_arr]
  obtain ⟨e, he⟩ := sortedHeap_at (out := (turn b (P.map Prod.snd)).toArray) at_l
  have hP : Partners P := fun p m => hP0 p (p1.mem_iff.mp m)
  have ends : Partners (turn b P) := fun p m => hP p ((turn_perm P b).mem_iff.mp m)
  have done := J.write (o := .lst (turn b (P.map Prod.fst))) (t' := t) (h' := sortedHeap (h.push (seqObj "list" (P0.map Prod.snd).toArray 0)) l (P0.map Prod.snd) (turn b (P.map Prod.snd)).toArray)
    (by rw [upd_same]; trivial) (.inl rfl) (fun c u away there => (sortedHeap_old away (Heap.lt_size there)).trans there) ⟨_, he⟩
    ⟨by rw [((turn_perm _ b).trans (p1.map _)).length_eq]; exact few, _, e, by rw [← turn_map, ← turn_map]; exact ends.vals, he⟩
  rw [upd_upd] at done
  exact ⟨.ref l, _, done, rfl, q P l hP (p1.map _) up free⟩
/-- the walk over a dict: its keys -/
theorem gathers_dict {pins : List (Addr × Obj)} {σ : L2.St} {H : Hp} {s : Shared} {a : Addr} {kvs : List (L2.Key × V)} (calm : X.calm = true) (I : Inv X pins σ H s) (d : Rd H a (.dK kvs)) :
    kvs.length ≤ sizeLine ∧ Gathers X s (.ref a) (kvs.map fun e => kV e.1) := by
  have ⟨few, own, es, same, lies⟩ := dk_rd I.hok d
  have ⟨ep, lies⟩ := lies.dictAt
  have keys : (kvs.map fun e => kV e.1) = es.map fun e => kV e.1 := by
    have h := congrArg (List.map kV) same.keys
    rw [List.map_map, List.map_map] at h
    exact h
  refine ⟨few, fun R go => ?_⟩
  rw [keys] at go
  exact PySem.W.kdu_collect (PySem.W.kdl_dict (knd := mixKind X.prog X.w) own) (I.ok.hd calm) lies (same.length ▸ few)
    fun h t got grown is => go _ h t (keys_at (by simpa using is.1) fun j v at_j => is.2 j v (by simpa using at_j)) grown
theorem ints_back {us : List Value} {ns : List Int} (h : IntsAre us ns) : us.map SrtO.iv = ns := by
  induction h with
  | nil => rfl
  | cons n t _ ih => exact congrArg (n :: ·) ih
/-- sorted(d, reverse=b) of a dict whose keys are ints -/
def rSortedRevD (b : Bool) : List V → List V → Hp → VK → Prop := fun vs zs H Q => ∃ (a : Addr) (kvs : List (L2.Key × V)) (ks : List Int), vs = [V.ref a] ∧ zs = [.bl b] ∧ Rd H a (.dK kvs) ∧ kvs.map (·.1) = ks.map Sum.inl ∧
  ∀ (ns' : List Int) (p : Addr), ns'.Perm ks → OrdB b ns' → H p = none → Q (.ref p) (upd H p (.lst (ns'.map V.int)))
theorem cr_sortedRevD {b : Bool} (calm : X.calm = true) : CallRK X (.builtin "sorted") [Str.ofString "reverse"] (rSortedRevD b) := by
  rintro pins s σ H _ _ us ws Q I one by_kw ⟨a, kvs, ks, rfl, rfl, d, hks, q⟩
  obtain ⟨v, w, rfl, rfl, rfl, rfl⟩ : ∃ v w, us = [v] ∧ ws = [w] ∧ v = .ref a ∧ w = .bool b := by
    cases one with | cons e1 t1 => cases t1; cases by_kw with | cons e2 t2 => cases t2; exact ⟨_, _, rfl, rfl, e1, e2⟩
  have keys : (kvs.map fun e => kV e.1) = ks.map V.int := by
    have h := congrArg (List.map kV) hks
    rw [List.map_map, List.map_map] at h
    exact h
  have ⟨few, walk⟩ := gathers_dict calm I d
  rw [keys] at walk
  refine sorted_gathered I (by rw [← keys, List.length_map]; exact few) walk SrtO.swo_int (fun us _ _ two r _ _ => SrtO.ints_sortable r.ints two) fun P l hP perm up free => ?_
  obtain ⟨ns, np, en⟩ := go_along perm
  have back := ints_back (Vals.ints (en ▸ hP.vals))
  rw [← en, ← turn_map]
  refine q _ l ((turn_perm ns b).trans np) ?_ free
  have rise : ns.Pairwise (· ≤ ·) := by
    rw [← back, List.pairwise_map]
    exact up.imp fun h => Int.not_lt.mp (of_decide_eq_false h)
  cases b with
  | false => exact rise
  | true => exact List.pairwise_reverse.mpr rise
end
end El
namespace El
open PySem PySem.Spec PyProof.Rows L2
/-! ### heaps -/
/-- what B names stays as it was -/
def Kp (B : Addr → Prop) (H H' : Hp) : Prop := ∀ b o, B b → H b = some o → H' b = some o
theorem Kp.refl {B : Addr → Prop} {H : Hp} : Kp B H H := fun _ _ _ e => e
theorem Kp.trans {B : Addr → Prop} {H H1 H2 : Hp} (h : Kp B H H1) (k : Kp B H1 H2) : Kp B H H2 := fun b o hb e => k b o hb (h b o hb e)
theorem Kp.of {B : Addr → Prop} {H H' : Hp} (h : Same H H') : Kp B H H' := fun b o _ e => h b o e
theorem Kp.same {H H' : Hp} (h : Kp (fun _ => True) H H') : Same H H' := fun b o e => h b o trivial e
theorem same_new {H : Hp} {p : Addr} {o : HO} (h : H p = none) : Same H (upd H p o) := fun b u e => by
  rw [upd_ne (ne_of_none e h)]
  exact e
theorem Same.mut {H H' : Hp} {p : Addr} {o : HO} (e : Same H H') (h : H p = none) : Same H (upd H' p o) := fun b u q => by
  rw [upd_ne (ne_of_none q h)]
  exact e b u q
theorem Kp.mut {B : Addr → Prop} {H H' : Hp} {p : Addr} {o : HO} (e : Kp B H H') (h : ¬ B p) : Kp B H (upd H' p o) := fun b u hb q => by
  have n : b ≠ p := fun z => h (z ▸ hb)
  rw [upd_ne n]
  exact e b u hb q
theorem Kp.new {B : Addr → Prop} {H H' : Hp} {p : Addr} {o : HO} (e : Kp B H H') (h : H' p = none) : Kp B H (upd H' p o) := e.trans (Kp.of (same_new h))
theorem Kp.mutF {B : Addr → Prop} {H H' : Hp} {p : Addr} {o : HO} (e : Kp B H H') (h : H p = none) : Kp B H (upd H' p o) := fun b u hb q => by
  rw [upd_ne (ne_of_none q h)]
  exact e b u hb q
theorem Kp.none {B : Addr → Prop} {H H' : Hp} (e : Kp B H H') {p : Addr} (hb : B p) (h : H' p = none) : H p = none := by
  cases z : H p with
  | none => rfl
  | some x =>
    have := e _ _ hb z
    rw [h] at this
    cases this
theorem no_of {H : Hp} {a p : Addr} {o : HO} (h : H a = some o) (hp : H p = none) : p ≠ a := fun z => by
  rw [z, h] at hp
  cases hp
theorem same_none {H H' : Hp} (e : Same H H') {p : Addr} (h : H' p = none) : H p = none := e.free h
theorem ils {n : Nat} (h : n ≤ 100000) : n < sizeLine := Nat.lt_of_le_of_lt h (by decide)
theorem ile {n : Nat} (h : n ≤ 100000) : n ≤ sizeLine := Nat.le_of_lt (ils h)
theorem ints_at {ns : List Int} {i : Nat} {x : V} (h : (ns.map V.int)[i]? = some x) : ∃ n, ns[i]? = some n ∧ x = .int n := by
  rw [List.getElem?_map] at h
  cases e : ns[i]? with
  | none => rw [e] at h; cases h
  | some n => rw [e] at h; exact ⟨n, rfl, (Option.some.inj h).symm⟩
theorem refs_at {ts : List Addr} {i : Nat} {x : V} (h : (ts.map V.ref)[i]? = some x) : ∃ t, ts[i]? = some t ∧ x = .ref t := by
  rw [List.getElem?_map] at h
  cases e : ts[i]? with
  | none => rw [e] at h; cases h
  | some t => rw [e] at h; exact ⟨t, rfl, (Option.some.inj h).symm⟩
theorem at_lt {α : Type} {l : List α} {i : Nat} {x : α} (h : l[i]? = some x) : i < l.length := (List.getElem?_eq_some_iff.mp h).1
theorem at_some {α : Type} {l : List α} {i : Nat} (h : i < l.length) : ∃ x, l[i]? = some x := ⟨l[i], List.getElem?_eq_getElem h⟩
theorem take_snoc {α : Type} {l : List α} {i : Nat} {x : α} (h : l[i]? = some x) : l.take (i + 1) = l.take i ++ [x] := by
  rw [List.take_add_one, h]
  rfl
theorem take_full {α : Type} (l : List α) : l.take l.length = l := List.take_length
/-! ### a list of pairs of ints -/
structure GsAt (H : Hp) (B : Addr → Prop) (a : Addr) (ts : List Addr) (gs : List (Int × Int)) : Prop where
  top : H a = some (.lst (ts.map V.ref))
  ba : B a
  len : ts.length = gs.length
  at' : ∀ (i : Nat) (t : Addr) (g : Int × Int), ts[i]? = some t → gs[i]? = some g → H t = some (.tup [.int g.1, .int g.2])
  b : ∀ t ∈ ts, B t
theorem GsAt.keep {H H' : Hp} {B : Addr → Prop} {a : Addr} {ts : List Addr} {gs : List (Int × Int)} (h : GsAt H B a ts gs) (k : Kp B H H') : GsAt H' B a ts gs :=
  ⟨k _ _ h.ba h.top, h.ba, h.len, fun i t g e f => k _ _ (h.b t (List.mem_of_getElem? e)) (h.at' i t g e f), h.b⟩
theorem GsAt.same {H H' : Hp} {B : Addr → Prop} {a : Addr} {ts : List Addr} {gs : List (Int × Int)} (h : GsAt H B a ts gs) (k : Same H H') : GsAt H' B a ts gs := h.keep (.of k)
theorem GsAt.weaken {H : Hp} {B B' : Addr → Prop} {a : Addr} {ts : List Addr} {gs : List (Int × Int)} (h : GsAt H B a ts gs) (k : ∀ b, B b → B' b) : GsAt H B' a ts gs :=
  ⟨h.top, k _ h.ba, h.len, h.at', fun t m => k _ (h.b t m)⟩
theorem GsAt.seq {K : PySem.W.Frag} {H : Hp} {B : Addr → Prop} {a : Addr} {ts : List Addr} {gs : List (Int × Int)} (h : GsAt H B a ts gs) : SqL K H a (ts.map V.ref) := SqL.of h.top
theorem GsAt.get {H : Hp} {B : Addr → Prop} {a : Addr} {ts : List Addr} {gs : List (Int × Int)} (h : GsAt H B a ts gs) {i : Nat} {x : V} (e : (ts.map V.ref)[i]? = some x) : ∃ t g, x = .ref t ∧ gs[i]? = some g ∧ H t = some (.tup [.int g.1, .int g.2]) := by
  obtain ⟨t, e1, rfl⟩ := refs_at e
  have hi := at_lt e1
  rw [h.len] at hi
  obtain ⟨g, e2⟩ := at_some hi
  exact ⟨t, g, rfl, e2, h.at' i t g e1 e2⟩
/-- pushed -/
theorem GsAt.push {H : Hp} {B : Addr → Prop} {a : Addr} {ts : List Addr} {gs : List (Int × Int)} (h : GsAt H B a ts gs) (hn : a ∉ ts) {q : Addr} {g : Int × Int} (e : H q = some (.tup [.int g.1, .int g.2])) (bq : B q) :
    GsAt (upd H a (.lst (ts.map V.ref ++ [.ref q]))) B a (ts ++ [q]) (gs ++ [g]) := by
  refine ⟨?_, h.ba, ?_, fun i t x e1 e2 => ?_, fun t m => ?_⟩
  · rw [upd_same, List.map_append]
    rfl
  · rw [List.length_append, List.length_append, h.len]
    rfl
  · have nq : q ≠ a := fun z => by
      rw [z, h.top] at e
      cases e
    by_cases hi : i < ts.length
    · rw [List.getElem?_append_left hi] at e1
      rw [List.getElem?_append_left (by rw [← h.len]; exact hi)] at e2
      have nt : t ≠ a := fun z => hn (z ▸ List.mem_of_getElem? e1)
      rw [upd_ne nt]
      exact h.at' i t x e1 e2
    · have hi' : i = ts.length := by
        have := at_lt e1
        rw [List.length_append, List.length_singleton] at this
        omega
      subst hi'
      rw [List.getElem?_append_right (Nat.le_refl _), Nat.sub_self] at e1
      rw [h.len, List.getElem?_append_right (Nat.le_refl _), Nat.sub_self] at e2
      have e1' : q = t := Option.some.inj e1
      have e2' : g = x := Option.some.inj e2
      subst e1' e2'
      rw [upd_ne nq]
      exact e
  · rcases List.mem_append.mp m with m | m
    · exact h.b t m
    · rw [List.mem_singleton.mp m]
      exact bq
theorem GsAt.there {H : Hp} {B : Addr → Prop} {a : Addr} {ts : List Addr} {gs : List (Int × Int)} (h : GsAt H B a ts gs) : ∀ b, (b = a ∨ b ∈ ts) → ∃ x, H b = some x := fun b m => by
  rcases m with rfl | m
  · exact ⟨_, h.top⟩
  · obtain ⟨i, e⟩ := List.mem_iff_getElem?.mp m
    have hl := at_lt e
    rw [h.len] at hl
    obtain ⟨g, eg⟩ := at_some hl
    exact ⟨_, h.at' i b g e eg⟩
theorem GsAt.reB {H : Hp} {B B' : Addr → Prop} {a : Addr} {ts : List Addr} {gs : List (Int × Int)} (h : GsAt H B a ts gs) (k : ∀ b, (b = a ∨ b ∈ ts) → B b → B' b) : GsAt H B' a ts gs :=
  ⟨h.top, k _ (.inl rfl) h.ba, h.len, h.at', fun t m => k _ (.inr m) (h.b t m)⟩
/-- what stands in H and is named by B -/
def Liv (H : Hp) (B : Addr → Prop) (b : Addr) : Prop := (∃ x, H b = some x) ∧ B b
theorem GsAt.liv {H : Hp} {B : Addr → Prop} {a : Addr} {ts : List Addr} {gs : List (Int × Int)} (h : GsAt H B a ts gs) : GsAt H (Liv H B) a ts gs := h.reB fun b m hb => ⟨h.there b m, hb⟩
theorem Liv.no {H : Hp} {B : Addr → Prop} {p : Addr} (h : H p = none) : ¬ Liv H B p := fun ⟨⟨x, e⟩, _⟩ => by
  rw [h] at e
  cases e
theorem Liv.of {H : Hp} {B : Addr → Prop} {p : Addr} {o : HO} (h : H p = some o) (b : B p) : Liv H B p := ⟨⟨o, h⟩, b⟩
theorem Kp.weak {B B' : Addr → Prop} {H H' : Hp} (k : Kp B H H') (h : ∀ b, B' b → B b) : Kp B' H H' := fun b o hb e => k b o (h b hb) e
theorem Kp.liv {B : Addr → Prop} {H0 H H' : Hp} (k : Kp B H H') : Kp (Liv H0 B) H H' := k.weak fun _ h => h.2
/-! ### a list of lists of ints, each its own -/
structure RmsAt (H : Hp) (B : Addr → Prop) (o : Addr) (ts : List Addr) (rs : List (List Int)) : Prop where
  top : H o = some (.lst (ts.map V.ref))
  bo : B o
  nd : ts.Nodup
  no : o ∉ ts
  len : ts.length = rs.length
  at' : ∀ (i : Nat) (t : Addr) (r : List Int), ts[i]? = some t → rs[i]? = some r → H t = some (.lst (r.map V.int))
  b : ∀ t ∈ ts, B t
theorem RmsAt.keep {H H' : Hp} {B : Addr → Prop} {a : Addr} {ts : List Addr} {rs : List (List Int)} (h : RmsAt H B a ts rs) (k : Kp B H H') : RmsAt H' B a ts rs :=
  ⟨k _ _ h.bo h.top, h.bo, h.nd, h.no, h.len, fun i t g e f => k _ _ (h.b t (List.mem_of_getElem? e)) (h.at' i t g e f), h.b⟩
theorem RmsAt.same {H H' : Hp} {B : Addr → Prop} {a : Addr} {ts : List Addr} {rs : List (List Int)} (h : RmsAt H B a ts rs) (k : Same H H') : RmsAt H' B a ts rs := h.keep (.of k)
theorem RmsAt.weaken {H : Hp} {B B' : Addr → Prop} {a : Addr} {ts : List Addr} {rs : List (List Int)} (h : RmsAt H B a ts rs) (k : ∀ b, B b → B' b) : RmsAt H B' a ts rs :=
  ⟨h.top, k _ h.bo, h.nd, h.no, h.len, h.at', fun t m => k _ (h.b t m)⟩
theorem RmsAt.seq {K : PySem.W.Frag} {H : Hp} {B : Addr → Prop} {a : Addr} {ts : List Addr} {rs : List (List Int)} (h : RmsAt H B a ts rs) : SqL K H a (ts.map V.ref) := SqL.of h.top
theorem RmsAt.get {H : Hp} {B : Addr → Prop} {a : Addr} {ts : List Addr} {rs : List (List Int)} (h : RmsAt H B a ts rs) {i : Nat} {x : V} (e : (ts.map V.ref)[i]? = some x) : ∃ t r, x = .ref t ∧ ts[i]? = some t ∧ rs[i]? = some r ∧ H t = some (.lst (r.map V.int)) := by
  obtain ⟨t, e1, rfl⟩ := refs_at e
  have hi := at_lt e1
  rw [h.len] at hi
  obtain ⟨g, e2⟩ := at_some hi
  exact ⟨t, g, rfl, e1, e2, h.at' i t g e1 e2⟩
theorem RmsAt.of {H : Hp} {B : Addr → Prop} {a : Addr} {ts : List Addr} {rs : List (List Int)} (h : RmsAt H B a ts rs) {i : Nat} {r : List Int} (e : rs[i]? = some r) : ∃ t, ts[i]? = some t ∧ H t = some (.lst (r.map V.int)) := by
  have hi := at_lt e
  rw [← h.len] at hi
  obtain ⟨t, e2⟩ := at_some hi
  exact ⟨t, e2, h.at' i t r e2 e⟩
theorem RmsAt.nil {H : Hp} {B : Addr → Prop} {o : Addr} (h : H o = some (.lst [])) (bo : B o) : RmsAt H B o [] [] :=
  ⟨h, bo, List.nodup_nil, by simp, rfl, fun i t r e _ => by simp at e, fun t m => by simp at m⟩
/-- a new empty list behind -/
theorem RmsAt.push {H : Hp} {B : Addr → Prop} {o : Addr} {ts : List Addr} {rs : List (List Int)} (h : RmsAt H B o ts rs) {q : Addr} {r : List Int} (hq : H q = none) (bq : B q) :
    RmsAt (upd (upd H q (.lst (r.map V.int))) o (.lst (ts.map V.ref ++ [.ref q]))) B o (ts ++ [q]) (rs ++ [r]) := by
  have nq : q ≠ o := no_of h.top hq
  have nqt : ∀ t ∈ ts, q ≠ t := fun t m => by
    obtain ⟨i, hi⟩ := List.mem_iff_getElem?.mp m
    have hl := at_lt hi
    rw [h.len] at hl
    obtain ⟨r', er⟩ := at_some hl
    exact no_of (h.at' i t r' hi er) hq
  refine ⟨?_, h.bo, ?_, ?_, ?_, fun i t x e1 e2 => ?_, fun t m => ?_⟩
  · rw [upd_same, List.map_append]
    rfl
  · rw [List.nodup_append]
    exact ⟨h.nd, by simp, fun a ha b hb => by
      rw [List.mem_singleton.mp hb]
      exact (nqt a ha).symm⟩
  · intro m
    rcases List.mem_append.mp m with m | m
    · exact h.no m
    · exact nq (List.mem_singleton.mp m).symm
  · rw [List.length_append, List.length_append, h.len]
    rfl
  · by_cases hi : i < ts.length
    · rw [List.getElem?_append_left hi] at e1
      rw [List.getElem?_append_left (by rw [← h.len]; exact hi)] at e2
      have nt : t ≠ o := fun z => h.no (z ▸ List.mem_of_getElem? e1)
      rw [upd_ne nt, upd_ne (nqt t (List.mem_of_getElem? e1)).symm]
      exact h.at' i t x e1 e2
    · have hi' : i = ts.length := by
        have := at_lt e1
        rw [List.length_append, List.length_singleton] at this
        omega
      subst hi'
      rw [List.getElem?_append_right (Nat.le_refl _), Nat.sub_self] at e1
      rw [h.len, List.getElem?_append_right (Nat.le_refl _), Nat.sub_self] at e2
      have e1' : q = t := Option.some.inj e1
      have e2' : r = x := Option.some.inj e2
      subst e1' e2'
      rw [upd_ne nq, upd_same]
  · rcases List.mem_append.mp m with m | m
    · exact h.b t m
    · rw [List.mem_singleton.mp m]
      exact bq
/-- one of them changed -/
theorem RmsAt.set {H : Hp} {B : Addr → Prop} {o : Addr} {ts : List Addr} {rs : List (List Int)} (h : RmsAt H B o ts rs) {i : Nat} {t : Addr} (e : ts[i]? = some t) (r : List Int) :
    RmsAt (upd H t (.lst (r.map V.int))) B o ts (rs.set i r) := by
  have nt : t ≠ o := fun z => h.no (z ▸ List.mem_of_getElem? e)
  refine ⟨?_, h.bo, h.nd, h.no, ?_, fun j u x e1 e2 => ?_, h.b⟩
  · rw [upd_ne nt.symm]
    exact h.top
  · rw [List.length_set]
    exact h.len
  · by_cases hj : j = i
    · subst hj
      have e' : u = t := Option.some.inj (e1.symm.trans e)
      subst e'
      rw [upd_same]
      have hl := at_lt e1
      rw [h.len] at hl
      rw [List.getElem?_set_self hl] at e2
      have : r = x := Option.some.inj e2
      rw [this]
    · rw [List.getElem?_set_ne (fun z => hj z.symm)] at e2
      have hut : u ≠ t := fun z => by
        subst z
        exact hj (nd_ix h.nd e1 e)
      rw [upd_ne hut]
      exact h.at' j u x e1 e2
theorem RmsAt.newTop {H H' : Hp} {B B' : Addr → Prop} {o : Addr} {ts : List Addr} {rs : List (List Int)} (h : RmsAt H B o ts rs) (k : ∀ b u, (b = o ∨ b ∈ ts) → H b = some u → H' b = some u) (kb : ∀ b, (b = o ∨ b ∈ ts) → B' b) : RmsAt H' B' o ts rs :=
  ⟨k _ _ (.inl rfl) h.top, kb _ (.inl rfl), h.nd, h.no, h.len, fun i t r e f => k _ _ (.inr (List.mem_of_getElem? e)) (h.at' i t r e f), fun t m => kb t (.inr m)⟩
/-! ### the dict of patience -/
def pks (gs : List (Int × Int)) : List (L2.Key × V) := gs.map fun g => (Sum.inl g.1, V.int g.2)
theorem pks_len (gs : List (Int × Int)) : (pks gs).length = gs.length := List.length_map _
theorem pks_keys (gs : List (Int × Int)) : (pks gs).map (·.1) = (gs.map (·.1)).map Sum.inl := by
  unfold pks
  rw [List.map_map, List.map_map]
  rfl
theorem pks_snoc (gs : List (Int × Int)) (g : Int × Int) : pks (gs ++ [g]) = pks gs ++ [(Sum.inl g.1, V.int g.2)] := List.map_append
theorem pks_none {gs : List (Int × Int)} {a : Int} (h : a ∉ gs.map (·.1)) : valV (pks gs) (Sum.inl a) = none := by
  induction gs with
  | nil => rfl
  | cons g gs ih =>
    have h' : ¬ (a = g.1 ∨ a ∈ gs.map (·.1)) := fun z => h (by rw [List.map_cons]; exact List.mem_cons.mpr z)
    have n : ¬ (Sum.inl g.1 : L2.Key) = Sum.inl a := fun z => h' (.inl (Sum.inl.inj z).symm)
    show valV ((Sum.inl g.1, V.int g.2) :: pks gs) (Sum.inl a) = none
    rw [valV_neg n]
    exact ih fun z => h' (.inr z)
theorem pks_some : ∀ {gs : List (Int × Int)} {g : Int × Int}, (gs.map (·.1)).Nodup → g ∈ gs → valV (pks gs) (Sum.inl g.1) = some (.int g.2)
  | x :: gs, g, nd, h => by
    have nd' : (x.1 :: gs.map (·.1)).Nodup := nd
    obtain ⟨n1, n2⟩ := List.nodup_cons.mp nd'
    show valV ((Sum.inl x.1, V.int x.2) :: pks gs) (Sum.inl g.1) = some (.int g.2)
    rcases List.mem_cons.mp h with e | h
    · subst e
      rw [valV_pos rfl]
    · have n : ¬ (Sum.inl x.1 : L2.Key) = Sum.inl g.1 := fun z => n1 (by
        rw [Sum.inl.inj z]
        exact List.mem_map.mpr ⟨g, h, rfl⟩)
      rw [valV_neg n]
      exact pks_some n2 h
theorem putK_snoc {gs : List (Int × Int)} {g : Int × Int} (h : g.1 ∉ gs.map (·.1)) : putK (pks gs) (Sum.inl g.1) (V.int g.2) = pks (gs ++ [g]) := by
  rw [putK_new _ (pks_none h), pks_snoc]
theorem Fit.take_no {gs : List (Int × Int)} (f : Fit gs) {i : Nat} {g : Int × Int} (h : gs[i]? = some g) : g.1 ∉ (gs.take i).map (·.1) := by
  intro m
  have e : gs = gs.take i ++ g :: gs.drop (i + 1) := by
    have hl := at_lt h
    have e2 : gs[i] = g := by
      rw [List.getElem?_eq_getElem hl] at h
      exact Option.some.inj h
    rw [← e2, List.getElem_cons_drop, List.take_append_drop]
  have nd := f.nd
  rw [e, List.map_append, List.nodup_append] at nd
  exact nd.2.2 _ m g.1 (by rw [List.map_cons]; exact List.mem_cons_self) rfl
/-! ### rules by a written part that is named (for what stands in a comprehension) -/
section
variable {X : Cx}
theorem lenK (K : PySem.W.Frag) (e : X.K = K := by rfl) : CallR X (.builtin "len") (fun xs H Q => ∃ p ys, xs = [.ref p] ∧ (SqL K H p ys ∨ SqT K H p ys) ∧ Q (.int ys.length) H) := by
  subst e
  exact call_len_seq
theorem ixlK (K : PySem.W.Frag) (e : X.K = K := by rfl) : IxR X (rIxL K) := by
  subst e
  exact ix_list
theorem ixtK (K : PySem.W.Frag) (e : X.K = K := by rfl) : IxR X (rIxT K) := by
  subst e
  exact ix_tup
theorem sllK (K : PySem.W.Frag) (e : X.K = K := by rfl) : SlR X (rSlL K) := by
  subst e
  exact sl_list
theorem eqDK (K : PySem.W.Frag) (hu : X.A.units + 64 < cLine) (e : X.K = K := by rfl) : OpR X (compareOp .Eq) (rEqD K) := by
  subst e
  exact op_eqD hu
theorem neDK (K : PySem.W.Frag) (hu : X.A.units + 64 < cLine) (e : X.K = K := by rfl) : OpR X (compareOp .NotEq) (rNeD K) := by
  subst e
  exact op_neD hu
theorem isiK (K : PySem.W.Frag) (e : X.K = K := by rfl) : CallR X (.builtin "isinstance") (rIsi K) := by
  subst e
  exact call_isi
theorem sumK (K : PySem.W.Frag) (hc : X.calm = true) (e : X.K = K := by rfl) : CallR X (.builtin "sum") (rSum K) := by
  subst e
  exact cr_sum hc
theorem inK (K : PySem.W.Frag) (e : X.K = K := by rfl) : OpR X (compareOp .In) (rIn K false) := by
  subst e
  exact op_in_seq
theorem notInK (K : PySem.W.Frag) (e : X.K = K := by rfl) : OpR X (compareOp .NotIn) (rIn K true) := by
  subst e
  exact op_notIn_seq
theorem listOfK (K : PySem.W.Frag) (e : X.K = K := by rfl) : CallR X (.type "list") (fun xs H Q => ∃ p ys, xs = [.ref p] ∧ (SqL K H p ys ∨ SqT K H p ys) ∧ ∀ l, H l = none → Q (.ref l) (upd H l (.lst ys))) := by
  subst e
  exact call_list_of
theorem pgTupK {es : List Expr} {k : Nat} {t : TGs} {pos : Pos} (K : PySem.W.Frag) (n : Nat) (hc : X.calm = true) (h : PGs X es t)
    (hn : (assignEach es X.env).length = n := by rfl) (hst : (assignEach es X.env).findIdx? (·.1) = none := by rfl) (e : X.K = K := by rfl) : PG X (.Tuple es k pos) (gTup K n t) := by
  subst e
  exact pg_tup hc h hn hst
theorem bmK {T : String} {name : Str} {id : String} {o e : Expr} {es : List Expr} {to : TE} {t : TA} {apos cpos : Pos} {r : V → List V → Hp → VK → Prop} (K : PySem.W.Frag) (pa : PlainAttrs T) (slot : Slot T name id) (hty : typeOf (.builtin id) = pure (.type "method_descriptor")) (hm : MtR X id r) (ho : PE X o to) (ha : PA X (e :: es) t)
    (hbase : attributeBase o name X.env (eval o X.env) = eval o X.env := by rfl)
    (hfew : ((backTo cpos (starEach (e :: es) X.env)).all (fun x => !x.1) && (backToKw cpos (keywordEach [] X.env)).all (fun x => x.1.isSome)
      && decide ((e :: es).length + ([] : List Keyword).length + (if ([] : List Keyword).isEmpty then 0 else 1) < 30)) = true := by rfl)
    (hline : (apos.endLine == cpos.line) = true := by rfl) (hs : starEach (e :: es) X.env = (false, eval e X.env) :: starEach es X.env := by rfl) (hplain : (backTo cpos (starEach es X.env)).any (·.1) = false := by rfl) (eK : X.K = K := by rfl) :
    PE X (.Call (.Attribute o name apos) (e :: es) [] cpos) (tBM K T r to t) := by
  subst eK
  exact pe_bm pa slot hty hm ho ha hbase hfew hline hs hplain
end
/-! ### cuts: what holds between two parts of a body -/
section
variable {σ : L2.St} {H : Hp} {D : Ends} {c : TT} {t u tb : TS}
theorem while_to (W : Nat → L2.St → Hp → Prop) (E : L2.St → Hp → Prop) (h0 : ∃ m, W m σ H) (hd : ∀ σ H, E σ H → D.nx σ H)
    (hs : ∀ X : L2.St → Hp → Prop, (∀ σ H, E σ H → X σ H) → ∀ m σ H, W m σ H → c σ H fun b H1 => if b = true then ∃ N : L2.St → Hp → Prop, (∀ σ' H', N σ' H' → ∃ m', m' < m ∧ W m' σ' H') ∧ tb { D with nx := N, ct := N, bk := X } σ H1 else X σ H1) : tWhile c tb D σ H := ⟨W, h0, hs D.nx hd⟩
theorem seq_to (E : L2.St → Hp → Prop) (h1 : ∀ X : L2.St → Hp → Prop, (∀ σ H, E σ H → X σ H) → t { D with nx := X } σ H) (h2 : ∀ σ H, E σ H → u D σ H) : tSeq t u D σ H := h1 (u D) h2
theorem seq_set {i : Nat} {v : V} (h : u D (σ.set i (some v)) H) : tSeq (tAsg (tC v) (gName i)) u D σ H := h
theorem st_to (E : L2.St → Hp → Prop) (h1 : ∀ X : L2.St → Hp → Prop, (∀ σ H, E σ H → X σ H) → t { D with nx := X } σ H) (h2 : ∀ σ H, E σ H → D.nx σ H) : t D σ H := h1 D.nx h2
end
theorem ixN_of {n j : Nat} (hj : j < n) : ixN n (j : Int) = some j := by
  unfold ixN
  rw [if_pos (by omega), if_pos (by omega), Int.toNat_natCast]
theorem seq_ix {n j : Nat} (hj : j < n) : seqIndex? (j : Int) n = some j := (ixN_seq (ixN_of hj)).1
theorem at_pick {xs : List V} {r : Int} (h0 : 0 ≤ r) (h1 : r < xs.length) : ∃ v, atI xs r = some v ∧ v ∈ xs := by
  obtain ⟨k, rfl⟩ : ∃ k : Nat, r = k := ⟨r.toNat, by omega⟩
  obtain ⟨v, e⟩ := at_some (show k < xs.length by omega)
  exact ⟨v, atI_nat e, List.mem_of_getElem? e⟩
theorem erase_perm {α : Type} : ∀ {l : List α} {k : Nat} {x : α}, l[k]? = some x → (x :: l.eraseIdx k).Perm l
  | [], _, _, h => by simp at h
  | a :: l, 0, x, h => by
    obtain rfl : a = x := Option.some.inj h
    exact List.Perm.refl _
  | a :: l, k + 1, x, h => by
    have ih := erase_perm (l := l) (k := k) (x := x) (by simpa using h)
    exact (List.Perm.swap a x (l.eraseIdx k)).trans (ih.cons a)
/-! ### data -/
def dInts (ns : List Int) : PyData := .list (ns.map .int)
def dGs (gs : List (Int × Int)) : PyData := .list (gs.map fun g => .tuple [.int g.1, .int g.2])
def dRows (rs : List (List Int)) : PyData := .list (rs.map dInts)
theorem canAll : ∀ {xs : List PyData}, (∀ x ∈ xs, x.canLay0 = true) → PyData.canLayAll0 xs = true
  | [], _ => by simp [PyData.canLayAll0]
  | x :: xs, h => by
    rw [PyData.canLayAll0, h x List.mem_cons_self, canAll fun y hy => h y (List.mem_cons_of_mem _ hy)]
    rfl
theorem depAll {n : Nat} : ∀ {xs : List PyData}, (∀ x ∈ xs, x.depth ≤ n) → PyData.depthAll xs ≤ n
  | [], _ => by simp [PyData.depthAll]
  | x :: xs, h => by
    rw [PyData.depthAll]
    exact Nat.max_le.mpr ⟨h x List.mem_cons_self, depAll fun y hy => h y (List.mem_cons_of_mem _ hy)⟩
structure Oks (n : Nat) (d : PyData) : Prop where
  can : d.canLay0 = true
  dep : d.depth ≤ n
theorem Oks.int (i : Int) : Oks 0 (.int i) := ⟨by simp [PyData.canLay0], by simp [PyData.depth]⟩
theorem Oks.mono {n m : Nat} {d : PyData} (h : Oks n d) (k : n ≤ m) : Oks m d := ⟨h.can, Nat.le_trans h.dep k⟩
theorem Oks.lst {n : Nat} {xs : List PyData} (h : ∀ x ∈ xs, Oks n x) : Oks (n + 1) (.list xs) := ⟨by rw [PyData.canLay0]; exact canAll fun x m => (h x m).can, by rw [PyData.depth]; exact Nat.succ_le_succ (depAll fun x m => (h x m).dep)⟩
theorem Oks.tup {n : Nat} {xs : List PyData} (h : ∀ x ∈ xs, Oks n x) : Oks (n + 1) (.tuple xs) := ⟨by rw [PyData.canLay0]; exact canAll fun x m => (h x m).can, by rw [PyData.depth]; exact Nat.succ_le_succ (depAll fun x m => (h x m).dep)⟩
theorem Oks.ints (ns : List Int) : Oks 1 (dInts ns) := .lst fun x m => by
  obtain ⟨n, _, rfl⟩ := List.mem_map.mp m
  exact .int n
theorem Oks.gs (gs : List (Int × Int)) : Oks 2 (dGs gs) := .lst fun x m => by
  obtain ⟨g, _, rfl⟩ := List.mem_map.mp m
  refine .tup fun y hy => ?_
  rcases List.mem_cons.mp hy with rfl | hy
  · exact .int _
  · rw [List.mem_singleton.mp hy]
    exact .int _
theorem Oks.rows (rs : List (List Int)) : Oks 2 (dRows rs) := .lst fun x m => by
  obtain ⟨r, _, rfl⟩ := List.mem_map.mp m
  exact .ints r
theorem Oks.shaped {n : Nat} {d : PyData} (h : Oks n d) (k : n ≤ 64 := by decide) : SeqAt.shaped d = true := by
  unfold SeqAt.shaped
  rw [h.can, decide_eq_true (Nat.le_trans h.dep k)]
  rfl
theorem Oks.eqv {n : Nat} {d : PyData} (h : Oks n d) : PyData.eqv d d = true := SeqAt.eqv_refl d h.can
theorem dp_ints {K : PySem.W.Frag} {H : Hp} {ns : List Int} : DpAll K H (ns.map V.int) (ns.map .int) := by
  induction ns with
  | nil => exact .nil
  | cons n ns ih => exact .cons (.int n) ih
theorem Dp.ints {K : PySem.W.Frag} {H : Hp} {a : Addr} {ns : List Int} (h : H a = some (.lst (ns.map V.int))) : Dp K H (.ref a) (dInts ns) := .lst (SqL.of h) dp_ints
theorem dpAll_of {K : PySem.W.Frag} {H : Hp} : ∀ {vs : List V} {ds : List PyData}, vs.length = ds.length → (∀ (i : Nat) (v : V) (d : PyData), vs[i]? = some v → ds[i]? = some d → Dp K H v d) → DpAll K H vs ds
  | [], [], _, _ => .nil
  | v :: vs, d :: ds, hl, h => .cons (h 0 v d rfl rfl) (dpAll_of (by simpa using hl) fun i v d e f => h (i + 1) v d (by simpa using e) (by simpa using f))
  | [], _ :: _, hl, _ => by simp at hl
  | _ :: _, [], hl, _ => by simp at hl
theorem GsAt.dp {K : PySem.W.Frag} {H : Hp} {B : Addr → Prop} {a : Addr} {ts : List Addr} {gs : List (Int × Int)} (h : GsAt H B a ts gs) : Dp K H (.ref a) (dGs gs) := by
  refine .lst h.seq (dpAll_of (by rw [List.length_map, List.length_map, h.len]) fun i v d e f => ?_)
  obtain ⟨t, g, rfl, eg, et⟩ := h.get e
  rw [List.getElem?_map, eg] at f
  obtain rfl := Option.some.inj f
  exact .tup (SqT.of et) (.cons (.int _) (.cons (.int _) .nil))
theorem RmsAt.dp {K : PySem.W.Frag} {H : Hp} {B : Addr → Prop} {a : Addr} {ts : List Addr} {rs : List (List Int)} (h : RmsAt H B a ts rs) : Dp K H (.ref a) (dRows rs) := by
  refine .lst h.seq (dpAll_of (by rw [List.length_map, List.length_map, h.len]) fun i v d e f => ?_)
  obtain ⟨t, r, rfl, _, er, et⟩ := h.get e
  rw [List.getElem?_map, er] at f
  obtain rfl := Option.some.inj f
  exact Dp.ints et
theorem eqv_nil (gs : List Int) : PyData.eqv (dInts gs) (dInts []) = gs.isEmpty := by
  cases gs with
  | nil => rfl
  | cons x r => rfl
theorem relTy (n : String) : RelV (.ty n) (.type n) := rfl
theorem FnOk.or {P : Program} {w : World} {K : PySem.W.Frag} {mg : Str → Option Value} {base : Heap} {CX : CXT} {k : Nat} {f : Addr} {fd : FuncData} {ps : List Str} {sp sp' : Sp} (F : FnOk P w K mg base CX k f fd ps sp) (F' : FnOk P w K mg base CX k f fd ps sp') :
    FnOk P w K mg base CX k f fd ps (fun vs H Q E => sp vs H Q E ∨ sp' vs H Q E) :=
  ⟨fun vs H Q E h => h.elim (F.len vs H Q E) (F'.len vs H Q E), fun A outer s H args us vs Q E hr e0 hb r h => h.elim (F.run A outer s H args us vs Q E hr e0 hb r) (F'.run A outer s H args us vs Q E hr e0 hb r)⟩
/-! ### built-ins by their names -/
structure Bi (mg : Str → Option Value) : Prop where
  len : mg "len" = none
  range : mg "range" = none
  enumerate : mg "enumerate" = none
  sorted : mg "sorted" = none
  sum : mg "sum" = none
  min : mg "min" = none
  max : mg "max" = none
  isinstance : mg "isinstance" = none
  zip : mg "zip" = none
  list_ : mg "list" = none
  tuple_ : mg "tuple" = none
  int_ : mg "int" = none
  bool_ : mg "bool" = none
  str_ : mg "str" = none
  abs : mg "abs" = none
  repr : mg "repr" = none
  dict_ : mg "dict" = none
  any : mg "any" = none
  all : mg "all" = none
  set_ : mg "set" = none
  reversed : mg "reversed" = none
  ValueError_ : mg "ValueError" = none
  divmod : mg "divmod" = none
end El
namespace El
open PySem PySem.Spec PyProof.Rows L2
/-- how many live in each -/
def lens (rs : List (List Int)) : List Int := rs.map fun r => (r.length : Int)
theorem lens_length (rs : List (List Int)) : (lens rs).length = rs.length := List.length_map _
theorem lens_at {rs : List (List Int)} {i : Nat} {r : List Int} (h : rs[i]? = some r) : (lens rs)[i]? = some (r.length : Int) := by
  unfold lens
  rw [List.getElem?_map, h]
  rfl
theorem cut_to (xs : List V) (j : Nat) : cutV xs none (some (j : Int)) = xs.take j := by
  unfold cutV
  rw [HT.sIx_none, HT.sIx_nat]
  show (List.drop 0 xs).take (min j xs.length - 0) = _
  rw [List.drop_zero, Nat.sub_zero, ← List.take_eq_take_min]
/-- the pair that stands at a value -/
def prOf (H : Hp) : V → Int × Int
  | .ref t => match H t with
    | some (.tup [.int i, .int j]) => (i, j)
    | _ => (0, 0)
  | _ => (0, 0)
theorem prOf_is {H : Hp} {t : Addr} {g : Int × Int} (h : H t = some (.tup [.int g.1, .int g.2])) : prOf H (.ref t) = g := by
  show (match H t with
    | some (.tup [.int i, .int j]) => (i, j)
    | _ => (0, 0)) = g
  rw [h]
theorem GsAt.prs {H : Hp} {B : Addr → Prop} {a : Addr} {ts : List Addr} {gs : List (Int × Int)} (h : GsAt H B a ts gs) : (ts.map V.ref).map (prOf H) = gs := by
  refine List.ext_getElem? fun i => ?_
  rw [List.getElem?_map]
  cases e : (ts.map V.ref)[i]? with
  | none =>
    have hl : (ts.map V.ref).length ≤ i := List.getElem?_eq_none_iff.mp e
    rw [List.length_map, h.len] at hl
    rw [List.getElem?_eq_none_iff.mpr hl]
    rfl
  | some x =>
    obtain ⟨t, g, rfl, eg, et⟩ := h.get e
    rw [eg]
    show some (prOf H (.ref t)) = some g
    rw [prOf_is et]
theorem GsAt.mem {H : Hp} {B : Addr → Prop} {a : Addr} {ts : List Addr} {gs : List (Int × Int)} (h : GsAt H B a ts gs) : ∀ x ∈ ts.map V.ref, ∃ t, x = V.ref t ∧ H t = some (.tup [.int (prOf H x).1, .int (prOf H x).2]) := fun x m => by
  obtain ⟨i, e⟩ := List.mem_iff_getElem?.mp m
  obtain ⟨t, g, rfl, eg, et⟩ := h.get e
  refine ⟨t, rfl, ?_⟩
  rw [prOf_is et]
  exact et
theorem sorted_prs {k : V → Int × Int} {ys xs : List V} {gs : List (Int × Int)} (f : Fit gs) (hx : xs.map k = gs) (hs : SrtO.Srtd (ltP k) ys) (hb : SrtO.Stb (ltP k) ys xs) : ys.reverse.map k = byAge gs := by
  refine byAge_of f ?_ ?_
  · rw [← hx]
    exact ((List.reverse_perm ys).trans hb.perm).map k
  · rw [List.map_reverse, List.pairwise_reverse, List.pairwise_map]
    refine hs.imp fun {a b} h => ?_
    have h' : SrtO.lexB (k b) (k a) = false := h
    rw [SrtO.lexB_no] at h'
    omega
theorem cut_1 (xs : List V) : cutV xs (some 1) none = xs.drop 1 := by
  unfold cutV
  rw [show HT.sIx xs.length 0 (some 1) = min 1 xs.length from HT.sIx_nat xs.length 0 1, HT.sIx_none]
  cases xs with
  | nil => rfl
  | cons x r =>
    rw [show min 1 (x :: r).length = 1 by
      rw [List.length_cons]
      omega]
    show (List.take ((x :: r).length - 1) r) = r
    rw [List.length_cons, Nat.add_sub_cancel]
    exact List.take_length
theorem lens_falls {gs : List (Int × Int)} (f : Fit gs) {i : Nat} {x y : Int} (h1 : (lens (settle gs))[i]? = some x) (h2 : ((lens (settle gs)).drop 1)[i]? = some y) : ¬ x < y := by
  rw [List.getElem?_drop] at h2
  unfold lens at h1 h2
  rw [List.getElem?_map] at h1 h2
  have hp := settleL_falls (byAge gs) f.byAge.pos
  cases e1 : (settle gs)[i]? with
  | none => rw [e1] at h1; cases h1
  | some r =>
    cases e2 : (settle gs)[1 + i]? with
    | none => rw [e2] at h2; cases h2
    | some s =>
      rw [e1] at h1
      rw [e2] at h2
      obtain rfl : (r.length : Int) = x := Option.some.inj h1
      obtain rfl : (s.length : Int) = y := Option.some.inj h2
      obtain ⟨l1, q1⟩ := List.getElem?_eq_some_iff.mp (show (settleL (byAge gs))[i]? = some r from e1)
      obtain ⟨l2, q2⟩ := List.getElem?_eq_some_iff.mp (show (settleL (byAge gs))[1 + i]? = some s from e2)
      have := List.pairwise_iff_getElem.mp hp i (1 + i) l1 l2 (by omega)
      rw [q1, q2] at this
      omega
theorem dget_pks {H : Hp} {d : Addr} {gs : List (Int × Int)} {g : Int × Int} (h : H d = some (.dK (pks gs))) (f : Fit gs) (m : g ∈ gs) : DGet H d (.int g.1) (some (.int g.2)) := by
  have q := DGet.k (k := Sum.inl g.1) h
  rw [pks_some f.nd m] at q
  exact q
theorem log_lt {m : Int} {k : Nat} (h0 : 0 < m) (h : m < 2 ^ k) : m.natAbs.log2 < k := by
  obtain ⟨j, rfl⟩ : ∃ j : Nat, m = j := ⟨m.toNat, by omega⟩
  have h' : j < 2 ^ k := by exact_mod_cast h
  rw [Int.natAbs_natCast]
  exact (Nat.log2_lt (by omega)).mpr h'
theorem GsAt.mix {H : Hp} {B B' : Addr → Prop} {a m : Addr} {ts : List Addr} {gs : List (Int × Int)} {ys : List V} (h : GsAt H B a ts gs) (e : H m = some (.lst ys)) (bm : B' m) (hb : ∀ b, B b → B' b) (p : ys.Perm (ts.map V.ref)) :
    ∃ ts' gs', GsAt H B' m ts' gs' ∧ gs'.Perm gs := by
  have hm : ∀ y ∈ ys, ∃ t, y = V.ref t ∧ t ∈ ts := fun y hy => by
    obtain ⟨t, ht, rfl⟩ := List.mem_map.mp (p.mem_iff.mp hy)
    exact ⟨t, rfl, ht⟩
  obtain ⟨us, rfl, hu⟩ : ∃ us : List Addr, ys = us.map V.ref ∧ ∀ u ∈ us, u ∈ ts := by
    clear p e
    induction ys with
    | nil => exact ⟨[], rfl, fun u hu => absurd hu (by simp)⟩
    | cons y ys ih =>
      obtain ⟨t, rfl, ht⟩ := hm y List.mem_cons_self
      obtain ⟨us, rfl, hu⟩ := ih fun z hz => hm z (List.mem_cons_of_mem _ hz)
      exact ⟨t :: us, rfl, fun u h => by
        rcases List.mem_cons.mp h with rfl | h
        · exact ht
        · exact hu u h⟩
  refine ⟨us, (us.map V.ref).map (prOf H), ⟨e, bm, by rw [List.length_map, List.length_map], fun i t g e1 e2 => ?_, fun t ht => hb t (h.b t (hu t ht))⟩, ?_⟩
  · rw [List.getElem?_map, List.getElem?_map, e1] at e2
    have e2' : prOf H (.ref t) = g := Option.some.inj e2
    obtain ⟨j, ej⟩ := List.mem_iff_getElem?.mp (hu t (List.mem_of_getElem? e1))
    obtain ⟨t', g', e3, eg, et⟩ := h.get (i := j) (x := .ref t) (by rw [List.getElem?_map, ej]; rfl)
    injection e3 with e3
    subst e3
    rw [prOf_is et] at e2'
    rw [← e2']
    exact et
  · have := p.map (prOf H)
    rw [h.prs] at this
    exact this
/-- put in anywhere -/
theorem GsAt.ins {H : Hp} {B : Addr → Prop} {a : Addr} {ts : List Addr} {gs : List (Int × Int)} {ys : List V} (h : GsAt H B a ts gs) (hn : a ∉ ts) {q : Addr} {g : Int × Int} (e : H q = some (.tup [.int g.1, .int g.2])) (bq : B q) (p : ys.Perm (ts.map V.ref ++ [.ref q])) :
    ∃ ts' gs', GsAt (upd H a (.lst ys)) B a ts' gs' ∧ gs'.Perm (gs ++ [g]) ∧ a ∉ ts' ∧ ys = ts'.map V.ref := by
  have nq : q ≠ a := fun z => by
    rw [z, h.top] at e
    cases e
  have hm : ∀ y ∈ ys, ∃ t, y = V.ref t ∧ t ∈ ts ++ [q] := fun y hy => by
    rcases List.mem_append.mp (p.mem_iff.mp hy) with m | m
    · obtain ⟨t, ht, rfl⟩ := List.mem_map.mp m
      exact ⟨t, rfl, List.mem_append_left _ ht⟩
    · exact ⟨q, List.mem_singleton.mp m, List.mem_append_right _ (List.mem_singleton.mpr rfl)⟩
  obtain ⟨us, rfl, hu⟩ : ∃ us : List Addr, ys = us.map V.ref ∧ ∀ u ∈ us, u ∈ ts ++ [q] := by
    clear p
    induction ys with
    | nil => exact ⟨[], rfl, fun u hu => absurd hu (by simp)⟩
    | cons y ys ih =>
      obtain ⟨t, rfl, ht⟩ := hm y List.mem_cons_self
      obtain ⟨us, rfl, hu⟩ := ih fun z hz => hm z (List.mem_cons_of_mem _ hz)
      exact ⟨t :: us, rfl, fun u h => by
        rcases List.mem_cons.mp h with rfl | h
        · exact ht
        · exact hu u h⟩
  have ha : ∀ u ∈ us, u ≠ a ∧ B u ∧ ∃ x : Int × Int, H u = some (.tup [.int x.1, .int x.2]) := fun u m => by
    rcases List.mem_append.mp (hu u m) with m | m
    · obtain ⟨j, ej⟩ := List.mem_iff_getElem?.mp m
      obtain ⟨t', g', e3, eg, et⟩ := h.get (i := j) (x := .ref u) (by rw [List.getElem?_map, ej]; rfl)
      injection e3 with e3
      subst e3
      exact ⟨fun z => hn (z ▸ m), h.b u m, g', et⟩
    · rw [List.mem_singleton.mp m]
      exact ⟨nq, bq, g, e⟩
  refine ⟨us, (us.map V.ref).map (prOf H), ⟨upd_same, h.ba, by rw [List.length_map, List.length_map], fun i t x e1 e2 => ?_, fun t m => (ha t m).2.1⟩, ?_, fun m => (ha a m).1 rfl, rfl⟩
  · rw [List.getElem?_map, List.getElem?_map, e1] at e2
    have e2' : prOf H (.ref t) = x := Option.some.inj e2
    obtain ⟨n1, _, y, ey⟩ := ha t (List.mem_of_getElem? e1)
    rw [prOf_is ey] at e2'
    subst e2'
    rw [upd_ne n1]
    exact ey
  · have := p.map (prOf H)
    rw [List.map_append, h.prs] at this
    rw [show [V.ref q].map (prOf H) = [g] by show [prOf H (.ref q)] = [g]; rw [prOf_is e]] at this
    exact this
theorem GsAt.cat {H : Hp} {B : Addr → Prop} {a l : Addr} {ts : List Addr} {gs : List (Int × Int)} (h : GsAt H B a ts gs) {q : Addr} {g : Int × Int} (e : H q = some (.tup [.int g.1, .int g.2])) (el : H l = some (.lst (ts.map V.ref ++ [.ref q]))) :
    GsAt H (fun _ => True) l (ts ++ [q]) (gs ++ [g]) := by
  refine ⟨by rw [List.map_append]; exact el, trivial, by rw [List.length_append, List.length_append, h.len]; rfl, fun i t x e1 e2 => ?_, fun _ _ => trivial⟩
  by_cases hi : i < ts.length
  · rw [List.getElem?_append_left hi] at e1
    rw [List.getElem?_append_left (by rw [← h.len]; exact hi)] at e2
    exact h.at' i t x e1 e2
  · have hi' : i = ts.length := by
      have := at_lt e1
      rw [List.length_append, List.length_singleton] at this
      omega
    subst hi'
    rw [List.getElem?_append_right (Nat.le_refl _), Nat.sub_self] at e1
    rw [h.len, List.getElem?_append_right (Nat.le_refl _), Nat.sub_self] at e2
    obtain rfl : q = t := Option.some.inj e1
    obtain rfl : g = x := Option.some.inj e2
    exact e
theorem inV_ints (x : Int) (ns : List Int) : inV (.int x) (ns.map V.int) = decide (x ∈ ns) := by
  unfold inV
  rw [List.any_map]
  induction ns with
  | nil => rfl
  | cons n ns ih =>
    rw [List.any_cons, ih]
    have e : ((fun y => eqV y (V.int x)) ∘ V.int) n = decide (x = n) := by
      show eqV (.int n) (.int x) = decide (x = n)
      have e2 : eqV (.int n) (.int x) = decide (n = x) := by
        unfold eqV
        first | rfl | simp
      rw [e2]
      by_cases h : n = x
      · subst h; simp
      · rw [decide_eq_false h, decide_eq_false (fun z => h z.symm)]
    rw [e]
    by_cases h : x = n
    · subst h
      simp
    · rw [decide_eq_false h, Bool.false_or]
      by_cases h2 : x ∈ ns
      · rw [decide_eq_true h2, decide_eq_true (List.mem_cons_of_mem _ h2)]
      · rw [decide_eq_false h2, decide_eq_false (fun z => (List.mem_cons.mp z).elim h h2)]
theorem flat_ints (ns : List Int) : (ns.map V.int).all flatV = true := by
  rw [List.all_map, List.all_eq_true]
  intro x _
  rfl
theorem eqvAll_ints : ∀ a b : List Int, PyData.eqvAll (a.map .int) (b.map .int) = decide (a = b)
  | [], [] => rfl
  | [], y :: b => by
    rw [decide_eq_false (by simp)]
    rfl
  | x :: a, [] => by
    rw [decide_eq_false (by simp)]
    rfl
  | x :: a, y :: b => by
    rw [List.map_cons, List.map_cons, PyData.eqvAll, eqvAll_ints a b]
    show ((x == y) && decide (a = b)) = _
    by_cases h : x = y
    · subst h
      by_cases h2 : a = b
      · subst h2
        simp
      · rw [decide_eq_false h2, decide_eq_false (fun z => h2 (List.cons.inj z).2)]
        simp
    · have : (x == y) = false := by simpa using h
      rw [this, decide_eq_false (fun z => h (List.cons.inj z).1)]
      rfl
theorem eqv_ints (a b : List Int) : PyData.eqv (dInts a) (dInts b) = decide (a = b) := by
  unfold dInts
  rw [PyData.eqv]
  exact eqvAll_ints a b
theorem cut_at (xs : List V) (k : Nat) : cutV xs (some (k : Int)) (some ((k : Int) + 1)) = (xs.drop k).take 1 := by
  unfold cutV
  rw [HT.sIx_nat, show (k : Int) + 1 = ((k + 1 : Nat) : Int) by omega, HT.sIx_nat]
  by_cases h : k < xs.length
  · rw [Nat.min_eq_left (by omega), Nat.min_eq_left (by omega), Nat.add_sub_cancel_left]
  · have h1 : min k xs.length = xs.length := by omega
    have h2 : min (k + 1) xs.length = xs.length := by omega
    rw [h1, h2, Nat.sub_self, List.take_zero, List.drop_of_length_le (show xs.length ≤ k by omega)]
    rfl
theorem drop_take1 (L : List Int) (k : Nat) : (L.drop k).take 1 = L[k]?.toList := by
  by_cases h : k < L.length
  · rw [List.getElem?_eq_getElem h, List.drop_eq_getElem_cons h]
    rfl
  · rw [List.getElem?_eq_none (by omega), List.drop_of_length_le (by omega)]
    rfl
end El
namespace El
open PySem PySem.Spec PyProof.Rows L2
def topS (i : Nat) : Stmt := PySem.Challenge.pw_elderinn_k02_sizes_told.main.body.getD i (.Pass ⟨0, 0, 0, 0⟩)
end El
namespace El
open PySem PySem.Spec PyProof.Rows L2
section
variable {P : Program} {w : World} {K : PySem.W.Frag} {mg : Str → Option Value} {base : Heap}
abbrev s_patience_by_age : Stmt := topS 5
abbrev N_patience_by_age : List Str := ["guests", "patience_of", "number", "age", "patience"]
abbrev P_patience_by_age : List Str := ["guests"]
theorem sc_patience_by_age : FnScope N_patience_by_age P_patience_by_age (defScope s_patience_by_age) := ⟨rfl, rfl, rfl, by decide +kernel, rfl, by decide +kernel, by decide +kernel⟩
def sp_patience_by_age : Sp := fun vs H Q _ => ∃ (B : Addr → Prop) (a : Addr) (ts : List Addr) (gs : List (Int × Int)), vs = [.ref a] ∧ GsAt H B a ts gs ∧ Fit gs ∧ gs.length ≤ 1000 ∧
  ∀ H' d, Same H H' → H d = none → H' d = some (.dK (pks gs)) → Q (.ref d) H'
theorem ok_patience_by_age (A : At K mg "patience_by_age" P_patience_by_age s_patience_by_age) (B : Bi mg) : Df P w K mg base 1 "patience_by_age" P_patience_by_age s_patience_by_age sp_patience_by_age := by
  refine A.df fun f fd F => F.ok sc_patience_by_age (fun vs H Q E h => ?_) (fun cdv AA outer s H vs Q E hr h => ?_)
  · obtain ⟨_, a, _, _, rfl, _⟩ := h
    rfl
  · obtain ⟨BB, a, ts, gs, rfl, hG, hF, hl, q⟩ := h
    have nd := sc_patience_by_age.nd
    refine ⟨_, (pss_cons (ps_set (i := 1) nd rfl (.inl rfl) pe_dnewK)
    (pss_cons (ps_for PassesOwn.never rfl (pi_enum (by rfl) B.enumerate (pa_cons (pv 0) pa_nil)) (pg_tup (by rfl) (pgs_cons (pg_name (i := 2) nd rfl (.inl rfl)) (pgs_cons (pg_tup (by rfl) (pgs_cons (pg_name (i := 3) nd rfl (.inl rfl)) (pgs_cons (pg_name (i := 4) nd rfl (.inl rfl)) pgs_nil))) pgs_nil))) (pss_cons (ps_if (PW.pt (pw_or (pt_cmpR op_lt (pv 4) pe_int (nomark _)) (pw_or1 (pt_cmp (pc_din (hu_of hr) (pv 3) (pv 1)))))) (pss_one ps_never) pss_nil) (pss_one (ps_dput (hu_of hr) (pv 1) (pv 3) (pv 4) rfl))))
    (pss_one (ps_ret (pv 1))))), ?_⟩
    -- patience_of = {}
    refine fun d nd => ?_
    have hG1 := hG.same (same_new (o := .dK []) nd)
    -- the loop
    refine ⟨.ref a, rfl, a, ts.map V.ref, rfl, hG1.seq, ?_⟩
    refine for_it (walk_enum (xs := ts.map V.ref)) (fun i σ H2 => ∃ y2 y3 y4, σ = [some (.ref a), some (.ref d), y2, y3, y4] ∧ Same H H2 ∧ H2 d = some (.dK (pks (gs.take i)))) ⟨none, none, none, rfl, same_new nd, upd_same⟩ (fun i σ H2 _ hW => ?_) (fun i x σ H2 H3 hi hW hY => ?_) (fun σ H2 hW => ?_)
    · obtain ⟨_, _, _, _, sm, _⟩ := hW
      exact (hG.same sm).seq
    · obtain ⟨y2, y3, y4, rfl, sm, hd⟩ := hW
      obtain ⟨T, x1, x2, rfl, nT, rfl, f1, f2⟩ := hY
      obtain rfl : V.int ↑i = x1 := Option.some.inj f1
      obtain ⟨t, g, rfl, eg, et⟩ := (hG.same sm).get f2
      have s3 : Same H2 (upd H2 T (.tup [.int i, .ref t])) := same_new nT
      refine ⟨T, [.int i, .ref t], rfl, SqT.of upd_same, rfl, .int i, [.ref t], rfl, .ref t, [], rfl, ?_⟩
      refine ⟨t, _, rfl, SqT.of (s3 _ _ et), rfl, .int g.1, [.int g.2], rfl, .int g.2, [], rfl, rfl, rfl, ?_⟩
      -- the test
      have hg : 0 ≤ g.2 := hF.pos g (List.mem_of_getElem? eg)
      have no := hF.take_no eg
      refine ⟨.int g.2, rfl, _, _, rfl, rfl, _, rfl, ?_⟩
      rw [decide_eq_false (by omega)]
      refine iteF ?_
      refine ⟨.int g.1, rfl, .ref d, rfl, d, _, rfl, DGet.k (k := Sum.inl g.1) (s3 _ _ hd), _, rfl, ?_⟩
      rw [pks_none no]
      refine iteF ?_
      refine ⟨.int g.2, rfl, .ref d, rfl, .int g.1, rfl, d, _, rfl, DPut.k (k := Sum.inl g.1) (s3 _ _ hd) (ils (by rw [pks_len, List.length_take]; omega)), ?_⟩
      refine ⟨some (.int i), some (.int g.1), some (.int g.2), rfl, Same.mut (Same.trans sm s3) nd, ?_⟩
      rw [upd_same, putK_snoc no, take_snoc eg]
    · obtain ⟨y2, y3, y4, rfl, sm, hd⟩ := hW
      rw [show (ts.map V.ref).length = gs.length by rw [List.length_map, hG.len], take_full] at hd
      exact ⟨.ref d, rfl, q H2 d sm nd hd⟩
end
end El
namespace El
open PySem PySem.Spec PyProof.Rows L2
section
variable {P : Program} {w : World} {K : PySem.W.Frag} {mg : Str → Option Value} {base : Heap}
abbrev s_first_borne : Stmt := topS 9
abbrev N_first_borne : List Str := ["filled", "patience", "number", "room"]
abbrev P_first_borne : List Str := ["filled", "patience"]
theorem sc_first_borne : FnScope N_first_borne P_first_borne (defScope s_first_borne) := ⟨rfl, rfl, rfl, by decide +kernel, rfl, by decide +kernel, by decide +kernel⟩
def sp_first_borne : Sp := fun vs H Q _ => ∃ (B : Addr → Prop) (o : Addr) (ts : List Addr) (rs : List (List Int)) (p : Int), vs = [.ref o, .int p] ∧ RmsAt H B o ts rs ∧ rs.length ≤ 1000 ∧
  ∀ H', Same H H' → Q (.int (firstB rs p)) H'
theorem ok_first_borne (A : At K mg "first_borne" P_first_borne s_first_borne) (B : Bi mg) : Df P w K mg base 1 "first_borne" P_first_borne s_first_borne sp_first_borne := by
  refine A.df fun f fd F => F.ok sc_first_borne (fun vs H Q E h => ?_) (fun cdv AA outer s H vs Q E hr h => ?_)
  · obtain ⟨_, _, _, _, _, rfl, _⟩ := h
    rfl
  · obtain ⟨BB, o, ts, rs, p, rfl, hR, hl, q⟩ := h
    have nd := sc_first_borne.nd
    refine ⟨_, (pss_cons (ps_for PassesOwn.never rfl (pi_enum (by rfl) B.enumerate (pa_cons (pv 0) pa_nil)) (pg_tup (by rfl) (pgs_cons (pg_name (i := 2) nd rfl (.inl rfl)) (pgs_cons (pg_name (i := 3) nd rfl (.inl rfl)) pgs_nil))) (pss_one (ps_if (pt_cmpR op_le (pe_callB call_len_seq (by rfl) B.len PySem.boot_len (pa_cons (pv 3) pa_nil)) (pv 1) (nomark _)) (pss_one (ps_ret (pv 2))) pss_nil)))
    (pss_one (ps_ret (pe_callB call_len_seq (by rfl) B.len PySem.boot_len (pa_cons (pv 0) pa_nil))))), ?_⟩
    refine ⟨.ref o, rfl, o, ts.map V.ref, rfl, hR.seq, ?_⟩
    refine for_it (walk_enum (xs := ts.map V.ref)) (fun i σ H2 => ∃ y2 y3, σ = [some (.ref o), some (.int p), y2, y3] ∧ Same H H2 ∧ ∀ j r, j < i → rs[j]? = some r → p < (r.length : Int)) ⟨none, none, rfl, Same.refl _, fun j r h => absurd h (Nat.not_lt_zero _)⟩ (fun i σ H2 _ hW => ?_) (fun i x σ H2 H3 hi hW hY => ?_) (fun σ H2 hW => ?_)
    · obtain ⟨_, _, _, sm, _⟩ := hW
      exact (hR.same sm).seq
    · obtain ⟨y2, y3, rfl, sm, hp⟩ := hW
      obtain ⟨T, x1, x2, rfl, nT, rfl, f1, f2⟩ := hY
      obtain rfl : V.int ↑i = x1 := Option.some.inj f1
      obtain ⟨t, r, rfl, _, er, et⟩ := (hR.same sm).get f2
      have s3 : Same H2 (upd H2 T (.tup [.int i, .ref t])) := same_new nT
      refine ⟨T, [.int i, .ref t], rfl, SqT.of upd_same, rfl, .int i, [.ref t], rfl, .ref t, [], rfl, rfl, ?_⟩
      refine ⟨.ref t, rfl, t, _, rfl, .inl (SqL.of (s3 _ _ et)), .int p, rfl, _, _, rfl, rfl, _, rfl, ite2 (fun e => ?_) (fun e => ?_)⟩
      · have e := of_decide_eq_true e
        rw [List.length_map] at e
        have hb : firstB rs p = i := firstB_is rs p i (Nat.le_of_lt (at_lt er)) hp fun r' e' => by
          obtain rfl : r = r' := Option.some.inj (er.symm.trans e')
          exact e
        refine ⟨.int i, rfl, ?_⟩
        have q' := q (upd H2 T (.tup [.int i, .ref t])) (sm.trans s3)
        rw [hb] at q'
        exact q'
      · have e : ¬ (((r.map V.int).length : Int) ≤ p) := fun z => e (decide_eq_true z)
        rw [List.length_map] at e
        refine ⟨some (.int i), some (.ref t), rfl, sm.trans s3, fun j r' hj e' => ?_⟩
        by_cases hji : j < i
        · exact hp j r' hji e'
        · have : j = i := by omega
          subst this
          obtain rfl : r = r' := Option.some.inj (er.symm.trans e')
          omega
    · obtain ⟨y2, y3, rfl, sm, hp⟩ := hW
      have hn : (ts.map V.ref).length = rs.length := by rw [List.length_map, hR.len]
      rw [hn] at hp
      have hb : firstB rs p = rs.length := firstB_is rs p _ (Nat.le_refl _) hp fun r' e' => absurd (at_lt e') (Nat.lt_irrefl _)
      refine ⟨.ref o, rfl, o, _, rfl, .inl (hR.same sm).seq, ?_⟩
      have q' := q H2 sm
      rw [hb, ← hn] at q'
      exact q'
end
end El
namespace El
open PySem PySem.Spec PyProof.Rows L2
section
variable {P : Program} {w : World} {K : PySem.W.Frag} {mg : Str → Option Value} {base : Heap}
abbrev s_rooms : Stmt := topS 8
abbrev N_rooms : List Str := ["guests", "patience_of", "told", "age", "number"]
abbrev P_rooms : List Str := ["guests"]
theorem sc_rooms : FnScope N_rooms P_rooms (defScope s_rooms) := ⟨rfl, rfl, rfl, by decide +kernel, rfl, by decide +kernel, by decide +kernel⟩
def sp_rooms : Sp := fun vs H Q _ => ∃ (B : Addr → Prop) (a : Addr) (ts : List Addr) (gs : List (Int × Int)), vs = [.ref a] ∧ GsAt H B a ts gs ∧ Fit gs ∧ gs.length ≤ 1000 ∧
  ∀ H' o us, Same H H' → RmsAt H' (fun b => H b = none) o us (settle gs) → Q (.ref o) H'
theorem ok_rooms (A : At K mg "rooms" P_rooms s_rooms) (B : Bi mg) (D_patience_by_age : Df P w K mg base 1 "patience_by_age" P_patience_by_age s_patience_by_age sp_patience_by_age)
    (D_first_borne : Df P w K mg base 1 "first_borne" P_first_borne s_first_borne sp_first_borne) : Df P w K mg base 2 "rooms" P_rooms s_rooms sp_rooms := by
  refine A.df fun f fd F => F.ok sc_rooms (fun vs H Q E h => ?_) (fun cdv AA outer s H vs Q E hr h => ?_)
  · obtain ⟨_, a, _, _, rfl, _⟩ := h
    rfl
  · obtain ⟨BB, a, ts, gs, rfl, hG, hF, hl, q⟩ := h
    have nd := sc_rooms.nd
    refine ⟨_, (pss_cons (ps_set (i := 1) nd rfl (.inl rfl) (pe_df D_patience_by_age (hr.mono (by decide)) (by rfl) (pa_cons (pv 0) pa_nil)))
    (pss_cons (ps_set (i := 2) nd rfl (.inl rfl) (pe_lst pa_nil))
    (pss_cons (ps_for PassesOwn.never rfl (pi_list (pe_callBK (cr_sortedRevD (b := true) rfl) (by rfl) B.sorted (by decide +kernel) (pa_cons (pv 1) pa_nil) (pk_cons pe_bl pk_nil))) (pg_name (i := 3) nd rfl (.inl rfl)) (pss_cons (ps_set (i := 4) nd rfl (.inl rfl) (pe_df D_first_borne (hr.mono (by decide)) (by rfl) (pa_cons (pv 2) (pa_cons (pe_dget (hu_of hr) (pv 1) (pv 3) (fun _ _ => rfl)) pa_nil)))) (pss_cons (ps_if (pt_cmpR op_eq (pv 4) (pe_callB call_len_seq (by rfl) B.len PySem.boot_len (pa_cons (pv 2) pa_nil)) (nomark _)) (pss_one (ps_expr (pe_bm PySem.F.plainAttrs_list PySem.F.slot_list_append PySem.F.type_list_append mt_append (pv 2) (pa_cons (pe_lst pa_nil) pa_nil)))) pss_nil) (pss_one (ps_expr (pe_bm PySem.F.plainAttrs_list PySem.F.slot_list_append PySem.F.type_list_append mt_append (pe_ix ix_list (pv 2) (pv 4) (fun _ _ => rfl)) (pa_cons (pv 3) pa_nil)))))))
    (pss_one (ps_ret (pv 2)))))), ?_⟩
    -- patience_of = patience_by_age(guests)
    refine ⟨.ref a, rfl, BB, a, ts, gs, rfl, hG, hF, hl, fun H1 d s1 n1 e1 => ?_⟩
    -- told = []
    refine ⟨Nat.zero_le _, fun o no => ?_⟩
    have s2 : Same H1 (upd H1 o (.lst [])) := same_new no
    -- sorted(patience_of, reverse=True)
    refine ⟨.ref d, rfl, d, pks gs, gs.map (·.1), rfl, rfl, .inl (s2 _ _ e1), pks_keys gs, fun ns p hp ho np => ?_⟩
    have hns : ns = (byAge gs).map (·.1) := ages_of hF hp ho
    subst hns
    have s3 : Same (upd H1 o (.lst [])) (upd (upd H1 o (.lst [])) p (.lst (((byAge gs).map (·.1)).map V.int))) := same_new np
    have sH : Same H (upd (upd H1 o (.lst [])) p (.lst (((byAge gs).map (·.1)).map V.int))) := s1.trans (s2.trans s3)
    refine ⟨p, rfl, ⟨_, SqL.of upd_same⟩, ?_⟩
    have hpo : o ≠ p := (no_of upd_same np).symm
    have eo : upd (upd H1 o (.lst [])) p (.lst (((byAge gs).map (·.1)).map V.int)) o = some (.lst []) := by
      rw [upd_ne hpo, upd_same]
    have ep : upd (upd H1 o (.lst [])) p (.lst (((byAge gs).map (·.1)).map V.int)) p = some (.lst (((byAge gs).map (·.1)).map V.int)) := upd_same
    have ed := s3 _ _ (s2 _ _ e1)
    have hdo : d ≠ o := ne_of_none e1 no
    have no' : H o = none := s1.free no
    revert eo ep ed sH
    generalize upd (upd H1 o (.lst [])) p (.lst (((byAge gs).map (·.1)).map V.int)) = Hs
    intro sH eo ep ed
    refine for_it (walk_list (xs := ((byAge gs).map (·.1)).map V.int)) (fun i σ H2 => ∃ us y3 y4, σ = [some (.ref a), some (.ref d), some (.ref o), y3, y4] ∧ Kp (fun b => b ≠ o) Hs H2 ∧ RmsAt H2 (fun b => b = o ∨ Hs b = none) o us (settleL ((byAge gs).take i)))
      ⟨[], none, none, rfl, Kp.refl, RmsAt.nil eo (.inl rfl)⟩ (fun i σ H2 _ hW => ?_) (fun i x σ H2 H3 hi hW hY => ?_) (fun σ H2 hW => ?_)
    · obtain ⟨_, _, _, _, kp, _⟩ := hW
      exact SqL.of (kp _ _ hpo.symm ep)
    · obtain ⟨us, y3, y4, rfl, kp, hR⟩ := hW
      obtain ⟨rfl, hx⟩ := hY
      obtain ⟨n, hx', rfl⟩ := ints_at hx
      have hi' : i < (byAge gs).length := by
        have := at_lt hx'
        rw [List.length_map] at this
        exact this
      obtain ⟨g, eg⟩ := at_some hi'
      rw [List.getElem?_map, eg] at hx'
      obtain rfl : g.1 = n := Option.some.inj hx'
      have hm : g ∈ gs := (byAge_perm gs).mem_iff.mp (List.mem_of_getElem? eg)
      have hlt : (settleL ((byAge gs).take i)).length ≤ 1000 := by
        refine Nat.le_trans (settleL_len _) ?_
        rw [List.length_take, byAge_length]
        omega
      have hE := settleL_take eg
      have hrm : ∀ r ∈ settleL ((byAge gs).take i), r.length ≤ 1000 := fun r hr => by
        refine Nat.le_trans (settleL_room hr) ?_
        rw [List.length_take, byAge_length]
        omega
      revert hlt hE hR hrm
      generalize settleL ((byAge gs).take i) = rs
      intro hR hlt hE hrm
      -- number = first_borne(told, patience_of[age])
      refine ⟨.ref o, rfl, .ref d, rfl, .int g.1, rfl, d, .int g.2, rfl, dget_pks (kp _ _ hdo ed) hF hm, _, o, us, _, g.2, rfl, hR, hlt, fun H4 s4 => ?_⟩
      have hR4 := hR.same s4
      have k4 : Kp (fun b => b ≠ o) Hs H4 := kp.trans (.of s4)
      have fin : ∀ {H5 : Hp} {us' : List Addr} {rs' : List (List Int)} {t : Addr} {r : List Int}, Kp (fun b => b ≠ o) Hs H5 → RmsAt H5 (fun b => b = o ∨ Hs b = none) o us' rs' → us'[firstB rs g.2]? = some t → place rs g.1 g.2 = rs'.set (firstB rs g.2) (r ++ [g.1]) →
          ∃ us y3 y4, [some (V.ref a), some (.ref d), some (.ref o), some (.int g.1), some (.int (firstB rs g.2))] = [some (V.ref a), some (.ref d), some (.ref o), y3, y4] ∧ Kp (fun b => b ≠ o) Hs (upd H5 t (.lst (r.map V.int ++ [.int g.1]))) ∧ RmsAt (upd H5 t (.lst (r.map V.int ++ [.int g.1]))) (fun b => b = o ∨ Hs b = none) o us (settleL ((byAge gs).take (i + 1))) := by
        intro H5 us' rs' t r k5 hR5 et ep
        refine ⟨us', _, _, rfl, ?_, ?_⟩
        · rcases hR5.b t (List.mem_of_getElem? et) with z | z
          · exact absurd (z ▸ List.mem_of_getElem? et) hR5.no
          · exact k5.mutF z
        · have z := hR5.set et (r ++ [g.1])
          rw [List.map_append] at z
          rw [hE, ep]
          exact z
      -- if number == len(told)
      refine ⟨_, rfl, .ref o, rfl, o, _, rfl, .inl hR4.seq, rfl, _, rfl, ite2 (fun e => ?_) (fun e => ?_)⟩
      · have e := V.int.inj (of_decide_eq_true e)
        rw [List.length_map, hR.len] at e
        have e : firstB rs g.2 = rs.length := by omega
        refine ⟨.ref o, rfl, .inl ⟨rfl, _, hR4.seq⟩, Nat.zero_le _, fun u nu => ?_⟩
        have nuo : o ≠ u := ne_of_none hR4.top nu
        refine ⟨o, _, _, rfl, rfl, (by rw [upd_ne nuo]; exact hR4.top), ils (by rw [List.length_map, hR.len]; omega), ?_⟩
        have hns : Hs u = none := k4.none nuo.symm nu
        have hR5 := hR4.push (r := []) nu (.inr hns)
        have k5 : Kp (fun b => b ≠ o) Hs (upd (upd H4 u (.lst [])) o (.lst (us.map V.ref ++ [.ref u]))) := Kp.mut (Kp.new k4 nu) (fun z => z rfl)
        have et : (us ++ [u])[firstB rs g.2]? = some u := by
          rw [e, ← hR.len, List.getElem?_append_right (Nat.le_refl _), Nat.sub_self]
          rfl
        have er : (rs ++ [[]])[firstB rs g.2]? = some [] := by
          rw [e, List.getElem?_append_right (Nat.le_refl _), Nat.sub_self]
          rfl
        have eu := hR5.at' _ _ _ et er
        refine ⟨.ref o, rfl, _, rfl, o, _, _, .ref u, rfl, rfl, SqL.of (by rw [upd_same]), atI_nat (j := firstB rs g.2) ?_, .inl ⟨rfl, _, SqL.of eu⟩, .int g.1, rfl, u, _, _, rfl, rfl, eu, ils (Nat.zero_le _), ?_⟩
        · have z := congrArg (Option.map V.ref) et
          rw [← List.getElem?_map, List.map_append] at z
          exact z
        · refine fin (r := []) k5 hR5 et ?_
          rw [place_new _ _ _ e, e, List.set_append_right _ _ (Nat.le_refl _), Nat.sub_self]
          rfl
      · have e : ¬ firstB rs g.2 = rs.length := fun z => e (decide_eq_true (by rw [List.length_map, hR.len, z]))
        have hle := firstB_le rs g.2
        obtain ⟨r, er, _⟩ := firstB_in rs g.2 (by omega)
        obtain ⟨t, et, eu⟩ := hR4.of er
        refine ⟨.ref o, rfl, _, rfl, o, _, _, .ref t, rfl, rfl, hR4.seq, atI_nat (j := firstB rs g.2) ?_, .inl ⟨rfl, _, SqL.of eu⟩, .int g.1, rfl, t, _, _, rfl, rfl, eu, ils (by rw [List.length_map]; have := hrm r (List.mem_of_getElem? er); omega), ?_⟩
        · rw [List.getElem?_map, et]
          rfl
        · exact fin k4 hR4 et (place_at _ _ _ _ er)
    · obtain ⟨us, y3, y4, rfl, kp, hR⟩ := hW
      rw [List.length_map, List.length_map, take_full] at hR
      refine ⟨.ref o, rfl, q H2 o us ?_ (hR.newTop (fun _ _ _ e => e) fun b hb => ?_)⟩
      · intro b x hb
        exact kp _ _ (ne_of_none hb no') (sH _ _ hb)
      · rcases hb with rfl | hb
        · exact no'
        · rcases hR.b b hb with rfl | z
          · exact no'
          · exact sH.free z
end
end El
namespace El
open PySem PySem.Spec PyProof.Rows L2
section
variable {P : Program} {w : World} {K : PySem.W.Frag} {mg : Str → Option Value} {base : Heap}
abbrev s_check_first : Stmt := topS 6
abbrev N_check_first : List Str := ["j"]
abbrev P_check_first : List Str := ["j"]
theorem sc_check_first : FnScope N_check_first P_check_first (defScope s_check_first) := ⟨rfl, rfl, rfl, by decide +kernel, rfl, by decide +kernel, by decide +kernel⟩
def sp_check_first : Sp := fun vs H Q _ => ∃ j : Nat, vs = [.int (j : Int)] ∧ Q .non H
theorem ok_check_first (A : At K mg "check_first" P_check_first s_check_first) : Df P w K mg base 1 "check_first" P_check_first s_check_first sp_check_first := by
  refine A.df fun f fd F => F.ok sc_check_first (fun vs H Q E h => ?_) (fun cdv AA outer s H vs Q E hr h => ?_)
  · obtain ⟨_, rfl, _⟩ := h
    rfl
  · obtain ⟨j, rfl, q⟩ := h
    have nd := sc_check_first.nd
    refine ⟨_, (pss_one (ps_if (pt_cmpR op_lt (pv 0) pe_int (nomark _)) (pss_one ps_never) pss_nil)), ?_⟩
    refine ⟨_, rfl, _, _, rfl, rfl, _, rfl, ?_⟩
    rw [decide_eq_false (by omega)]
    exact iteF q
end
end El
namespace El
open PySem PySem.Spec PyProof.Rows L2
section
variable {P : Program} {w : World} {K : PySem.W.Frag} {mg : Str → Option Value} {base : Heap}
abbrev s_sizes : Stmt := topS 10
abbrev N_sizes : List Str := ["guests", "room"]
abbrev P_sizes : List Str := ["guests"]
theorem sc_sizes : FnScope N_sizes P_sizes (defScope s_sizes) := ⟨rfl, rfl, rfl, by decide +kernel, rfl, by decide +kernel, by decide +kernel⟩
def sp_sizes : Sp := fun vs H Q _ => ∃ (B : Addr → Prop) (a : Addr) (ts : List Addr) (gs : List (Int × Int)), vs = [.ref a] ∧ GsAt H B a ts gs ∧ Fit gs ∧ gs.length ≤ 1000 ∧
  ∀ H' o, Same H H' → H o = none → H' o = some (.lst ((lens (settle gs)).map V.int)) → Q (.ref o) H'
theorem ok_sizes (A : At K mg "sizes" P_sizes s_sizes) (B : Bi mg) (D_rooms : Df P w K mg base 2 "rooms" P_rooms s_rooms sp_rooms) : Df P w K mg base 3 "sizes" P_sizes s_sizes sp_sizes := by
  refine A.df fun f fd F => F.ok sc_sizes (fun vs H Q E h => ?_) (fun cdv AA outer s H vs Q E hr h => ?_)
  · obtain ⟨_, a, _, _, rfl, _⟩ := h
    rfl
  · obtain ⟨BB, a, ts, gs, rfl, hG, hF, hl, q⟩ := h
    have nd := sc_sizes.nd
    refine ⟨_, (pss_one (ps_ret (pe_lc (own := [("room", 1)]) (tt := tYes) rfl nd (pi_list (pe_df D_rooms (hr.mono (by decide)) (by rfl) (pa_cons (pv 0) pa_nil))) (blkOk_by (N := N_sizes) (sc := defScope s_sizes) (by decide +kernel)) (fun _ _ _ _ _ => (pg_name (i := 1) nd rfl (.inl rfl))) (fun _ _ _ _ _ => pts_nil) (fun _ _ _ _ _ => (pe_callB (lenK K) (by rfl) B.len PySem.boot_len (pa_cons (pv 1) pa_nil)))))), ?_⟩
    refine ⟨.ref a, rfl, BB, a, ts, gs, rfl, hG, hF, hl, fun H1 o us s1 hR => ?_⟩
    refine ⟨o, rfl, ⟨_, hR.seq⟩, fun D nD => ?_⟩
    have hlen : (settle gs).length ≤ 1000 := Nat.le_trans (settleL_len _) (by rw [byAge_length]; exact hl)
    refine lc_it (walk_list (xs := us.map V.ref)) (fun i H2 => Same H1 H2 ∧ H2 D = some (.lst ((lens ((settle gs).take i)).map V.int))) ⟨same_new nD, upd_same⟩ (fun i H2 _ hW => ?_) (fun i x H2 H3 hi hW hY => ?_) (fun H2 hW => ?_)
    · exact (hR.same hW.1).seq
    · obtain ⟨sm, hD⟩ := hW
      obtain ⟨rfl, hx⟩ := hY
      obtain ⟨t, r, rfl, _, er, et⟩ := (hR.same sm).get hx
      refine ⟨rfl, .ref t, rfl, t, _, rfl, .inl (SqL.of et), _, hD, ils (by rw [List.length_map, lens_length, List.length_take]; omega), Same.mut sm nD, ?_⟩
      rw [upd_same, take_snoc er]
      show _ = some (HO.lst (((((settle gs).take i) ++ [r]).map fun r => (r.length : Int)).map V.int))
      rw [List.map_append, List.map_append]
      show some (HO.lst (_ ++ [V.int ((List.map V.int r).length : Int)])) = _
      rw [List.length_map]
      rfl
    · obtain ⟨sm, hD⟩ := hW
      rw [List.length_map, hR.len, take_full] at hD
      exact q H2 D (s1.trans sm) (s1.free nD) hD
end
end El
namespace El
open PySem PySem.Spec PyProof.Rows L2
section
variable {P : Program} {w : World} {K : PySem.W.Frag} {mg : Str → Option Value} {base : Heap}
abbrev s_in_first : Stmt := topS 11
abbrev N_in_first : List Str := ["guests", "j", "told"]
abbrev P_in_first : List Str := ["guests", "j"]
theorem sc_in_first : FnScope N_in_first P_in_first (defScope s_in_first) := ⟨rfl, rfl, rfl, by decide +kernel, rfl, by decide +kernel, by decide +kernel⟩
def sp_in_first : Sp := fun vs H Q _ => ∃ (B : Addr → Prop) (a : Addr) (ts : List Addr) (gs : List (Int × Int)) (j : Nat), vs = [.ref a, .int (j : Int)] ∧ GsAt H B a ts gs ∧ Fit gs ∧ gs.length ≤ 1000 ∧
  ∀ H', Same H H' → Q (.int ((lens (settle gs)).take j).sum) H'
theorem ok_in_first (A : At K mg "in_first" P_in_first s_in_first) (B : Bi mg) (D_sizes : Df P w K mg base 3 "sizes" P_sizes s_sizes sp_sizes) (D_check_first : Df P w K mg base 1 "check_first" P_check_first s_check_first sp_check_first) :
    Df P w K mg base 4 "in_first" P_in_first s_in_first sp_in_first := by
  refine A.df fun f fd F => F.ok sc_in_first (fun vs H Q E h => ?_) (fun cdv AA outer s H vs Q E hr h => ?_)
  · obtain ⟨_, a, _, _, _, rfl, _⟩ := h
    rfl
  · obtain ⟨BB, a, ts, gs, j, rfl, hG, hF, hl, q⟩ := h
    have nd := sc_in_first.nd
    refine ⟨_, (pss_cons (ps_set (i := 2) nd rfl (.inl rfl) (pe_df D_sizes (hr.mono (by decide)) (by rfl) (pa_cons (pv 0) pa_nil)))
    (pss_cons (ps_expr (pe_df D_check_first (hr.mono (by decide)) (by rfl) (pa_cons (pv 1) pa_nil)))
    (pss_one (ps_ret (pe_callB (cr_sum rfl) (by rfl) B.sum (by decide +kernel) (pa_cons (pe_slice sl_list (pv 2) po_none (po_some (pv 1))) pa_nil)))))), ?_⟩
    refine ⟨.ref a, rfl, BB, a, ts, gs, rfl, hG, hF, hl, fun H1 o s1 no eo => ?_⟩
    refine ⟨_, rfl, j, rfl, ?_⟩
    refine ⟨.ref o, rfl, .int (j : Int), rfl, _, rfl, o, _, rfl, SqL.of eo, fun p np => ?_⟩
    rw [cut_to, ← List.map_take]
    exact ⟨p, _, rfl, SqL.of upd_same, q _ (s1.trans (same_new np))⟩
end
end El
namespace El
open PySem PySem.Spec PyProof.Rows L2
/-! ### the tray of draws -/
structure Tray (H : Hp) (t g : Addr) (n : Nat) : Prop where
  ne : t ≠ g
  ex : ∃ (gs : List Int) (a c d : Int), H t = some (.lst [.ref g, .int a, .int c, .int d]) ∧ H g = some (.lst (gs.map V.int)) ∧ (∀ x ∈ gs, 0 ≤ x) ∧ gs.length ≤ 63 ∧ 0 ≤ a ∧ 0 ≤ c ∧ c < 2305843009213693951 ∧ 0 ≤ d ∧ d ≤ n
/-- what is no part of the tray -/
def Off (t g : Addr) (b : Addr) : Prop := b ≠ t ∧ b ≠ g
theorem Tray.keep {H H' : Hp} {t g : Addr} {n : Nat} (h : Tray H t g n) (k : Same H H') : Tray H' t g n := by
  obtain ⟨gs, a, c, d, h1, h2, h3⟩ := h.ex
  exact ⟨h.ne, gs, a, c, d, k _ _ h1, k _ _ h2, h3⟩
theorem Tray.more {H : Hp} {t g : Addr} {n m : Nat} (h : Tray H t g n) (k : n ≤ m) : Tray H t g m := by
  obtain ⟨gs, a, c, d, h1, h2, h3, h4, h5, h6, h7, h8, h9⟩ := h.ex
  exact ⟨h.ne, gs, a, c, d, h1, h2, h3, h4, h5, h6, h7, h8, by omega⟩
theorem Tray.off {H : Hp} {t g : Addr} {n : Nat} (h : Tray H t g n) {p : Addr} (e : H p = none) : Off t g p := by
  obtain ⟨gs, a, c, d, h1, h2, _⟩ := h.ex
  exact ⟨no_of h1 e, no_of h2 e⟩
theorem Tray.mut {H : Hp} {t g : Addr} {n : Nat} (h : Tray H t g n) {p : Addr} {o : HO} (k : Off t g p) : Tray (upd H p o) t g n := by
  obtain ⟨gs, a, c, d, h1, h2, h3⟩ := h.ex
  exact ⟨h.ne, gs, a, c, d, by rw [upd_ne k.1.symm]; exact h1, by rw [upd_ne k.2.symm]; exact h2, h3⟩
theorem Kp.off {H H' : Hp} {t g p : Addr} {o : HO} (e : Kp (Off t g) H H') (h : p = t ∨ p = g) : Kp (Off t g) H (upd H' p o) := e.mut fun z => by
  rcases h with rfl | rfl
  · exact z.1 rfl
  · exact z.2 rfl
end El
namespace El
open PySem PySem.Spec PyProof.Rows L2
section
variable {P : Program} {w : World} {K : PySem.W.Frag} {mg : Str → Option Value} {base : Heap}
abbrev s__law_tray : Stmt := topS 13
abbrev N__law_tray : List Str := ["script", "fold", "great", "cell", "much"]
abbrev P__law_tray : List Str := ["script"]
theorem sc__law_tray : FnScope N__law_tray P__law_tray (defScope s__law_tray) := ⟨rfl, rfl, rfl, by decide +kernel, rfl, by decide +kernel, by decide +kernel⟩
def sp__law_tray (K : PySem.W.Frag) : Sp := fun vs H Q _ => ∃ (a : Addr) (ns : List Int), vs = [.ref a] ∧ SqL K H a (ns.map V.int) ∧ ns.length ≤ 63 ∧
  ∀ H' t g, Same H H' → H t = none → H g = none → Tray H' t g 0 → Q (.ref t) H'
theorem ok__law_tray (A : At K mg "_law_tray" P__law_tray s__law_tray) (B : Bi mg) : Df P w K mg base 1 "_law_tray" P__law_tray s__law_tray (sp__law_tray K) := by
  refine A.df fun f fd F => F.ok sc__law_tray (fun vs H Q E h => ?_) (fun cdv AA outer s H vs Q E hr h => ?_)
  · obtain ⟨a, _, rfl, _⟩ := h
    rfl
  · obtain ⟨a, ns, rfl, hS, hl, q⟩ := h
    have nd := sc__law_tray.nd
    refine ⟨_, (pss_cons (ps_set (i := 1) nd rfl (.inl rfl) pe_int)
    (pss_cons (ps_set (i := 2) nd rfl (.inl rfl) (pe_lst pa_nil))
    (pss_cons (ps_for PassesOwn.never rfl (pi_list (pv 0)) (pg_name (i := 3) nd rfl (.inl rfl)) (pss_cons (ps_set (i := 1) nd rfl (.inl rfl) (pe_op op_mod (pe_op op_add (pe_op op_mul (pv 1) pe_int) (pv 3)) (pe_op op_sub (pe_op op_pow pe_int pe_int) pe_int))) (pss_cons (ps_set (i := 4) nd rfl (.inl rfl) (pe_callB (call_max2 rfl) (by rfl) B.max (by decide +kernel) (pa_cons (pv 3) (pa_cons (pe_op op_sub pe_int (pv 3)) pa_nil)))) (pss_one (ps_if (pt_cmpR op_ge (pv 4) (pe_op op_pow pe_int pe_int) (nomark _)) (pss_one (ps_expr (pe_bm PySem.F.plainAttrs_list PySem.F.slot_list_append PySem.F.type_list_append mt_append (pv 2) (pa_cons (pe_op op_sub (pv 4) (pe_op op_pow pe_int pe_int)) pa_nil)))) pss_nil)))))
    (pss_one (ps_ret (pe_lst (pa_cons (pv 2) (pa_cons pe_int (pa_cons (pv 1) (pa_cons pe_int pa_nil)))))))))), ?_⟩
    refine ⟨Nat.zero_le _, fun g ng => ?_⟩
    refine ⟨.ref a, rfl, a, rfl, ⟨_, (same_new ng).seq hS⟩, ?_⟩
    refine for_it (walk_list (xs := ns.map V.int)) (fun i σ H2 => ∃ (c : Int) (gs : List Int) (y3 y4 : Option V), σ = [some (.ref a), some (.int c), some (.ref g), y3, y4] ∧ Same H H2 ∧ H2 g = some (.lst (gs.map V.int)) ∧ (∀ x ∈ gs, 0 ≤ x) ∧ gs.length ≤ i ∧ 0 ≤ c ∧ c < 2305843009213693951)
      ⟨314159265358979, [], none, none, rfl, same_new ng, upd_same, fun x h => absurd h (by simp), Nat.le_refl _, by decide, by decide⟩ (fun i σ H2 _ hW => ?_) (fun i x σ H2 H3 hi hW hY => ?_) (fun σ H2 hW => ?_)
    · obtain ⟨_, _, _, _, _, sm, _⟩ := hW
      exact sm.seq hS
    · obtain ⟨c, gs, y3, y4, rfl, sm, eg, hp, hgl, c0, c1⟩ := hW
      obtain ⟨rfl, hx⟩ := hY
      obtain ⟨n, hx', rfl⟩ := ints_at hx
      have hil : i < 63 := by
        rw [List.length_map] at hi
        omega
      -- fold = (fold * 1000003 + cell) % (2 ** 61 - 1)
      refine ⟨.int c, rfl, _, _, rfl, rfl, .inl ⟨by omega, by omega⟩, .int n, rfl, _, _, rfl, rfl, _, _, rfl, rfl, ⟨by decide, by decide, by decide⟩, _, _, rfl, rfl, _, _, rfl, rfl, (by show (0 : Int) < 2 ^ 61 - 1; decide), ?_⟩
      -- much = max(cell, 0 - cell)
      refine ⟨.int n, rfl, .int n, rfl, _, _, rfl, rfl, _, _, rfl, ?_⟩
      have m0 : 0 ≤ (if 0 - n > n then 0 - n else n) := by split <;> omega
      revert m0
      generalize (if 0 - n > n then 0 - n else n) = m
      intro m0
      have em : (2 : Int) ^ 61 - 1 = 2305843009213693951 := by decide
      have f0 : 0 ≤ (c * 1000003 + n) % (2 ^ 61 - 1) := Int.emod_nonneg _ (by decide)
      have f1 : (c * 1000003 + n) % (2 ^ 61 - 1) < 2305843009213693951 := by
        have := Int.emod_lt_of_pos (c * 1000003 + n) (show (0 : Int) < 2 ^ 61 - 1 by decide)
        omega
      -- if much >= 10 ** 18
      refine ⟨.int m, rfl, _, _, rfl, rfl, ⟨by decide, by decide, by decide⟩, _, _, rfl, rfl, _, rfl, ite2 (fun e => ?_) (fun e => ?_)⟩
      · have e : (10 : Int) ^ (18 : Int).toNat ≤ m := of_decide_eq_true e
        refine ⟨.ref g, rfl, .inl ⟨rfl, _, SqL.of eg⟩, .int m, rfl, _, _, rfl, rfl, ⟨by decide, by decide, by decide⟩, _, _, rfl, rfl, g, _, _, rfl, rfl, eg, ils (by rw [List.length_map]; omega), ?_⟩
        refine ⟨_, gs ++ [m - 10 ^ (18 : Int).toNat], _, _, rfl, Same.mut sm ng, by rw [upd_same, List.map_append]; rfl, fun x hx => ?_, by rw [List.length_append, List.length_singleton]; omega, f0, f1⟩
        rcases List.mem_append.mp hx with hx | hx
        · exact hp x hx
        · rw [List.mem_singleton.mp hx]
          omega
      · exact ⟨_, gs, _, _, rfl, sm, eg, hp, Nat.le_succ_of_le hgl, f0, f1⟩
    · obtain ⟨c, gs, y3, y4, rfl, sm, eg, hp, hgl, c0, c1⟩ := hW
      rw [List.length_map] at hgl
      refine ⟨.ref g, rfl, .int c, rfl, (by show 4 ≤ sizeLine; decide), fun t nt => ?_⟩
      have ntg : g ≠ t := ne_of_none eg nt
      exact q _ t g (sm.trans (same_new nt)) (sm.free nt) ng ⟨ntg.symm, gs, 0, c, 0, upd_same, by rw [upd_ne ntg]; exact eg, hp, by omega, by decide, c0, c1, by decide, by decide⟩
end
end El
namespace El
open PySem PySem.Spec PyProof.Rows L2
section
variable {P : Program} {w : World} {K : PySem.W.Frag} {mg : Str → Option Value} {base : Heap}
abbrev s__law_draw : Stmt := topS 14
abbrev N__law_draw : List Str := ["tray", "many", "found", "mixed"]
abbrev P__law_draw : List Str := ["tray", "many"]
theorem sc__law_draw : FnScope N__law_draw P__law_draw (defScope s__law_draw) := ⟨rfl, rfl, rfl, by decide +kernel, rfl, by decide +kernel, by decide +kernel⟩
def sp__law_draw : Sp := fun vs H Q _ => ∃ (t g : Addr) (n : Nat) (m : Int), vs = [.ref t, .int m] ∧ Tray H t g n ∧ n ≤ 1000000000 ∧ 0 < m ∧ m < 2 ^ 200 ∧
  ∀ H' r, Kp (Off t g) H H' → Tray H' t g (n + 1) → 0 ≤ r → r < m → Q (.int r) H'
theorem ok__law_draw (A : At K mg "_law_draw" P__law_draw s__law_draw) (B : Bi mg) : Df P w K mg base 1 "_law_draw" P__law_draw s__law_draw sp__law_draw := by
  refine A.df fun f fd F => F.ok sc__law_draw (fun vs H Q E h => ?_) (fun cdv AA outer s H vs Q E hr h => ?_)
  · obtain ⟨_, _, _, _, rfl, _⟩ := h
    rfl
  · obtain ⟨t, g, n, m, rfl, hT, hn, m0, m1, q⟩ := h
    have nd := sc__law_draw.nd
    refine ⟨_, (pss_cons (ps_while PassesOwn.never (PW.pt (pw_and (pt_cmpR op_lt (pe_ix ix_list (pv 0) pe_int (fun _ _ => rfl)) pe_int (nomark _)) (pw_and1 (pt_cmpR (op_neD hr.units) (pe_ix ix_list (pv 0) pe_int (fun _ _ => rfl)) (pe_lst pa_nil) (nomark _))))) (pss_one (ps_asg (pe_bm PySem.F.plainAttrs_list PySem.F.slot_list_pop PySem.F.type_list_pop mt_popAt (pe_ix ix_list (pv 0) pe_int (fun _ _ => rfl)) (pa_cons pe_int pa_nil)) (pg_sub (pv 0) pe_int set_list))))
    (pss_cons (ps_if (pt_cmpR op_ge (pe_ix ix_list (pv 0) pe_int (fun _ _ => rfl)) pe_int (nomark _)) (pss_cons (ps_set (i := 2) nd rfl (.inl rfl) (pe_op op_mod (pe_ix ix_list (pv 0) pe_int (fun _ _ => rfl)) (pv 1))) (pss_cons (ps_asg (pe_op op_fdivW (pe_ix ix_list (pv 0) pe_int (fun _ _ => rfl)) (pv 1)) (pg_sub (pv 0) pe_int set_list)) (pss_one (ps_ret (pv 2))))) pss_nil)
    (pss_cons (ps_asg (pe_op op_add (pe_ix ix_list (pv 0) pe_int (fun _ _ => rfl)) pe_int) (pg_sub (pv 0) pe_int set_list))
    (pss_cons (ps_set (i := 3) nd rfl (.inl rfl) (pe_op op_mod (pe_op op_add (pe_op op_mul (pe_op op_add (pe_ix ix_list (pv 0) pe_int (fun _ _ => rfl)) pe_int) (pe_op op_pow (pe_op op_add (pe_ix ix_list (pv 0) pe_int (fun _ _ => rfl)) pe_int) pe_int)) (pe_op op_mul pe_int (pe_ix ix_list (pv 0) pe_int (fun _ _ => rfl)))) (pe_op op_sub (pe_op op_pow pe_int pe_int) pe_int)))
    (pss_one (ps_ret (pe_op op_mod (pe_op op_fdivW (pe_op op_mod (pe_op op_pow (pv 3) pe_int) (pe_op op_add (pe_op op_pow pe_int pe_int) pe_int)) pe_int) (pv 1)))))))), ?_⟩
    have ne := hT.ne
    obtain ⟨gs0, a0, c0, d0, i1, i2, i3, i4, i5, i6, i7, i8, i9⟩ := hT.ex
    refine seq_to (fun σ H2 => σ = [some (.ref t), some (.int m), none, none] ∧ Kp (Off t g) H H2 ∧ Tray H2 t g n) (fun X hX => ?_) (fun σ H2 hE => ?_)
    · -- the while
      refine while_to (fun k σ H2 => σ = [some (.ref t), some (.int m), none, none] ∧ Kp (Off t g) H H2 ∧ ∃ (gs : List Int) (a c d : Int), H2 t = some (.lst [.ref g, .int a, .int c, .int d]) ∧ H2 g = some (.lst (gs.map V.int)) ∧ (∀ x ∈ gs, 0 ≤ x) ∧ gs.length ≤ 63 ∧ 0 ≤ a ∧ 0 ≤ c ∧ c < 2305843009213693951 ∧ 0 ≤ d ∧ d ≤ n ∧ k = gs.length)
        (fun σ H2 => σ = [some (.ref t), some (.int m), none, none] ∧ Kp (Off t g) H H2 ∧ Tray H2 t g n) ⟨gs0.length, rfl, Kp.refl, gs0, a0, c0, d0, i1, i2, i3, i4, i5, i6, i7, i8, i9, rfl⟩ hX (fun X hX k σ H2 hW => ?_)
      obtain ⟨rfl, kp, gs, a, c, d, j1, j2, j3, j4, j5, j6, j7, j8, j9, rfl⟩ := hW
      refine ⟨.ref t, rfl, t, _, 1, .int a, rfl, rfl, SqL.of j1, atI_nat (j := 1) rfl, _, _, rfl, rfl, _, rfl, ite2 (fun ea => ?_) (fun ea => ?_)⟩
      · refine ⟨.ref t, rfl, t, _, 0, .ref g, rfl, rfl, SqL.of j1, atI_nat (j := 0) rfl, Nat.zero_le _, fun u nu => ?_⟩
        have s1 : Same H2 (upd H2 u (.lst [])) := same_new nu
        refine ⟨dInts gs, dInts [], Dp.ints (s1 _ _ j2), Dp.ints upd_same, (Oks.ints _).shaped, (Oks.ints _).shaped, _, rfl, ?_⟩
        rw [eqv_nil]
        cases gs with
        | nil => exact iteF (hX _ _ ⟨rfl, kp.trans (.of s1), ne, [], a, c, d, s1 _ _ j1, s1 _ _ j2, j3, j4, j5, j6, j7, j8, j9⟩)
        | cons x r =>
          refine iteT ⟨fun σ' H' => σ' = [some (.ref t), some (.int m), none, none] ∧ Kp (Off t g) H H' ∧ ∃ (gs : List Int) (a c d : Int), H' t = some (.lst [.ref g, .int a, .int c, .int d]) ∧ H' g = some (.lst (gs.map V.int)) ∧ (∀ x ∈ gs, 0 ≤ x) ∧ gs.length ≤ 63 ∧ 0 ≤ a ∧ 0 ≤ c ∧ c < 2305843009213693951 ∧ 0 ≤ d ∧ d ≤ n ∧ r.length = gs.length, fun σ' H' h => ⟨r.length, Nat.lt_succ_self _, h⟩, ?_⟩
          refine ⟨.ref t, rfl, t, _, 0, .ref g, rfl, rfl, SqL.of (s1 _ _ j1), atI_nat (j := 0) rfl, .inl ⟨rfl, _, SqL.of (s1 _ _ j2)⟩, g, _, 0, 0, .int x, rfl, rfl, s1 _ _ j2, by decide, by decide, seq_ix (j := 0) (by simp), rfl, ?_⟩
          refine ⟨.ref t, rfl, t, _, 1, 1, rfl, rfl, (by rw [upd_ne ne]; exact s1 _ _ j1), rfl, ?_⟩
          refine ⟨rfl, (Kp.off (Kp.off (kp.trans (.of s1)) (.inr rfl)) (.inl rfl)), r, x, c, d, by rw [upd_same]; rfl, by rw [upd_ne ne.symm, upd_same]; rfl, fun y hy => j3 y (List.mem_cons_of_mem _ hy), Nat.le_of_succ_le j4, j3 x List.mem_cons_self, j6, j7, j8, j9, rfl⟩
      · exact iteF (hX _ _ ⟨rfl, kp, ne, gs, a, c, d, j1, j2, j3, j4, j5, j6, j7, j8, j9⟩)
    · obtain ⟨rfl, kp, hT2⟩ := hE
      obtain ⟨gs, a, c, d, j1, j2, j3, j4, j5, j6, j7, j8, j9⟩ := hT2.ex
      have g1 : CDivW a m := ⟨m0, Nat.lt_trans (log_lt m0 m1) (by decide)⟩
      -- if tray[1] >= 2
      refine ⟨.ref t, rfl, t, _, 1, .int a, rfl, rfl, SqL.of j1, atI_nat (j := 1) rfl, _, _, rfl, rfl, _, rfl, ite2 (fun ea => ?_) (fun ea => ?_)⟩
      · refine ⟨.ref t, rfl, t, _, 1, .int a, rfl, rfl, SqL.of j1, atI_nat (j := 1) rfl, .int m, rfl, _, _, rfl, rfl, m0, ?_⟩
        refine ⟨.ref t, rfl, t, _, 1, .int a, rfl, rfl, SqL.of j1, atI_nat (j := 1) rfl, .int m, rfl, _, _, rfl, rfl, g1, ?_⟩
        refine ⟨.ref t, rfl, t, _, 1, 1, rfl, rfl, j1, rfl, _, rfl, ?_⟩
        exact q _ _ (Kp.off kp (.inl rfl)) ⟨ne, gs, a / m, c, d, by rw [upd_same]; rfl, by rw [upd_ne ne.symm]; exact j2, j3, j4, Int.ediv_nonneg j5 (by omega), j6, j7, j8, by omega⟩ (Int.emod_nonneg _ (by omega)) (Int.emod_lt_of_pos _ m0)
      · -- tray[3] = tray[3] + 1
        refine ⟨.ref t, rfl, t, _, 3, .int d, rfl, rfl, SqL.of j1, atI_nat (j := 3) rfl, _, _, rfl, rfl, ?_⟩
        refine ⟨.ref t, rfl, t, _, 3, 3, rfl, rfl, j1, rfl, ?_⟩
        have e1 : upd H2 t (.lst ([V.ref g, .int a, .int c, .int d].set 3 (.int (d + 1)))) t = some (.lst [.ref g, .int a, .int c, .int (d + 1)]) := by rw [upd_same]; rfl
        have hT3 : Tray (upd H2 t (.lst ([V.ref g, .int a, .int c, .int d].set 3 (.int (d + 1))))) t g (n + 1) := ⟨ne, gs, a, c, d + 1, e1, by rw [upd_ne ne.symm]; exact j2, j3, j4, j5, j6, j7, by omega, by omega⟩
        have k3 : Kp (Off t g) H (upd H2 t (.lst ([V.ref g, .int a, .int c, .int d].set 3 (.int (d + 1))))) := Kp.off kp (.inl rfl)
        revert e1 hT3 k3
        generalize upd H2 t (.lst ([V.ref g, .int a, .int c, .int d].set 3 (.int (d + 1)))) = H3
        intro e1 hT3 k3
        -- mixed
        refine ⟨.ref t, rfl, t, _, 2, .int c, rfl, rfl, SqL.of e1, atI_nat (j := 2) rfl, _, _, rfl, rfl, .ref t, rfl, t, _, 3, .int (d + 1), rfl, rfl, SqL.of e1, atI_nat (j := 3) rfl, _, _, rfl, rfl, _, _, rfl, rfl, ⟨by decide, by decide, ?_⟩, _, _, rfl, rfl, .inl ⟨by omega, by omega⟩,
          .ref t, rfl, t, _, 3, .int (d + 1), rfl, rfl, SqL.of e1, atI_nat (j := 3) rfl, _, _, rfl, rfl, .inl ⟨by decide, by decide⟩, _, _, rfl, rfl, _, _, rfl, rfl, ⟨by decide, by decide, by decide⟩, _, _, rfl, rfl, _, _, rfl, rfl, (by show (0 : Int) < 2 ^ 61 - 1; decide), ?_⟩
        · show (d + 1 + 2).natAbs < 2 ^ 64
          omega
        · have f0 : 0 ≤ ((c + 5) * (d + 1 + 2) ^ (3 : Int).toNat + 1000003 * (d + 1)) % (2 ^ (61 : Int).toNat - 1) := Int.emod_nonneg _ (by decide)
          have f1 : ((c + 5) * (d + 1 + 2) ^ (3 : Int).toNat + 1000003 * (d + 1)) % (2 ^ (61 : Int).toNat - 1) < 2 ^ 61 - 1 := Int.emod_lt_of_pos _ (show (0 : Int) < 2 ^ 61 - 1 by decide)
          refine ⟨_, rfl, _, _, rfl, rfl, ⟨by decide, by decide, ?_⟩, _, _, rfl, rfl, ⟨by decide, by decide, by decide⟩, _, _, rfl, rfl, _, _, rfl, rfl, (by show (0 : Int) < 10 ^ 18 + 9; decide), _, _, rfl, rfl, ⟨by decide, by decide⟩, .int m, rfl, _, _, rfl, rfl, m0, ?_⟩
          · show (((c + 5) * (d + 1 + 2) ^ (3 : Int).toNat + 1000003 * (d + 1)) % (2 ^ (61 : Int).toNat - 1)).natAbs < 2 ^ 64
            omega
          · exact q _ _ k3 hT3 (Int.emod_nonneg _ (by omega)) (Int.emod_lt_of_pos _ m0)
end
end El
namespace El
open PySem PySem.Spec PyProof.Rows L2
/-- two values that say the same, at most n deep -/
def Sca : V → Bool
  | .non => true
  | .bl _ => true
  | .int _ => true
  | .str _ => true
  | _ => false
def Alk (H : Hp) : Nat → V → V → Prop
  | 0, x, y => Sca x = true ∧ x = y
  | n + 1, x, y => (Sca x = true ∧ x = y) ∨ ∃ (a b : Addr) (xs ys : List V), x = .ref a ∧ y = .ref b ∧ ((H a = some (.lst xs) ∧ H b = some (.lst ys)) ∨ (H a = some (.tup xs) ∧ H b = some (.tup ys))) ∧ xs.length = ys.length ∧ ys.length ≤ 100000 ∧
      ∀ (i : Nat) (u v : V), xs[i]? = some u → ys[i]? = some v → Alk H n u v
theorem Alk.keep {H H' : Hp} (k : Same H H') : ∀ {n : Nat} {x y : V}, Alk H n x y → Alk H' n x y
  | 0, _, _, h => h
  | n + 1, _, _, h => by
    rcases h with h | ⟨a, b, xs, ys, rfl, rfl, h1, h2, h3, h4⟩
    · exact .inl h
    · refine .inr ⟨a, b, xs, ys, rfl, rfl, ?_, h2, h3, fun i u v e f => Alk.keep k (h4 i u v e f)⟩
      rcases h1 with ⟨h1, h2⟩ | ⟨h1, h2⟩
      · exact .inl ⟨k _ _ h1, k _ _ h2⟩
      · exact .inr ⟨k _ _ h1, k _ _ h2⟩
theorem Alk.up {H : Hp} : ∀ {n : Nat} {x y : V}, Alk H n x y → Alk H (n + 1) x y
  | 0, _, _, h => .inl h
  | n + 1, _, _, h => by
    rcases h with h | ⟨a, b, xs, ys, rfl, rfl, h1, h2, h3, h4⟩
    · exact .inl h
    · exact .inr ⟨a, b, xs, ys, rfl, rfl, h1, h2, h3, fun i u v e f => Alk.up (h4 i u v e f)⟩
theorem Alk.int {H : Hp} {n : Nat} {i : Int} : Alk H n (.int i) (.int i) := by
  cases n with
  | zero => exact ⟨rfl, rfl⟩
  | succ n => exact .inl ⟨rfl, rfl⟩
theorem Alk.ints {H : Hp} {n : Nat} {a b : Addr} {ns : List Int} (h1 : H a = some (.lst (ns.map V.int))) (h2 : H b = some (.lst (ns.map V.int))) (hl : ns.length ≤ 100000) : Alk H (n + 1) (.ref a) (.ref b) :=
  .inr ⟨a, b, _, _, rfl, rfl, .inl ⟨h1, h2⟩, rfl, by rw [List.length_map]; exact hl, fun i u v e f => by
    obtain rfl : u = v := Option.some.inj (e.symm.trans f)
    obtain ⟨n, _, rfl⟩ := ints_at e
    exact Alk.int⟩
theorem Alk.rows {H : Hp} {n : Nat} {B B' : Addr → Prop} {a b : Addr} {ts us : List Addr} {rs : List (List Int)} (h1 : RmsAt H B a ts rs) (h2 : RmsAt H B' b us rs) (hl : rs.length ≤ 100000) (hr : ∀ r ∈ rs, r.length ≤ 100000) : Alk H (n + 2) (.ref a) (.ref b) :=
  .inr ⟨a, b, _, _, rfl, rfl, .inl ⟨h1.top, h2.top⟩, by rw [List.length_map, List.length_map, h1.len, h2.len], by rw [List.length_map, h2.len]; exact hl, fun i u v e f => by
    obtain ⟨t, r, rfl, _, er, et⟩ := h1.get e
    obtain ⟨t', r', rfl, _, er', et'⟩ := h2.get f
    obtain rfl : r = r' := Option.some.inj (er.symm.trans er')
    exact Alk.ints et et' (hr r (List.mem_of_getElem? er))⟩
theorem Alk.two {H : Hp} {n : Nat} {a b : Addr} {x1 x2 y1 y2 : V} (h1 : H a = some (.lst [x1, x2])) (h2 : H b = some (.lst [y1, y2])) (k1 : Alk H n x1 y1) (k2 : Alk H n x2 y2) : Alk H (n + 1) (.ref a) (.ref b) :=
  .inr ⟨a, b, _, _, rfl, rfl, .inl ⟨h1, h2⟩, rfl, by show 2 ≤ 100000; decide, fun i u v e f => by
    match i, e, f with
    | 0, e, f =>
      obtain rfl := Option.some.inj e
      obtain rfl := Option.some.inj f
      exact k1
    | 1, e, f =>
      obtain rfl := Option.some.inj e
      obtain rfl := Option.some.inj f
      exact k2
    | i + 2, e, f => simp at e⟩
end El
namespace El
open PySem PySem.Spec PyProof.Rows L2
section
variable {P : Program} {w : World} {K : PySem.W.Frag} {mg : Str → Option Value} {base : Heap}
abbrev s__law_alike : Stmt := topS 15
abbrev N__law_alike : List Str := ["found", "due", "k"]
abbrev P__law_alike : List Str := ["found", "due"]
theorem sc__law_alike : FnScope N__law_alike P__law_alike (defScope s__law_alike) := ⟨rfl, rfl, rfl, by decide +kernel, rfl, by decide +kernel, by decide +kernel⟩
def sp__law_alike (n : Nat) : Sp := fun vs H Q _ => ∃ x y : V, vs = [x, y] ∧ Alk H n x y ∧ ∀ H', Same H H' → Q (.bl true) H'
/-- the rest behind the lengths, for what is a list or a tuple -/
theorem ok__law_alike (A : At K mg "_law_alike" P__law_alike s__law_alike) (B : Bi mg) : ∀ n : Nat, Df P w K mg base (n + 1) "_law_alike" P__law_alike s__law_alike (sp__law_alike n) := by
  intro n
  induction n with
  | zero =>
    refine A.df fun f fd F => F.ok sc__law_alike (fun vs H Q E h => ?_) (fun cdv AA outer s H vs Q E hr h => ?_)
    · obtain ⟨_, _, rfl, _⟩ := h
      rfl
    · obtain ⟨x, y, rfl, hA, q⟩ := h
      have nd := sc__law_alike.nd
      refine ⟨_, (pss_cons (ps_if (pt_cmpR op_isN (pv 1) pe_non (nomark _)) (pss_one (ps_ret (pe_cmpR op_isN (pv 0) pe_non (nomark _)))) pss_nil)
    (pss_cons (ps_if (pt_val (pe_callB call_isi (by rfl) B.isinstance (by decide +kernel) (pa_cons (pv 1) (pa_cons (pe_bltn (by rfl) B.bool_ boot_bool (relTy _)) pa_nil)))) (pss_one (ps_ret (pe_and (pe_callB call_isi (by rfl) B.isinstance (by decide +kernel) (pa_cons (pv 0) (pa_cons (pe_bltn (by rfl) B.bool_ boot_bool (relTy _)) pa_nil))) (pe_one (pe_cmpR op_eq (pv 0) (pv 1) (nomark _)))))) pss_nil)
    (pss_cons (ps_if (pt_val (pe_callB call_isi (by rfl) B.isinstance (by decide +kernel) (pa_cons (pv 1) (pa_cons (pe_bltn (by rfl) B.int_ boot_int (relTy _)) pa_nil)))) (pss_one (ps_ret (pe_and (pe_callB call_isi (by rfl) B.isinstance (by decide +kernel) (pa_cons (pv 0) (pa_cons (pe_bltn (by rfl) B.int_ boot_int (relTy _)) pa_nil))) (pe_and (pe_not (pe_callB call_isi (by rfl) B.isinstance (by decide +kernel) (pa_cons (pv 0) (pa_cons (pe_bltn (by rfl) B.bool_ boot_bool (relTy _)) pa_nil)))) (pe_one (pe_cmpR op_eq (pv 0) (pv 1) (nomark _))))))) pss_nil)
    (pss_cons (ps_if (pt_val (pe_callB call_isi (by rfl) B.isinstance (by decide +kernel) (pa_cons (pv 1) (pa_cons (pe_bltn (by rfl) B.str_ boot_str (relTy _)) pa_nil)))) (pss_one (ps_ret (pe_and (pe_callB call_isi (by rfl) B.isinstance (by decide +kernel) (pa_cons (pv 0) (pa_cons (pe_bltn (by rfl) B.str_ boot_str (relTy _)) pa_nil))) (pe_one (pe_cmpR op_eq (pv 0) (pv 1) (nomark _)))))) pss_nil)
    (pss_cons ps_never (pss_cons ps_never (pss_cons ps_never (pss_one ps_never)))))))), ?_⟩
      obtain ⟨hs, rfl⟩ := hA
      have kit : ∀ {a b : String} {r : Bool}, kitB a b = some r → PySem.W.kitOne K (.type a) (.type b) = some r := fun h => kit_ty h
      refine ⟨x, rfl, rfl, _, rfl, ite2 (fun e => ?_) (fun e => ?_)⟩
      · exact ⟨x, rfl, rfl, by rw [e]; exact q H (Same.refl _)⟩
      · cases x with
        | non => exact absurd rfl e
        | bl b =>
          refine ⟨.bl b, rfl, _, _, _, _, _, rfl, .ty _, .base (.bl b), kit_ty (by decide +kernel), _, rfl, iteT ?_⟩
          refine ⟨.bl b, rfl, _, _, _, _, _, rfl, .ty _, .base (.bl b), kit_ty (by decide +kernel), _, rfl, iteT ?_⟩
          exact ⟨.bl b, rfl, .bl b, rfl, rfl, by rw [decide_eq_true rfl]; exact q H (Same.refl _)⟩
        | int i =>
          refine ⟨.int i, rfl, _, _, _, _, _, rfl, .ty _, .base (.int i), kit_ty (by decide +kernel), _, rfl, iteF ?_⟩
          refine ⟨.int i, rfl, _, _, _, _, _, rfl, .ty _, .base (.int i), kit_ty (by decide +kernel), _, rfl, iteT ?_⟩
          refine ⟨.int i, rfl, _, _, _, _, _, rfl, .ty _, .base (.int i), kit_ty (by decide +kernel), _, rfl, iteT ?_⟩
          refine ⟨.int i, rfl, _, _, _, _, _, rfl, .ty _, .base (.int i), (show PySem.W.kitOne K (.type "int") (.type "bool") = some false from kit_ty (by decide +kernel)), _, rfl, _, rfl, iteT ?_⟩
          exact ⟨.int i, rfl, .int i, rfl, rfl, by rw [decide_eq_true rfl]; exact q H (Same.refl _)⟩
        | str z =>
          refine ⟨.str z, rfl, _, _, _, _, _, rfl, .ty _, .base (.str z), kit_ty (by decide +kernel), _, rfl, iteF ?_⟩
          refine ⟨.str z, rfl, _, _, _, _, _, rfl, .ty _, .base (.str z), kit_ty (by decide +kernel), _, rfl, iteF ?_⟩
          refine ⟨.str z, rfl, _, _, _, _, _, rfl, .ty _, .base (.str z), kit_ty (by decide +kernel), _, rfl, iteT ?_⟩
          refine ⟨.str z, rfl, _, _, _, _, _, rfl, .ty _, .base (.str z), kit_ty (by decide +kernel), _, rfl, iteT ?_⟩
          exact ⟨.str z, rfl, .str z, rfl, rfl, by rw [decide_eq_true rfl]; exact q H (Same.refl _)⟩
        | byt _ => cases hs
        | flt _ => cases hs
        | ref _ => cases hs
        | ty _ => cases hs
  | succ n ih =>
    obtain ⟨f, fd, F, m, G, b⟩ := ih.ex
    refine ⟨f, fd, F, m, ?_, b⟩
    have G2 : FnOk P w K mg base CX0 (n + 1 + 1) f fd P__law_alike (fun vs H Q _ => ∃ (a b : Addr) (xs ys : List V), vs = [.ref a, .ref b] ∧ ((H a = some (.lst xs) ∧ H b = some (.lst ys)) ∨ (H a = some (.tup xs) ∧ H b = some (.tup ys))) ∧ xs.length = ys.length ∧ ys.length ≤ 100000 ∧
        (∀ (i : Nat) (u v : V), xs[i]? = some u → ys[i]? = some v → Alk H n u v) ∧ ∀ H', Same H H' → Q (.bl true) H') := by
      refine F.ok sc__law_alike (fun vs H Q E h => ?_) (fun cdv AA outer s H vs Q E hr h => ?_)
      · obtain ⟨_, _, _, _, rfl, _⟩ := h
        rfl
      · obtain ⟨a, b', xs, ys, rfl, hab, hl, hz, hA, q⟩ := h
        have nd := sc__law_alike.nd
        have D__law_alike := ih
        refine ⟨_, (pss_cons (ps_if (pt_cmpR op_isN (pv 1) pe_non (nomark _)) (pss_one (ps_ret (pe_cmpR op_isN (pv 0) pe_non (nomark _)))) pss_nil)
    (pss_cons (ps_if (pt_val (pe_callB call_isi (by rfl) B.isinstance (by decide +kernel) (pa_cons (pv 1) (pa_cons (pe_bltn (by rfl) B.bool_ boot_bool (relTy _)) pa_nil)))) (pss_one (ps_ret (pe_and (pe_callB call_isi (by rfl) B.isinstance (by decide +kernel) (pa_cons (pv 0) (pa_cons (pe_bltn (by rfl) B.bool_ boot_bool (relTy _)) pa_nil))) (pe_one (pe_cmpR op_eq (pv 0) (pv 1) (nomark _)))))) pss_nil)
    (pss_cons (ps_if (pt_val (pe_callB call_isi (by rfl) B.isinstance (by decide +kernel) (pa_cons (pv 1) (pa_cons (pe_bltn (by rfl) B.int_ boot_int (relTy _)) pa_nil)))) (pss_one (ps_ret (pe_and (pe_callB call_isi (by rfl) B.isinstance (by decide +kernel) (pa_cons (pv 0) (pa_cons (pe_bltn (by rfl) B.int_ boot_int (relTy _)) pa_nil))) (pe_and (pe_not (pe_callB call_isi (by rfl) B.isinstance (by decide +kernel) (pa_cons (pv 0) (pa_cons (pe_bltn (by rfl) B.bool_ boot_bool (relTy _)) pa_nil)))) (pe_one (pe_cmpR op_eq (pv 0) (pv 1) (nomark _))))))) pss_nil)
    (pss_cons (ps_if (pt_val (pe_callB call_isi (by rfl) B.isinstance (by decide +kernel) (pa_cons (pv 1) (pa_cons (pe_bltn (by rfl) B.str_ boot_str (relTy _)) pa_nil)))) (pss_one (ps_ret (pe_and (pe_callB call_isi (by rfl) B.isinstance (by decide +kernel) (pa_cons (pv 0) (pa_cons (pe_bltn (by rfl) B.str_ boot_str (relTy _)) pa_nil))) (pe_one (pe_cmpR op_eq (pv 0) (pv 1) (nomark _)))))) pss_nil)
    (pss_cons (ps_if (PW.pt (pw_or (pt_cmpR op_ne (pe_callB call_isi (by rfl) B.isinstance (by decide +kernel) (pa_cons (pv 0) (pa_cons (pe_bltn (by rfl) B.list_ boot_list (relTy _)) pa_nil))) (pe_callB call_isi (by rfl) B.isinstance (by decide +kernel) (pa_cons (pv 1) (pa_cons (pe_bltn (by rfl) B.list_ boot_list (relTy _)) pa_nil))) (nomark _)) (pw_or1 (pt_cmpR op_ne (pe_callB call_isi (by rfl) B.isinstance (by decide +kernel) (pa_cons (pv 0) (pa_cons (pe_bltn (by rfl) B.tuple_ boot_tuple (relTy _)) pa_nil))) (pe_callB call_isi (by rfl) B.isinstance (by decide +kernel) (pa_cons (pv 1) (pa_cons (pe_bltn (by rfl) B.tuple_ boot_tuple (relTy _)) pa_nil))) (nomark _))))) (pss_one (ps_ret pe_bl)) pss_nil)
    (pss_cons (ps_if (pt_cmpR op_ne (pe_callB call_len_seq (by rfl) B.len PySem.boot_len (pa_cons (pv 0) pa_nil)) (pe_callB call_len_seq (by rfl) B.len PySem.boot_len (pa_cons (pv 1) pa_nil)) (nomark _)) (pss_one (ps_ret pe_bl)) pss_nil)
    (pss_cons (ps_for PassesOwn.never rfl (pi_range1 (by rfl) B.range (pa_cons (pe_callB call_len_seq (by rfl) B.len PySem.boot_len (pa_cons (pv 1) pa_nil)) pa_nil)) (pg_name (i := 2) nd rfl (.inl rfl)) (pss_one (ps_if (pt_not (pt_val (pe_df D__law_alike hr (by rfl) (pa_cons (pe_ix ix_seq (pv 0) (pv 2) (fun _ _ => rfl)) (pa_cons (pe_ix ix_seq (pv 1) (pv 2) (fun _ _ => rfl)) pa_nil))))) (pss_one (ps_ret pe_bl)) pss_nil)))
    (pss_one (ps_ret pe_bl))))))))), ?_⟩
        have sq : ∀ {H' : Hp}, Same H H' → (SqL K H' a xs ∨ SqT K H' a xs) ∧ (SqL K H' b' ys ∨ SqT K H' b' ys) := fun k => by
          rcases hab with ⟨h1, h2⟩ | ⟨h1, h2⟩
          · exact ⟨.inl (SqL.of (k _ _ h1)), .inl (SqL.of (k _ _ h2))⟩
          · exact ⟨.inr (SqT.of (k _ _ h1)), .inr (SqT.of (k _ _ h2))⟩
        -- none of the flat kinds
        have ty : ∃ T : String, TyX K H (.ref a) (.type T) ∧ TyX K H (.ref b') (.type T) ∧ (T = "list" ∨ T = "tuple") := by
          rcases hab with ⟨h1, h2⟩ | ⟨h1, h2⟩
          · exact ⟨"list", .base (.lst h1), .base (.lst h2), .inl rfl⟩
          · exact ⟨"tuple", .base (.tup h1), .base (.tup h2), .inr rfl⟩
        obtain ⟨T, t1, t2, hT⟩ := ty
        have nb : PySem.W.kitOne K (.type T) (.type "bool") = some false := by
          rcases hT with rfl | rfl
          · exact kit_ty (by decide +kernel)
          · exact kit_ty (by decide +kernel)
        have ni : PySem.W.kitOne K (.type T) (.type "int") = some false := by
          rcases hT with rfl | rfl
          · exact kit_ty (by decide +kernel)
          · exact kit_ty (by decide +kernel)
        have ns : PySem.W.kitOne K (.type T) (.type "str") = some false := by
          rcases hT with rfl | rfl
          · exact kit_ty (by decide +kernel)
          · exact kit_ty (by decide +kernel)
        obtain ⟨kl, hkl⟩ : ∃ k, PySem.W.kitOne K (.type T) (.type "list") = some k := by
          rcases hT with rfl | rfl
          · exact ⟨true, kit_ty (by decide +kernel)⟩
          · exact ⟨false, kit_ty (by decide +kernel)⟩
        obtain ⟨kt, hkt⟩ : ∃ k, PySem.W.kitOne K (.type T) (.type "tuple") = some k := by
          rcases hT with rfl | rfl
          · exact ⟨false, kit_ty (by decide +kernel)⟩
          · exact ⟨true, kit_ty (by decide +kernel)⟩
        refine ⟨.ref b', rfl, rfl, _, rfl, iteF ?_⟩
        refine ⟨.ref b', rfl, _, _, _, _, _, rfl, .ty _, t2, nb, _, rfl, iteF ?_⟩
        refine ⟨.ref b', rfl, _, _, _, _, _, rfl, .ty _, t2, ni, _, rfl, iteF ?_⟩
        refine ⟨.ref b', rfl, _, _, _, _, _, rfl, .ty _, t2, ns, _, rfl, iteF ?_⟩
        refine ⟨.ref a, rfl, _, _, _, _, _, rfl, .ty _, t1, hkl, .ref b', rfl, _, _, _, _, _, rfl, .ty _, t2, hkl, rfl, _, rfl, ?_⟩
        rw [decide_eq_true rfl]
        refine iteF ?_
        refine ⟨.ref a, rfl, _, _, _, _, _, rfl, .ty _, t1, hkt, .ref b', rfl, _, _, _, _, _, rfl, .ty _, t2, hkt, rfl, _, rfl, ?_⟩
        rw [decide_eq_true rfl]
        refine iteF ?_
        -- the lengths
        refine ⟨.ref a, rfl, a, _, rfl, (sq (Same.refl _)).1, .ref b', rfl, b', _, rfl, (sq (Same.refl _)).2, rfl, _, rfl, ?_⟩
        rw [hl, decide_eq_true rfl]
        refine iteF ?_
        -- the loop
        refine ⟨.ref b', rfl, b', _, rfl, (sq (Same.refl _)).2, _, rfl, by omega, by omega, ?_⟩
        refine for_it (walk_range (n := ys.length)) (fun i σ H2 => ∃ y2, σ = [some (.ref a), some (.ref b'), y2] ∧ Same H H2) ⟨none, rfl, Same.refl _⟩ (fun _ _ _ _ _ => trivial) (fun i x σ H2 H3 hi hW hY => ?_) (fun σ H2 hW => ?_)
        · obtain ⟨y2, rfl, sm⟩ := hW
          obtain ⟨rfl, rfl⟩ := hY
          obtain ⟨v, ev⟩ := at_some hi
          obtain ⟨u, eu⟩ := at_some (show i < xs.length by omega)
          have e0 : (0 : Int) + (i : Int) = (i : Int) := by omega
          have ix : ∀ {p : Addr} {zs : List V} {z : V} {Q' : VK}, (SqL K H3 p zs ∨ SqT K H3 p zs) → zs[i]? = some z → Q' z H3 → rIxL K (.ref p) (.int (0 + (i : Int))) H3 Q' ∨ rIxT K (.ref p) (.int (0 + (i : Int))) H3 Q' ∨ rIxS (.ref p) (.int (0 + (i : Int))) H3 Q' := fun {p zs z Q'} h e q => by
            rw [e0]
            rcases h with h | h
            · exact .inl ⟨p, zs, _, z, rfl, rfl, h, atI_nat e, q⟩
            · exact .inr (.inl ⟨p, zs, _, z, rfl, rfl, h, atI_nat e, q⟩)
          refine ⟨.ref a, rfl, _, rfl, ix (sq sm).1 eu ⟨.ref b', rfl, _, rfl, ix (sq sm).2 ev ⟨u, v, rfl, (hA i u v eu ev).keep sm, fun H4 s4 => ⟨_, rfl, iteF ⟨_, rfl, Same.trans sm s4⟩⟩⟩⟩⟩
        · obtain ⟨y2, rfl, sm⟩ := hW
          exact q H2 sm
    refine (FnOk.or (G.mono (Nat.le_succ _)) G2).imp (fun vs H Q E h => ?_)
    obtain ⟨x, y, rfl, hA, q⟩ := h
    rcases hA with ⟨h1, rfl⟩ | ⟨a, b', xs, ys, rfl, rfl, h1, h2, h3, h4⟩
    · exact .inl ⟨x, x, rfl, by cases n with | zero => exact ⟨h1, rfl⟩ | succ n => exact .inl ⟨h1, rfl⟩, q⟩
    · exact .inr ⟨a, b', xs, ys, rfl, h1, h2, h3, h4, q⟩
end
end El
namespace El
open PySem PySem.Spec PyProof.Rows L2
section
variable {P : Program} {w : World} {K : PySem.W.Frag} {mg : Str → Option Value} {base : Heap}
abbrev s__law_shuffled : Stmt := topS 16
abbrev N__law_shuffled : List Str := ["tray", "things", "left", "k"]
abbrev P__law_shuffled : List Str := ["tray", "things"]
theorem sc__law_shuffled : FnScope N__law_shuffled P__law_shuffled (defScope s__law_shuffled) := ⟨rfl, rfl, rfl, by decide +kernel, rfl, by decide +kernel, by decide +kernel⟩
def sp__law_shuffled (K : PySem.W.Frag) : Sp := fun vs H Q _ => ∃ (t g : Addr) (n : Nat) (a : Addr) (xs : List V), vs = [.ref t, .ref a] ∧ Tray H t g n ∧ SqL K H a xs ∧ xs.length ≤ 1000 ∧ n + xs.length ≤ 1000000000 ∧
  ∀ H' o ys, Kp (Off t g) H H' → Tray H' t g (n + xs.length) → H o = none → H' o = some (.lst ys) → ys.Perm xs → Q (.ref o) H'
theorem ok__law_shuffled (A : At K mg "_law_shuffled" P__law_shuffled s__law_shuffled) (B : Bi mg) (D__law_draw : Df P w K mg base 1 "_law_draw" P__law_draw s__law_draw sp__law_draw) :
    Df P w K mg base 2 "_law_shuffled" P__law_shuffled s__law_shuffled (sp__law_shuffled K) := by
  refine A.df fun f fd F => F.ok sc__law_shuffled (fun vs H Q E h => ?_) (fun cdv AA outer s H vs Q E hr h => ?_)
  · obtain ⟨_, _, _, _, _, rfl, _⟩ := h
    rfl
  · obtain ⟨t, g, n, a, xs, rfl, hT, hS, hl, hn, q⟩ := h
    have nd := sc__law_shuffled.nd
    refine ⟨_, (pss_cons (ps_set (i := 2) nd rfl (.inr rfl) (pe_callTy call_list_of (by rfl) B.list_ (by decide +kernel) (pa_cons (pv 1) pa_nil)))
    (pss_one (ps_ret (pe_lc (own := [("k", 3)]) (tt := tYes) rfl nd (pi_range1 (by rfl) B.range (pa_cons (pe_callB call_len_seq (by rfl) B.len PySem.boot_len (pa_cons (pv 2) pa_nil)) pa_nil)) (blkOk_by (N := N__law_shuffled) (sc := defScope s__law_shuffled) (by decide +kernel)) (fun _ _ _ _ _ => (pg_name (i := 3) nd rfl (.inl rfl))) (fun _ _ _ _ _ => pts_nil) (fun _ _ _ _ _ => (bmK K PySem.F.plainAttrs_list PySem.F.slot_list_pop PySem.F.type_list_pop mt_popAt (pv 2) (pa_cons (pe_df D__law_draw (hr.mono (by decide)) (by rfl) (pa_cons (pv 0) (pa_cons (pe_callB (lenK K) (by rfl) B.len PySem.boot_len (pa_cons (pv 2) pa_nil)) pa_nil))) pa_nil))))))), ?_⟩
    refine ⟨.ref a, rfl, a, xs, rfl, .inl hS, fun l nl => ?_⟩
    have el : upd H l (.lst xs) l = some (.lst xs) := upd_same
    have sl : Same H (upd H l (.lst xs)) := same_new nl
    refine ⟨.ref l, rfl, l, xs, rfl, .inl (SqL.of el), _, rfl, by omega, by omega, fun D nD => ?_⟩
    have nDl : l ≠ D := ne_of_none el nD
    have nD0 : H D = none := sl.free nD
    have ol : Off t g l := hT.off nl
    have oD : Off t g D := hT.off nD0
    refine lc_it (walk_range (n := xs.length)) (fun i H2 => ∃ ls acc, Kp (Off t g) H H2 ∧ H2 l = some (.lst ls) ∧ H2 D = some (.lst acc) ∧ (acc ++ ls).Perm xs ∧ ls.length + i = xs.length ∧ acc.length = i ∧ Tray H2 t g (n + i))
      ⟨xs, [], (Kp.of sl).trans (Kp.of (same_new nD)), by rw [upd_ne nDl]; exact el, upd_same, by simp, rfl, rfl, (hT.keep sl).keep (same_new nD)⟩ (fun _ _ _ _ => trivial) (fun i x H2 H3 hi hW hY => ?_) (fun H2 hW => ?_)
    · obtain ⟨ls, acc, kp, e1, e2, pm, hlen, ha, hT2⟩ := hW
      obtain ⟨rfl, rfl⟩ := hY
      have hm : (1 : Nat) ≤ ls.length := by omega
      refine ⟨rfl, .ref l, rfl, .inl ⟨rfl, _, SqL.of e1⟩, .ref t, rfl, .ref l, rfl, l, ls, rfl, .inl (SqL.of e1), t, g, n + i, _, rfl, hT2, by omega, by omega, ?_, fun H4 r k4 T4 r0 r1 => ?_⟩
      · exact Int.lt_of_lt_of_le (show (ls.length : Int) < 1001 by omega) (by decide)
      · obtain ⟨k, rfl⟩ : ∃ k : Nat, r = k := ⟨r.toNat, by omega⟩
        have hk : k < ls.length := by omega
        obtain ⟨y, ey⟩ := at_some hk
        have e1' := k4 _ _ ol e1
        have e2' := k4 _ _ oD e2
        refine ⟨l, ls, _, k, y, rfl, rfl, e1', by omega, by omega, seq_ix hk, ey, acc, by rw [upd_ne nDl.symm]; exact e2', ils (by omega), ls.eraseIdx k, acc ++ [y], ?_, ?_, upd_same, ?_, ?_, ?_, ?_⟩
        · exact (Kp.mutF (Kp.mutF (kp.trans k4) nl) nD0)
        · rw [upd_ne nDl, upd_same]
        · refine List.Perm.trans ?_ pm
          rw [List.append_assoc]
          exact List.Perm.append_left _ (erase_perm ey)
        · rw [List.length_eraseIdx_of_lt hk]
          omega
        · rw [List.length_append, ha]
          rfl
        · exact (T4.mut ol).mut oD
    · obtain ⟨ls, acc, kp, e1, e2, pm, hlen, ha, hT2⟩ := hW
      have : ls = [] := List.eq_nil_of_length_eq_zero (by omega)
      subst this
      rw [List.append_nil] at pm
      exact q H2 D acc kp hT2 nD0 e2 pm
end
end El
namespace El
open PySem PySem.Spec PyProof.Rows L2
section
variable {P : Program} {w : World} {K : PySem.W.Frag} {mg : Str → Option Value} {base : Heap}
abbrev s__law_ages : Stmt := topS 17
abbrev N__law_ages : List Str := ["tray", "many", "here", "far", "found", "k"]
abbrev P__law_ages : List Str := ["tray", "many"]
theorem sc__law_ages : FnScope N__law_ages P__law_ages (defScope s__law_ages) := ⟨rfl, rfl, rfl, by decide +kernel, rfl, by decide +kernel, by decide +kernel⟩
def sp__law_ages : Sp := fun vs H Q _ => ∃ (t g : Addr) (n many : Nat), vs = [.ref t, .int (many : Int)] ∧ Tray H t g n ∧ many ≤ 60 ∧ n ≤ 900000000 ∧
  ∀ H' o (ns : List Int), Kp (Off t g) H H' → Tray H' t g (n + 200) → H o = none → H' o = some (.lst (ns.map V.int)) → ns.length = many → ns.Nodup → Q (.ref o) H'
theorem ok__law_ages (A : At K mg "_law_ages" P__law_ages s__law_ages) (B : Bi mg) (D__law_draw : Df P w K mg base 1 "_law_draw" P__law_draw s__law_draw sp__law_draw)
    (D__law_shuffled : Df P w K mg base 2 "_law_shuffled" P__law_shuffled s__law_shuffled (sp__law_shuffled K)) : Df P w K mg base 3 "_law_ages" P__law_ages s__law_ages sp__law_ages := by
  refine A.df fun f fd F => F.ok sc__law_ages (fun vs H Q E h => ?_) (fun cdv AA outer s H vs Q E hr h => ?_)
  · obtain ⟨_, _, _, _, rfl, _⟩ := h
    rfl
  · obtain ⟨t, g, n, many, rfl, hT, hm, hn, q⟩ := h
    have nd := sc__law_ages.nd
    refine ⟨_, (pss_cons (ps_set (i := 2) nd rfl (.inl rfl) (pe_ix ix_list (pe_lst (pa_cons (pe_op op_sub (pe_df D__law_draw (hr.mono (by decide)) (by rfl) (pa_cons (pv 0) (pa_cons pe_int pa_nil))) pe_int) (pa_cons (pe_op op_sub (pe_df D__law_draw (hr.mono (by decide)) (by rfl) (pa_cons (pv 0) (pa_cons (pe_op op_pow pe_int pe_int) pa_nil))) (pe_op op_mul pe_int (pe_op op_pow pe_int pe_int))) pa_nil))) (pe_df D__law_draw (hr.mono (by decide)) (by rfl) (pa_cons (pv 0) (pa_cons pe_int pa_nil))) (fun _ _ => rfl)))
    (pss_cons (ps_set (i := 3) nd rfl (.inl rfl) (pe_ix ix_list (pe_lst (pa_cons pe_int (pa_cons pe_int (pa_cons (pe_op op_pow pe_int pe_int) pa_nil)))) (pe_df D__law_draw (hr.mono (by decide)) (by rfl) (pa_cons (pv 0) (pa_cons pe_int pa_nil))) (fun _ _ => rfl)))
    (pss_cons (ps_set (i := 4) nd rfl (.inl rfl) (pe_lst pa_nil))
    (pss_cons (ps_for PassesOwn.never rfl (pi_range1 (by rfl) B.range (pa_cons (pv 1) pa_nil)) (pg_name (i := 5) nd rfl (.inl rfl)) (pss_cons (ps_set (i := 2) nd rfl (.inl rfl) (pe_op op_add (pe_op op_add (pv 2) pe_int) (pe_df D__law_draw (hr.mono (by decide)) (by rfl) (pa_cons (pv 0) (pa_cons (pv 3) pa_nil))))) (pss_one (ps_expr (pe_bm PySem.F.plainAttrs_list PySem.F.slot_list_append PySem.F.type_list_append mt_append (pv 4) (pa_cons (pv 2) pa_nil))))))
    (pss_one (ps_ret (pe_df D__law_shuffled (hr.mono (by decide)) (by rfl) (pa_cons (pv 0) (pa_cons (pv 4) pa_nil))))))))), ?_⟩
    -- here
    refine ⟨.ref t, rfl, t, g, n, 30, rfl, hT, by omega, by decide, by decide, fun H1 r1 k1 T1 a1 b1 => ?_⟩
    refine ⟨_, _, rfl, rfl, .ref t, rfl, _, _, rfl, rfl, ⟨by decide, by decide, by decide⟩, t, g, n + 1, _, rfl, T1, by omega, by decide, by decide, fun H2 r2 k2 T2 a2 b2 => ?_⟩
    refine ⟨_, _, rfl, rfl, ⟨by decide, by decide, by decide⟩, _, _, rfl, rfl, .inl ⟨by decide, by decide⟩, _, _, rfl, rfl, (by show 2 ≤ sizeLine; decide), fun p np => ?_⟩
    have op : Off t g p := T2.off np
    refine ⟨.ref t, rfl, t, g, n + 2, 2, rfl, T2.mut op, by omega, by decide, by decide, fun H3 r3 k3 T3 a3 b3 => ?_⟩
    obtain ⟨v, hv, mv⟩ := at_pick (xs := [V.int (r1 - 15), .int (r2 - 5 * 10 ^ Int.toNat 28)]) a3 b3
    refine ⟨p, _, _, v, rfl, rfl, SqL.of (k3 _ _ op upd_same), hv, ?_⟩
    have kA : Kp (Off t g) H H3 := (k1.trans k2).trans ((Kp.of (same_new np)).trans k3)
    obtain ⟨here, rfl⟩ : ∃ i, v = .int i := by
      rcases List.mem_cons.mp mv with e | mv
      · exact ⟨_, e⟩
      · exact ⟨_, List.mem_singleton.mp mv⟩
    -- far
    refine ⟨_, _, rfl, rfl, ⟨by decide, by decide, by decide⟩, (by show 3 ≤ sizeLine; decide), fun p' np' => ?_⟩
    have op' : Off t g p' := T3.off np'
    refine ⟨.ref t, rfl, t, g, n + 3, 3, rfl, T3.mut op', by omega, by decide, by decide, fun H4 r4 k4 T4 a4 b4 => ?_⟩
    obtain ⟨v, hv', mv'⟩ := at_pick (xs := [V.int 1, .int 9, .int (10 ^ Int.toNat 27)]) a4 b4
    refine ⟨p', _, _, v, rfl, rfl, SqL.of (k4 _ _ op' upd_same), hv', ?_⟩
    have kB : Kp (Off t g) H H4 := kA.trans ((Kp.of (same_new np')).trans k4)
    obtain ⟨far, rfl, f0, f1⟩ : ∃ i : Int, v = .int i ∧ 0 < i ∧ i < 2 ^ 200 := by
      rcases List.mem_cons.mp mv' with e | mv'
      · exact ⟨_, e, by decide, by decide⟩
      · rcases List.mem_cons.mp mv' with e | mv'
        · exact ⟨_, e, by decide, by decide⟩
        · exact ⟨_, List.mem_singleton.mp mv', by decide, by decide⟩
    -- found = []
    refine ⟨Nat.zero_le _, fun o no => ?_⟩
    have oo : Off t g o := T4.off no
    have no0 : H o = none := kB.none oo no
    -- the loop
    refine ⟨_, rfl, _, rfl, by omega, by omega, ?_⟩
    refine for_it (walk_range (n := ((many : Int)).toNat)) (fun i σ H5 => ∃ (h : Int) (ns : List Int) (y5 : Option V), σ = [some (.ref t), some (.int (many : Int)), some (.int h), some (.int far), some (.ref o), y5] ∧ Kp (Off t g) H H5 ∧ Tray H5 t g (n + 4 + i) ∧ H5 o = some (.lst (ns.map V.int)) ∧ ns.length = i ∧ ns.Pairwise (· < ·) ∧ ∀ x ∈ ns, x ≤ h)
      ⟨here, [], none, rfl, kB.new no, T4.mut oo, upd_same, rfl, List.Pairwise.nil, fun x h => absurd h (by simp)⟩ (fun _ _ _ _ _ => trivial) (fun i x σ H5 H6 hi hW hY => ?_) (fun σ H5 hW => ?_)
    · obtain ⟨h, ns, y5, rfl, kp, T5, e5, hl, pw, hx⟩ := hW
      obtain ⟨rfl, rfl⟩ := hY
      have hi' : i < many := by omega
      refine ⟨.int h, rfl, _, _, rfl, rfl, .ref t, rfl, .int far, rfl, t, g, n + 4 + i, far, rfl, T5, by omega, f0, f1, fun H7 r7 k7 T7 a7 b7 => ?_⟩
      refine ⟨_, _, rfl, rfl, .ref o, rfl, .inl ⟨rfl, _, SqL.of (k7 _ _ oo e5)⟩, _, rfl, o, _, _, rfl, rfl, k7 _ _ oo e5, ils (by rw [List.length_map]; omega), ?_⟩
      refine ⟨h + 1 + r7, ns ++ [h + 1 + r7], _, rfl, Kp.mutF (kp.trans k7) no0, T7.mut oo, by rw [upd_same, List.map_append]; rfl, by rw [List.length_append, hl]; rfl, ?_, fun x m => ?_⟩
      · rw [List.pairwise_append]
        refine ⟨pw, List.pairwise_singleton _ _, fun x m y my => ?_⟩
        rw [List.mem_singleton.mp my]
        have := hx x m
        omega
      · rcases List.mem_append.mp m with m | m
        · have := hx x m
          omega
        · rw [List.mem_singleton.mp m]
          exact Int.le_refl _
    · obtain ⟨h, ns, y5, rfl, kp, T5, e5, hl, pw, hx⟩ := hW
      have hl' : ns.length = many := by omega
      refine ⟨.ref t, rfl, .ref o, rfl, t, g, _, o, _, rfl, T5, SqL.of e5, by rw [List.length_map]; omega, by rw [List.length_map]; omega, fun H8 o' ys k8 T8 no' e8 pm => ?_⟩
      obtain ⟨ms, rfl⟩ : ∃ ms : List Int, ys = ms.map V.int := by
        have : ∀ y ∈ ys, ∃ i, y = V.int i := fun y m => by
          obtain ⟨i, _, rfl⟩ := List.mem_map.mp (pm.mem_iff.mp m)
          exact ⟨i, rfl⟩
        clear pm e8
        induction ys with
        | nil => exact ⟨[], rfl⟩
        | cons y ys ih =>
          obtain ⟨i, rfl⟩ := this y List.mem_cons_self
          obtain ⟨ms, rfl⟩ := ih fun z m => this z (List.mem_cons_of_mem _ m)
          exact ⟨i :: ms, rfl⟩
      have pm' : ms.Perm ns := by
        have := pm.map (fun v : V => match v with | .int i => i | _ => 0)
        rw [List.map_map, List.map_map] at this
        simpa [Function.comp_def] using this
      have oo' : Off t g o' := T5.off no'
      refine q H8 o' ms (kp.trans k8) (T8.more (by rw [List.length_map]; omega)) (kp.none oo' no') e8 (by rw [pm'.length_eq, hl']) (pm'.nodup_iff.mpr ?_)
      exact pw.imp fun h => Int.ne_of_lt h
end
end El
namespace El
open PySem PySem.Spec PyProof.Rows L2
section
variable {P : Program} {w : World} {K : PySem.W.Frag} {mg : Str → Option Value} {base : Heap}
abbrev s__law_patience : Stmt := topS 18
abbrev N__law_patience : List Str := ["tray", "lot", "many", "some"]
abbrev P__law_patience : List Str := ["tray", "lot", "many"]
theorem sc__law_patience : FnScope N__law_patience P__law_patience (defScope s__law_patience) := ⟨rfl, rfl, rfl, by decide +kernel, rfl, by decide +kernel, by decide +kernel⟩
def sp__law_patience : Sp := fun vs H Q _ => ∃ (t g : Addr) (n many : Nat) (lot : Int), vs = [.ref t, .int lot, .int (many : Int)] ∧ Tray H t g n ∧ many ≤ 60 ∧ n ≤ 900000000 ∧ 0 ≤ lot ∧ lot ≤ 5 ∧
  ∀ H' (p : Int), Kp (Off t g) H H' → Tray H' t g (n + 5) → 0 ≤ p → Q (.int p) H'
theorem ok__law_patience (A : At K mg "_law_patience" P__law_patience s__law_patience) (B : Bi mg) (D__law_draw : Df P w K mg base 1 "_law_draw" P__law_draw s__law_draw sp__law_draw) : Df P w K mg base 2 "_law_patience" P__law_patience s__law_patience sp__law_patience := by
  refine A.df fun f fd F => F.ok sc__law_patience (fun vs H Q E h => ?_) (fun cdv AA outer s H vs Q E hr h => ?_)
  · obtain ⟨_, _, _, _, _, rfl, _⟩ := h
    rfl
  · obtain ⟨t, g, n, many, lot, rfl, hT, hm, hn, l0, l5, q⟩ := h
    have nd := sc__law_patience.nd
    refine ⟨_, (pss_cons (ps_set (i := 3) nd rfl (.inl rfl) (pe_lst (pa_cons pe_int (pa_cons (pe_df D__law_draw (hr.mono (by decide)) (by rfl) (pa_cons (pv 0) (pa_cons pe_int pa_nil))) (pa_cons (pe_df D__law_draw (hr.mono (by decide)) (by rfl) (pa_cons (pv 0) (pa_cons pe_int pa_nil))) (pa_cons (pe_df D__law_draw (hr.mono (by decide)) (by rfl) (pa_cons (pv 0) (pa_cons (pe_op op_add (pv 2) pe_int) pa_nil))) (pa_cons (pe_op op_sub (pe_op op_sub (pe_op op_pow pe_int pe_int) pe_int) (pe_df D__law_draw (hr.mono (by decide)) (by rfl) (pa_cons (pv 0) (pa_cons pe_int pa_nil)))) pa_nil)))))))
    (pss_one (ps_ret (pe_ix ix_list (pv 3) (pe_ifExp (pt_cmpR op_lt (pv 1) pe_int (nomark _)) (pv 1) (pe_ix ix_list (pe_lst (pa_cons pe_int (pa_cons pe_int (pa_cons pe_int (pa_cons pe_int (pa_cons pe_int (pa_cons pe_int pa_nil))))))) (pe_df D__law_draw (hr.mono (by decide)) (by rfl) (pa_cons (pv 0) (pa_cons pe_int pa_nil))) (fun _ _ => rfl))) (fun _ _ => rfl))))), ?_⟩
    refine ⟨.ref t, rfl, t, g, n, 3, rfl, hT, by omega, by decide, by decide, fun H1 r1 k1 T1 a1 b1 => ?_⟩
    refine ⟨.ref t, rfl, t, g, n + 1, 8, rfl, T1, by omega, by decide, by decide, fun H2 r2 k2 T2 a2 b2 => ?_⟩
    refine ⟨.ref t, rfl, _, rfl, _, _, rfl, rfl, t, g, n + 2, _, rfl, T2, by omega, by omega, ?_, fun H3 r3 k3 T3 a3 b3 => ?_⟩
    · exact Int.lt_of_le_of_lt (show (many : Int) + 2 ≤ 62 by omega) (by decide)
    · refine ⟨_, _, rfl, rfl, ⟨by decide, by decide, by decide⟩, _, _, rfl, rfl, .ref t, rfl, t, g, n + 3, 9, rfl, T3, by omega, by decide, by decide, fun H4 r4 k4 T4 a4 b4 => ?_⟩
      refine ⟨_, _, rfl, rfl, (by show 5 ≤ sizeLine; decide), fun p np => ?_⟩
      have op : Off t g p := T4.off np
      have kA : Kp (Off t g) H (upd H4 p (.lst [.int 0, .int r1, .int r2, .int r3, .int (10 ^ Int.toNat 30 - 1 - r4)])) := (((k1.trans k2).trans k3).trans k4).new np
      have TA := T4.mut (o := .lst [.int 0, .int r1, .int r2, .int r3, .int (10 ^ Int.toNat 30 - 1 - r4)]) op
      have eA : upd H4 p (.lst [.int 0, .int r1, .int r2, .int r3, .int (10 ^ Int.toNat 30 - 1 - r4)]) p = some (.lst [.int 0, .int r1, .int r2, .int r3, .int (10 ^ Int.toNat 30 - 1 - r4)]) := upd_same
      have fin : ∀ {H5 : Hp} {i : Int}, 0 ≤ i → i < 5 → Kp (Off t g) H H5 → Tray H5 t g (n + 5) → H5 p = some (.lst [.int 0, .int r1, .int r2, .int r3, .int (10 ^ Int.toNat 30 - 1 - r4)]) → rIxL K (.ref p) (.int i) H5 Q := by
        intro H5 i i0 i5 k5 T5 e5
        obtain ⟨v, hv, mv⟩ := at_pick (xs := [V.int 0, .int r1, .int r2, .int r3, .int (10 ^ Int.toNat 30 - 1 - r4)]) i0 i5
        refine ⟨p, _, _, v, rfl, rfl, SqL.of e5, hv, ?_⟩
        have e30 : (10 : Int) ^ Int.toNat 30 = 1000000000000000000000000000000 := by decide
        rcases List.mem_cons.mp mv with rfl | mv
        · exact q _ _ k5 T5 (by decide)
        rcases List.mem_cons.mp mv with rfl | mv
        · exact q _ _ k5 T5 a1
        rcases List.mem_cons.mp mv with rfl | mv
        · exact q _ _ k5 T5 a2
        rcases List.mem_cons.mp mv with rfl | mv
        · exact q _ _ k5 T5 a3
        rw [List.mem_singleton.mp mv]
        exact q _ _ k5 T5 (by omega)
      refine ⟨.ref p, rfl, .int lot, rfl, _, _, rfl, rfl, _, rfl, ite2 (fun e => ?_) (fun e => ?_)⟩
      · have e : lot < 5 := of_decide_eq_true e
        exact ⟨.int lot, rfl, fin l0 e kA (TA.more (Nat.le_succ _)) eA⟩
      · refine ⟨(by show 6 ≤ sizeLine; decide), fun p' np' => ?_⟩
        have op' : Off t g p' := TA.off np'
        refine ⟨.ref t, rfl, t, g, n + 4, 6, rfl, TA.mut op', by omega, by decide, by decide, fun H6 r6 k6 T6 a6 b6 => ?_⟩
        obtain ⟨v, hv, mv⟩ := at_pick (xs := [V.int 1, .int 1, .int 2, .int 3, .int 4, .int 0]) a6 b6
        refine ⟨p', _, _, v, rfl, rfl, SqL.of (k6 _ _ op' upd_same), hv, ?_⟩
        have k7 : Kp (Off t g) H H6 := kA.trans ((Kp.of (same_new np')).trans k6)
        have e7 := k6 _ _ op (by rw [upd_ne (no_of eA np').symm]; exact eA)
        have mv' : ∃ i : Int, v = .int i ∧ 0 ≤ i ∧ i < 5 := by
          rcases List.mem_cons.mp mv with rfl | mv
          · exact ⟨_, rfl, by decide, by decide⟩
          rcases List.mem_cons.mp mv with rfl | mv
          · exact ⟨_, rfl, by decide, by decide⟩
          rcases List.mem_cons.mp mv with rfl | mv
          · exact ⟨_, rfl, by decide, by decide⟩
          rcases List.mem_cons.mp mv with rfl | mv
          · exact ⟨_, rfl, by decide, by decide⟩
          rcases List.mem_cons.mp mv with rfl | mv
          · exact ⟨_, rfl, by decide, by decide⟩
          rw [List.mem_singleton.mp mv]
          exact ⟨_, rfl, by decide, by decide⟩
        obtain ⟨i, rfl, i0, i5⟩ := mv'
        exact fin i0 i5 k7 T6 e7
end
end El
namespace El
open PySem PySem.Spec PyProof.Rows L2
section
variable {P : Program} {w : World} {K : PySem.W.Frag} {mg : Str → Option Value} {base : Heap}
abbrev s__law_guests : Stmt := topS 19
abbrev N__law_guests : List Str := ["tray", "most", "many", "lot", "age"]
abbrev P__law_guests : List Str := ["tray", "most"]
theorem sc__law_guests : FnScope N__law_guests P__law_guests (defScope s__law_guests) := ⟨rfl, rfl, rfl, by decide +kernel, rfl, by decide +kernel, by decide +kernel⟩
def sp__law_guests : Sp := fun vs H Q _ => ∃ (t g : Addr) (n most : Nat), vs = [.ref t, .int (most : Int)] ∧ Tray H t g n ∧ most ≤ 60 ∧ n ≤ 800000000 ∧
  ∀ H' o ts gs, Kp (Off t g) H H' → Tray H' t g (n + 600) → GsAt H' (fun b => H b = none) o ts gs → o ∉ ts → Fit gs → gs.length ≤ most → Q (.ref o) H'
theorem ok__law_guests (A : At K mg "_law_guests" P__law_guests s__law_guests) (B : Bi mg) (D__law_draw : Df P w K mg base 1 "_law_draw" P__law_draw s__law_draw sp__law_draw)
    (D__law_ages : Df P w K mg base 3 "_law_ages" P__law_ages s__law_ages sp__law_ages) (D__law_patience : Df P w K mg base 2 "_law_patience" P__law_patience s__law_patience sp__law_patience) : Df P w K mg base 4 "_law_guests" P__law_guests s__law_guests sp__law_guests := by
  refine A.df fun f fd F => F.ok sc__law_guests (fun vs H Q E h => ?_) (fun cdv AA outer s H vs Q E hr h => ?_)
  · obtain ⟨_, _, _, _, rfl, _⟩ := h
    rfl
  · obtain ⟨t, g, n, most, rfl, hT, hm, hn, q⟩ := h
    have nd := sc__law_guests.nd
    refine ⟨_, (pss_cons (ps_set (i := 2) nd rfl (.inr rfl) (pe_df D__law_draw (hr.mono (by decide)) (by rfl) (pa_cons (pv 0) (pa_cons (pe_op op_add (pv 1) pe_int) pa_nil))))
    (pss_cons (ps_set (i := 3) nd rfl (.inr rfl) (pe_ix ix_list (pe_lst (pa_cons pe_int (pa_cons pe_int (pa_cons pe_int (pa_cons pe_int (pa_cons pe_int (pa_cons pe_int (pa_cons pe_int (pa_cons pe_int pa_nil))))))))) (pe_df D__law_draw (hr.mono (by decide)) (by rfl) (pa_cons (pv 0) (pa_cons pe_int pa_nil))) (fun _ _ => rfl)))
    (pss_one (ps_ret (pe_lc (own := [("age", 4)]) (tt := tYes) rfl nd (pi_list (pe_df D__law_ages (hr.mono (by decide)) (by rfl) (pa_cons (pv 0) (pa_cons (pv 2) pa_nil)))) (blkOk_by (N := N__law_guests) (sc := defScope s__law_guests) (by decide +kernel)) (fun _ _ _ _ _ => (pg_name (i := 4) nd rfl (.inl rfl))) (fun _ _ _ _ _ => pts_nil) (fun _ _ _ _ _ => (pe_tup (pa_cons (pv 4) (pa_cons (pe_df D__law_patience (hr.mono (by decide)) (by rfl) (pa_cons (pv 0) (pa_cons (pv 3) (pa_cons (pv 2) pa_nil)))) pa_nil))))))))), ?_⟩
    refine ⟨.ref t, rfl, _, rfl, _, _, rfl, rfl, t, g, n, _, rfl, hT, by omega, by omega, ?_, fun H1 r1 k1 T1 a1 b1 => ?_⟩
    · exact Int.lt_of_le_of_lt (show (most : Int) + 1 ≤ 61 by omega) (by decide)
    obtain ⟨many, rfl⟩ : ∃ k : Nat, r1 = k := ⟨r1.toNat, by omega⟩
    have hmany : many ≤ most := by omega
    -- lot
    refine ⟨(by show 8 ≤ sizeLine; decide), fun p np => ?_⟩
    have op : Off t g p := T1.off np
    refine ⟨.ref t, rfl, t, g, n + 1, 8, rfl, T1.mut op, by omega, by decide, by decide, fun H2 r2 k2 T2 a2 b2 => ?_⟩
    obtain ⟨v, hv, mv⟩ := at_pick (xs := [V.int 0, .int 1, .int 2, .int 3, .int 4, .int 5, .int 5, .int 5]) a2 b2
    refine ⟨p, _, _, v, rfl, rfl, SqL.of (k2 _ _ op upd_same), hv, ?_⟩
    have mv' : ∃ i : Int, v = .int i ∧ 0 ≤ i ∧ i ≤ 5 := by
      rcases List.mem_cons.mp mv with rfl | mv
      · exact ⟨_, rfl, by decide, by decide⟩
      rcases List.mem_cons.mp mv with rfl | mv
      · exact ⟨_, rfl, by decide, by decide⟩
      rcases List.mem_cons.mp mv with rfl | mv
      · exact ⟨_, rfl, by decide, by decide⟩
      rcases List.mem_cons.mp mv with rfl | mv
      · exact ⟨_, rfl, by decide, by decide⟩
      rcases List.mem_cons.mp mv with rfl | mv
      · exact ⟨_, rfl, by decide, by decide⟩
      rcases List.mem_cons.mp mv with rfl | mv
      · exact ⟨_, rfl, by decide, by decide⟩
      rcases List.mem_cons.mp mv with rfl | mv
      · exact ⟨_, rfl, by decide, by decide⟩
      rw [List.mem_singleton.mp mv]
      exact ⟨_, rfl, by decide, by decide⟩
    obtain ⟨lot, rfl, l0, l5⟩ := mv'
    have kA : Kp (Off t g) H H2 := k1.trans ((Kp.of (same_new np)).trans k2)
    -- the ages
    refine ⟨.ref t, rfl, _, rfl, t, g, n + 2, many, rfl, T2, by omega, by omega, fun H3 o ns k3 T3 no e3 hl hnd => ?_⟩
    refine ⟨o, rfl, ⟨_, SqL.of e3⟩, fun D nD => ?_⟩
    have oD : Off t g D := T3.off nD
    have oo : Off t g o := T2.off no
    have kB : Kp (Off t g) H H3 := kA.trans k3
    have hDo : o ≠ D := ne_of_none e3 nD
    have nD0 : H D = none := kB.none oD nD
    refine lc_it (walk_list (xs := ns.map V.int)) (fun i H4 => ∃ ts gs, Kp (Off t g) H H4 ∧ H4 o = some (.lst (ns.map V.int)) ∧ GsAt H4 (fun b => H b = none) D ts gs ∧ D ∉ ts ∧ gs.map (·.1) = ns.take i ∧ (∀ g ∈ gs, 0 ≤ g.2) ∧ Tray H4 t g (n + 202 + 5 * i))
      ⟨[], [], kB.new nD, by rw [upd_ne hDo]; exact e3, ⟨upd_same, nD0, rfl, fun i t g e _ => by simp at e, fun t m => by simp at m⟩, by simp, rfl, fun g m => by simp at m, T3.mut oD⟩ (fun i H4 _ hW => ?_) (fun i x H4 H5 hi hW hY => ?_) (fun H4 hW => ?_)
    · obtain ⟨_, _, _, e4, _⟩ := hW
      exact SqL.of e4
    · obtain ⟨ts, gs, kp, e4, hG, hD, hgs, hpos, T4⟩ := hW
      obtain ⟨rfl, hx⟩ := hY
      obtain ⟨a, ea, rfl⟩ := ints_at hx
      have hi' : i < ns.length := at_lt ea
      have hgl : gs.length = i := by
        have := congrArg List.length hgs
        rw [List.length_map, List.length_take] at this
        omega
      refine ⟨rfl, .int a, rfl, .ref t, rfl, .int lot, rfl, _, rfl, t, g, n + 202 + 5 * i, many, lot, rfl, T4, by omega, by omega, l0, l5, fun H6 b k6 T6 b0 => ?_⟩
      refine ⟨(by show 2 ≤ sizeLine; decide), fun u nu => ?_⟩
      have ou : Off t g u := T6.off nu
      have k7 : Kp (Off t g) H (upd H6 u (.tup [.int a, .int b])) := (kp.trans k6).new nu
      have nu0 : H u = none := (kp.trans k6).none ou nu
      have offD : ∀ z, H z = none → Off t g z := fun z hz => hT.off hz
      have hG6 : GsAt H6 (fun b => H b = none) D ts gs := hG.keep (fun z x hz e => k6 z x (offD z hz) e)
      have hG7 : GsAt (upd H6 u (.tup [.int a, .int b])) (fun b => H b = none) D ts gs := hG6.same (same_new nu)
      refine ⟨ts.map V.ref, hG7.top, ils (by rw [List.length_map, hG.len]; omega), ts ++ [u], gs ++ [(a, b)], ?_, ?_, hG7.push hD (g := (a, b)) upd_same nu0, ?_, ?_, ?_, ?_⟩
      · exact k7.mutF nD0
      · rw [upd_ne hDo, upd_ne (ne_of_none (k6 _ _ oo e4) nu)]
        exact k6 _ _ oo e4
      · intro m
        rcases List.mem_append.mp m with m | m
        · exact hD m
        · exact (ne_of_none hG6.top nu) (List.mem_singleton.mp m)
      · rw [List.map_append, hgs, take_snoc ea]
        rfl
      · intro g m
        rcases List.mem_append.mp m with m | m
        · exact hpos g m
        · rw [List.mem_singleton.mp m]
          exact b0
      · exact (T6.mut ou).mut oD
    · obtain ⟨ts, gs, kp, e4, hG, hD, hgs, hpos, T4⟩ := hW
      rw [List.length_map, take_full] at hgs
      have hgl : gs.length = many := by
        have := congrArg List.length hgs
        rw [List.length_map] at this
        omega
      exact q H4 D ts gs kp (T4.more (by rw [List.length_map]; omega)) hG hD ⟨by rw [hgs]; exact hnd, hpos⟩ (by omega)
end
end El
namespace El
open PySem PySem.Spec PyProof.Rows L2
section
variable {P : Program} {w : World} {K : PySem.W.Frag} {mg : Str → Option Value} {base : Heap}
abbrev s__law_settled : Stmt := topS 20
abbrev N__law_settled : List Str := ["some", "found", "age", "bears", "at"]
abbrev P__law_settled : List Str := ["some"]
theorem sc__law_settled : FnScope N__law_settled P__law_settled (defScope s__law_settled) := ⟨rfl, rfl, rfl, by decide +kernel, rfl, by decide +kernel, by decide +kernel⟩
def sp__law_settled : Sp := fun vs H Q _ => ∃ (B : Addr → Prop) (a : Addr) (ts : List Addr) (gs : List (Int × Int)), vs = [.ref a] ∧ GsAt H B a ts gs ∧ Fit gs ∧ gs.length ≤ 1000 ∧
  ∀ H' o us, Same H H' → RmsAt H' (fun b => H b = none) o us (settle gs) → Q (.ref o) H'
theorem ok__law_settled (A : At K mg "_law_settled" P__law_settled s__law_settled) (B : Bi mg) : Df P w K mg base 1 "_law_settled" P__law_settled s__law_settled sp__law_settled := by
  refine A.df fun f fd F => F.ok sc__law_settled (fun vs H Q E h => ?_) (fun cdv AA outer s H vs Q E hr h => ?_)
  · obtain ⟨_, a, _, _, rfl, _⟩ := h
    rfl
  · obtain ⟨BB, a, ts, gs, rfl, hG, hF, hl, q⟩ := h
    have nd := sc__law_settled.nd
    refine ⟨_, (pss_cons (ps_set (i := 1) nd rfl (.inl rfl) (pe_lst pa_nil))
    (pss_cons (ps_for PassesOwn.never rfl (pi_list (pe_revL (pe_callB cr_sortedPO (by rfl) B.sorted (by decide +kernel) (pa_cons (pv 0) pa_nil)))) (pg_tup (by rfl) (pgs_cons (pg_name (i := 2) nd rfl (.inl rfl)) (pgs_cons (pg_name (i := 3) nd rfl (.inl rfl)) pgs_nil))) (pss_cons (ps_set (i := 4) nd rfl (.inl rfl) pe_int) (pss_cons (ps_while PassesOwn.never (PW.pt (pw_and (pt_cmpR op_lt (pv 4) (pe_callB call_len_seq (by rfl) B.len PySem.boot_len (pa_cons (pv 1) pa_nil)) (nomark _)) (pw_and1 (pt_cmpR op_gt (pe_callB call_len_seq (by rfl) B.len PySem.boot_len (pa_cons (pe_ix ix_list (pv 1) (pv 4) (fun _ _ => rfl)) pa_nil)) (pv 3) (nomark _))))) (pss_one (ps_set (i := 4) nd rfl (.inl rfl) (pe_op op_add (pv 4) pe_int)))) (pss_cons (ps_if (pt_cmpR op_eq (pv 4) (pe_callB call_len_seq (by rfl) B.len PySem.boot_len (pa_cons (pv 1) pa_nil)) (nomark _)) (pss_one (ps_expr (pe_bm PySem.F.plainAttrs_list PySem.F.slot_list_append PySem.F.type_list_append mt_append (pv 1) (pa_cons (pe_lst pa_nil) pa_nil)))) pss_nil) (pss_one (ps_expr (pe_bm PySem.F.plainAttrs_list PySem.F.slot_list_append PySem.F.type_list_append mt_append (pe_ix ix_list (pv 1) (pv 4) (fun _ _ => rfl)) (pa_cons (pv 2) pa_nil))))))))
    (pss_one (ps_ret (pv 1))))), ?_⟩
    -- found = []
    refine ⟨Nat.zero_le _, fun o no => ?_⟩
    have s1 : Same H (upd H o (.lst [])) := same_new no
    have hG1 := hG.same s1
    -- sorted(some)[::-1]
    refine ⟨.ref a, rfl, a, _, prOf (upd H o (.lst [])), rfl, hG1.seq, hG1.mem, fun ys p hs hb np => ?_⟩
    have hys := sorted_prs hF hG1.prs hs hb
    have hmem : ∀ x ∈ ys.reverse, ∃ t, x = V.ref t ∧ upd H o (.lst []) t = some (.tup [.int (prOf (upd H o (.lst [])) x).1, .int (prOf (upd H o (.lst [])) x).2]) := fun x m => hG1.mem x (hb.perm.mem_iff.mp (List.mem_reverse.mp m))
    refine ⟨p, ys, rfl, SqL.of upd_same, fun p2 np2 => ?_⟩
    refine ⟨p2, rfl, ⟨_, SqL.of upd_same⟩, ?_⟩
    have s2 : Same (upd H o (.lst [])) (upd (upd (upd H o (.lst [])) p (.lst ys)) p2 (.lst ys.reverse)) := (same_new np).trans (same_new np2)
    have eo : upd (upd (upd H o (.lst [])) p (.lst ys)) p2 (.lst ys.reverse) o = some (.lst []) := s2 _ _ upd_same
    have ep : upd (upd (upd H o (.lst [])) p (.lst ys)) p2 (.lst ys.reverse) p2 = some (.lst ys.reverse) := upd_same
    have hpo : p2 ≠ o := no_of ((same_new np) _ _ upd_same) np2
    have sH := s1.trans s2
    have hmem2 : ∀ x ∈ ys.reverse, ∃ t, x = V.ref t ∧ t ≠ o ∧ upd (upd (upd H o (.lst [])) p (.lst ys)) p2 (.lst ys.reverse) t = some (.tup [.int (prOf (upd H o (.lst [])) x).1, .int (prOf (upd H o (.lst [])) x).2]) := fun x m => by
      obtain ⟨t, e1, e2⟩ := hmem x m
      exact ⟨t, e1, (ne_of e2 upd_same (by simp)), s2 _ _ e2⟩
    revert sH eo ep hmem2
    generalize upd (upd (upd H o (.lst [])) p (.lst ys)) p2 (.lst ys.reverse) = Hs
    intro eo ep sH hmem2
    have hlen : ys.reverse.length = (byAge gs).length := by rw [← hys, List.length_map]
    refine for_it (walk_list (xs := ys.reverse)) (fun i σ H2 => ∃ us y2 y3 y4, σ = [some (.ref a), some (.ref o), y2, y3, y4] ∧ Kp (fun b => b ≠ o) Hs H2 ∧ RmsAt H2 (fun b => b = o ∨ Hs b = none) o us (settleL ((byAge gs).take i)))
      ⟨[], none, none, none, rfl, Kp.refl, RmsAt.nil eo (.inl rfl)⟩ (fun i σ H2 _ hW => ?_) (fun i x σ H2 H3 hi hW hY => ?_) (fun σ H2 hW => ?_)
    · obtain ⟨_, _, _, _, _, kp, _⟩ := hW
      exact SqL.of (kp _ _ hpo ep)
    · obtain ⟨us, y2, y3, y4, rfl, kp, hR⟩ := hW
      obtain ⟨rfl, hx⟩ := hY
      obtain ⟨t, rfl, hto, et⟩ := hmem2 x (List.mem_of_getElem? hx)
      have eg : (byAge gs)[i]? = some (prOf (upd H o (.lst [])) (.ref t)) := by
        rw [← hys, List.getElem?_map, hx]
        rfl
      revert eg et
      generalize prOf (upd H o (.lst [])) (.ref t) = g
      intro et eg
      have hlt : (settleL ((byAge gs).take i)).length ≤ 1000 := by
        refine Nat.le_trans (settleL_len _) ?_
        rw [List.length_take, byAge_length]
        omega
      have hE := settleL_take eg
      have hrm : ∀ r ∈ settleL ((byAge gs).take i), r.length ≤ 1000 := fun r hr => by
        refine Nat.le_trans (settleL_room hr) ?_
        rw [List.length_take, byAge_length]
        omega
      revert hlt hE hR hrm
      generalize settleL ((byAge gs).take i) = rs
      intro hR hlt hE hrm
      refine ⟨t, _, rfl, SqT.of (kp _ _ hto et), rfl, .int g.1, _, rfl, .int g.2, _, rfl, rfl, ?_⟩
      -- at = 0; the while
      refine seq_set ?_
      refine seq_to (fun σ H4 => σ = [some (.ref a), some (.ref o), some (.int g.1), some (.int g.2), some (.int (firstB rs g.2))] ∧ H4 = H3) (fun X hX => ?_) (fun σ H4 hE4 => ?_)
      · refine while_to (fun m σ H4 => ∃ j : Nat, σ = [some (.ref a), some (.ref o), some (.int g.1), some (.int g.2), some (.int (j : Int))] ∧ H4 = H3 ∧ m + j = rs.length ∧ ∀ j' r, j' < j → rs[j']? = some r → g.2 < (r.length : Int))
          (fun σ H4 => σ = [some (.ref a), some (.ref o), some (.int g.1), some (.int g.2), some (.int (firstB rs g.2))] ∧ H4 = H3) ⟨rs.length, 0, rfl, rfl, rfl, fun j' r h => absurd h (Nat.not_lt_zero _)⟩ hX (fun X hX m σ H4 hW => ?_)
        obtain ⟨j, rfl, rfl, hm, hj⟩ := hW
        refine ⟨_, rfl, .ref o, rfl, o, _, rfl, .inl hR.seq, _, _, rfl, rfl, _, rfl, ite2 (fun e => ?_) (fun e => ?_)⟩
        · have e := of_decide_eq_true e
          rw [List.length_map, hR.len] at e
          obtain ⟨r, er⟩ := at_some (show j < rs.length by omega)
          obtain ⟨u, eu, hu⟩ := hR.of er
          refine ⟨.ref o, rfl, _, rfl, o, _, _, .ref u, rfl, rfl, hR.seq, atI_nat (j := j) (by rw [List.getElem?_map, eu]; rfl), u, _, rfl, .inl (SqL.of hu), .int g.2, rfl, _, _, rfl, rfl, _, rfl, ite2 (fun e2 => ?_) (fun e2 => ?_)⟩
          · have e2 := of_decide_eq_true e2
            rw [List.length_map] at e2
            refine ⟨fun σ' H' => ∃ j : Nat, σ' = [some (.ref a), some (.ref o), some (.int g.1), some (.int g.2), some (.int (j : Int))] ∧ H' = H4 ∧ (m - 1) + j = rs.length ∧ ∀ j' r, j' < j → rs[j']? = some r → g.2 < (r.length : Int), fun σ' H' h => ⟨m - 1, by omega, h⟩, ?_⟩
            refine ⟨_, rfl, _, _, rfl, rfl, j + 1, rfl, rfl, by omega, fun j' r' hj' e' => ?_⟩
            by_cases hjj : j' < j
            · exact hj j' r' hjj e'
            · have : j' = j := by omega
              subst this
              obtain rfl : r = r' := Option.some.inj (er.symm.trans e')
              exact e2
          · have e2 : ¬ g.2 < ((r.map V.int).length : Int) := fun z => e2 (decide_eq_true z)
            rw [List.length_map] at e2
            have hb : firstB rs g.2 = j := firstB_is rs g.2 j (by omega) hj fun r' e' => by
              obtain rfl : r = r' := Option.some.inj (er.symm.trans e')
              omega
            exact hX _ _ ⟨by rw [hb], rfl⟩
        · have e : ¬ (j : Int) < ((us.map V.ref).length : Int) := fun z => e (decide_eq_true z)
          rw [List.length_map, hR.len] at e
          have hb : firstB rs g.2 = j := firstB_is rs g.2 j (by omega) hj fun r' e' => absurd (at_lt e') (by omega)
          refine iteF (hX _ _ ⟨by rw [hb], rfl⟩)
      · obtain ⟨rfl, rfl⟩ := hE4
        have fin : ∀ {H5 : Hp} {us' : List Addr} {rs' : List (List Int)} {t : Addr} {r : List Int}, Kp (fun b => b ≠ o) Hs H5 → RmsAt H5 (fun b => b = o ∨ Hs b = none) o us' rs' → us'[firstB rs g.2]? = some t → place rs g.1 g.2 = rs'.set (firstB rs g.2) (r ++ [g.1]) →
            ∃ us y2 y3 y4, [some (V.ref a), some (.ref o), some (.int g.1), some (.int g.2), some (.int (firstB rs g.2))] = [some (V.ref a), some (.ref o), y2, y3, y4] ∧ Kp (fun b => b ≠ o) Hs (upd H5 t (.lst (r.map V.int ++ [.int g.1]))) ∧ RmsAt (upd H5 t (.lst (r.map V.int ++ [.int g.1]))) (fun b => b = o ∨ Hs b = none) o us (settleL ((byAge gs).take (i + 1))) := by
          intro H5 us' rs' t r k5 hR5 et ep
          refine ⟨us', _, _, _, rfl, ?_, ?_⟩
          · rcases hR5.b t (List.mem_of_getElem? et) with z | z
            · exact absurd (z ▸ List.mem_of_getElem? et) hR5.no
            · exact k5.mutF z
          · have z := hR5.set et (r ++ [g.1])
            rw [List.map_append] at z
            rw [hE, ep]
            exact z
        refine ⟨_, rfl, .ref o, rfl, o, _, rfl, .inl hR.seq, rfl, _, rfl, ite2 (fun e => ?_) (fun e => ?_)⟩
        · have e := V.int.inj (of_decide_eq_true e)
          rw [List.length_map, hR.len] at e
          have e : firstB rs g.2 = rs.length := by omega
          refine ⟨.ref o, rfl, .inl ⟨rfl, _, hR.seq⟩, Nat.zero_le _, fun u nu => ?_⟩
          have nuo : o ≠ u := ne_of_none hR.top nu
          refine ⟨o, _, _, rfl, rfl, (by rw [upd_ne nuo]; exact hR.top), ils (by rw [List.length_map, hR.len]; omega), ?_⟩
          have hns : Hs u = none := kp.none nuo.symm nu
          have hR5 := hR.push (r := []) nu (.inr hns)
          have k5 : Kp (fun b => b ≠ o) Hs (upd (upd H4 u (.lst [])) o (.lst (us.map V.ref ++ [.ref u]))) := Kp.mut (Kp.new kp nu) (fun z => z rfl)
          have et : (us ++ [u])[firstB rs g.2]? = some u := by
            rw [e, ← hR.len, List.getElem?_append_right (Nat.le_refl _), Nat.sub_self]
            rfl
          have er : (rs ++ [[]])[firstB rs g.2]? = some [] := by
            rw [e, List.getElem?_append_right (Nat.le_refl _), Nat.sub_self]
            rfl
          have eu := hR5.at' _ _ _ et er
          refine ⟨.ref o, rfl, _, rfl, o, _, _, .ref u, rfl, rfl, SqL.of (by rw [upd_same]), atI_nat (j := firstB rs g.2) ?_, .inl ⟨rfl, _, SqL.of eu⟩, .int g.1, rfl, u, _, _, rfl, rfl, eu, ils (Nat.zero_le _), ?_⟩
          · have z := congrArg (Option.map V.ref) et
            rw [← List.getElem?_map, List.map_append] at z
            exact z
          · refine fin (r := []) k5 hR5 et ?_
            rw [place_new _ _ _ e, e, List.set_append_right _ _ (Nat.le_refl _), Nat.sub_self]
            rfl
        · have e : ¬ firstB rs g.2 = rs.length := fun z => e (decide_eq_true (by rw [List.length_map, hR.len, z]))
          have hle := firstB_le rs g.2
          obtain ⟨r, er, _⟩ := firstB_in rs g.2 (by omega)
          obtain ⟨t, et, eu⟩ := hR.of er
          refine ⟨.ref o, rfl, _, rfl, o, _, _, .ref t, rfl, rfl, hR.seq, atI_nat (j := firstB rs g.2) ?_, .inl ⟨rfl, _, SqL.of eu⟩, .int g.1, rfl, t, _, _, rfl, rfl, eu, ils (by rw [List.length_map]; have := hrm r (List.mem_of_getElem? er); omega), ?_⟩
          · rw [List.getElem?_map, et]
            rfl
          · exact fin kp hR et (place_at _ _ _ _ er)
    · obtain ⟨us, y2, y3, y4, rfl, kp, hR⟩ := hW
      rw [hlen, take_full] at hR
      refine ⟨.ref o, rfl, q H2 o us ?_ (hR.newTop (fun _ _ _ e => e) fun b hb => ?_)⟩
      · intro b x hb
        exact kp _ _ (ne_of_none hb no) (sH _ _ hb)
      · rcases hb with rfl | hb
        · exact no
        · rcases hR.b b hb with rfl | z
          · exact no
          · exact sH.free z
end
end El
namespace El
open PySem PySem.Spec PyProof.Rows L2
section
variable {P : Program} {w : World} {K : PySem.W.Frag} {mg : Str → Option Value} {base : Heap}
abbrev s_law : Stmt := topS 21
abbrev N_law : List Str := ["script", "tray", "k", "some", "held", "due", "told", "far", "number", "many", "room", "one", "two"]
abbrev P_law : List Str := ["script"]
theorem sc_law : FnScope N_law P_law (defScope s_law) := ⟨rfl, rfl, rfl, by decide +kernel, rfl, by decide +kernel, by decide +kernel⟩
def sp_law (K : PySem.W.Frag) : Sp := fun vs H Q _ => ∃ (a : Addr) (ns : List Int), vs = [.ref a] ∧ SqL K H a (ns.map V.int) ∧ ns.length ≤ 63 ∧ ∀ H', Q (.bl true) H'
theorem ok_law (A : At K mg "law" P_law s_law) (B : Bi mg)
    (D__law_tray : Df P w K mg base 1 "_law_tray" P__law_tray s__law_tray (sp__law_tray K)) (D__law_draw : Df P w K mg base 1 "_law_draw" P__law_draw s__law_draw sp__law_draw)
    (D__law_guests : Df P w K mg base 4 "_law_guests" P__law_guests s__law_guests sp__law_guests) (D__law_settled : Df P w K mg base 1 "_law_settled" P__law_settled s__law_settled sp__law_settled)
    (D_sizes : Df P w K mg base 3 "sizes" P_sizes s_sizes sp_sizes) (D_in_first : Df P w K mg base 4 "in_first" P_in_first s_in_first sp_in_first)
    (D__law_alike : Df P w K mg base 3 "_law_alike" P__law_alike s__law_alike (sp__law_alike 2)) : Df P w K mg base 5 "law" P_law s_law (sp_law K) := by
  refine A.df fun f fd F => F.ok sc_law (fun vs H Q E h => ?_) (fun cdv AA outer s H vs Q E hr h => ?_)
  · obtain ⟨a, _, rfl, _⟩ := h
    rfl
  · obtain ⟨a, ns, rfl, hS, hl, q⟩ := h
    have nd := sc_law.nd
    refine ⟨_, (pss_cons (ps_set (i := 1) nd rfl (.inl rfl) (pe_df D__law_tray (hr.mono (by decide)) (by rfl) (pa_cons (pv 0) pa_nil)))
    (pss_cons (ps_for PassesOwn.never rfl (pi_range1 (by rfl) B.range (pa_cons (pe_op op_add pe_int (pe_callB (call_min2 rfl) (by rfl) B.min (by decide +kernel) (pa_cons pe_int (pa_cons (pe_callB call_len_seq (by rfl) B.len PySem.boot_len (pa_cons (pv 0) pa_nil)) pa_nil)))) pa_nil)) (pg_name (i := 2) nd rfl (.inl rfl)) (pss_cons (ps_set (i := 3) nd rfl (.inl rfl) (pe_df D__law_guests (hr.mono (by decide)) (by rfl) (pa_cons (pv 1) (pa_cons (pe_ix ix_list (pe_lst (pa_cons pe_int (pa_cons pe_int (pa_cons pe_int pa_nil)))) (pe_df D__law_draw (hr.mono (by decide)) (by rfl) (pa_cons (pv 1) (pa_cons pe_int pa_nil))) (fun _ _ => rfl)) pa_nil)))) (pss_cons (ps_set (i := 4) nd rfl (.inl rfl) (pe_callTy call_list_of (by rfl) B.list_ (by decide +kernel) (pa_cons (pv 3) pa_nil))) (pss_cons (ps_setLc (i := 5) (own := [("room", 10)]) (tt := tYes) rfl nd rfl rfl (sw_true rfl rfl rfl (by decide +kernel)) (pi_list (pe_df D__law_settled (hr.mono (by decide)) (by rfl) (pa_cons (pv 3) pa_nil))) (blkOk_by (N := N_law) (sc := defScope s_law) (by decide +kernel)) (fun _ _ _ _ _ => (pg_name (i := 10) nd rfl (.inl rfl))) (fun _ _ _ _ _ => pts_nil) (fun _ _ _ _ _ => (pe_callB (lenK K) (by rfl) B.len PySem.boot_len (pa_cons (pv 10) pa_nil)))) (pss_cons (ps_set (i := 6) nd rfl (.inl rfl) (pe_df D_sizes (hr.mono (by decide)) (by rfl) (pa_cons (pv 3) pa_nil))) (pss_cons (ps_if (PW.pt (pw_or (pt_not (pt_val (pe_df D__law_alike (hr.mono (by decide)) (by rfl) (pa_cons (pv 6) (pa_cons (pv 5) pa_nil))))) (pw_or1 (pt_cmpR (op_neD hr.units) (pe_lc (own := [("one", 11), ("two", 12)]) rfl nd (pi_zip (by rfl) B.zip (pa_cons (pv 6) (pa_cons (pe_slice sl_list (pv 6) (po_some pe_int) po_none) pa_nil))) (blkOk_by (N := N_law) (sc := defScope s_law) (by decide +kernel)) (fun _ _ _ _ _ => (pgTupK K 2 (by rfl) (pgs_cons (pg_name (i := 11) nd rfl (.inl rfl)) (pgs_cons (pg_name (i := 12) nd rfl (.inl rfl)) pgs_nil)))) (fun _ _ _ _ _ => (pts_one (pt_cmpR op_lt (pv 11) (pv 12) (nomark _)))) (fun _ _ _ _ _ => pe_int)) (pe_lst pa_nil) (nomark _))))) (pss_one (ps_ret pe_bl)) pss_nil) (pss_cons (ps_expr (pe_bm PySem.F.plainAttrs_list PySem.F.slot_list_append PySem.F.type_list_append mt_append (pv 6) (pa_cons pe_int pa_nil))) (pss_cons (ps_if (pt_not (pt_val (pe_df D__law_alike (hr.mono (by decide)) (by rfl) (pa_cons (pe_dfK D_sizes ["guests"] (fun l => l) (hr.mono (by decide)) (by rfl) (pk_cons (pv 3) pk_nil) (fun _ _ _ _ _ _ ws hl => match ws, hl with | [_], _ => rfl) (fun r => r)) (pa_cons (pv 5) pa_nil))))) (pss_one (ps_ret pe_bl)) pss_nil) (pss_cons (ps_set (i := 7) nd rfl (.inl rfl) (pe_lst (pa_cons (pe_df D__law_draw (hr.mono (by decide)) (by rfl) (pa_cons (pv 1) (pa_cons (pe_op op_pow pe_int pe_int) pa_nil))) (pa_cons (pe_op op_sub (pe_op op_pow pe_int pe_int) pe_int) (pa_cons (pe_callB call_len_seq (by rfl) B.len PySem.boot_len (pa_cons (pv 3) pa_nil)) (pa_cons (pe_op op_add (pe_callB call_len_seq (by rfl) B.len PySem.boot_len (pa_cons (pv 5) pa_nil)) pe_int) pa_nil)))))) (pss_cons (ps_for PassesOwn.never rfl (pi_list (pe_op op_cat (pe_listRg rfl (by rfl) B.list_ (prg_1 (by rfl) B.range (pe_op op_add (pe_callB call_len_seq (by rfl) B.len PySem.boot_len (pa_cons (pv 5) pa_nil)) pe_int))) (pv 7))) (pg_name (i := 8) nd rfl (.inl rfl)) (pss_cons (ps_set (i := 9) nd rfl (.inl rfl) (pe_callB (cr_sum rfl) (by rfl) B.sum (by decide +kernel) (pa_cons (pe_slice sl_list (pv 5) po_none (po_some (pe_callB (call_min2 rfl) (by rfl) B.min (by decide +kernel) (pa_cons (pv 8) (pa_cons pe_int pa_nil))))) pa_nil))) (pss_one (ps_if (pt_not (pt_val (pe_df D__law_alike (hr.mono (by decide)) (by rfl) (pa_cons (pe_lst (pa_cons (pe_df D_in_first (hr.mono (by decide)) (by rfl) (pa_cons (pv 3) (pa_cons (pv 8) pa_nil))) (pa_cons (pe_dfK D_in_first ["j", "guests"] (fun | [a, b] => [b, a] | l => l) (hr.mono (by decide)) (by rfl) (pk_cons (pv 8) (pk_cons (pv 3) pk_nil)) (fun _ _ _ _ _ _ ws hl => match ws, hl with | [_, _], _ => rfl) (fun r => match r with | .cons x (.cons y .nil) => .cons y (.cons x .nil) | .nil => .nil | .cons x .nil => .cons x .nil | .cons x (.cons y (.cons z r)) => .cons x (.cons y (.cons z r)))) pa_nil))) (pa_cons (pe_lst (pa_cons (pv 9) (pa_cons (pv 9) pa_nil))) pa_nil))))) (pss_one (ps_ret pe_bl)) pss_nil)))) (pss_one (ps_if (pt_cmpR (op_neD hr.units) (pv 3) (pv 4) (nomark _)) (pss_one (ps_ret pe_bl)) pss_nil))))))))))))
    (pss_one (ps_ret pe_bl)))), ?_⟩
    -- tray
    refine ⟨.ref a, rfl, a, ns, rfl, hS, hl, fun H1 t g s1 nt ng hT => ?_⟩
    -- the laps
    refine ⟨.ref a, rfl, a, _, rfl, .inl (s1.seq hS), _, _, rfl, _, _, rfl, rfl, _, rfl, ?_, ?_, ?_⟩
    · split <;> omega
    · split <;> omega
    have hlaps : ((3 : Int) + (if ((ns.map V.int).length : Int) < 8 then ((ns.map V.int).length : Int) else 8)).toNat ≤ 11 := by
      split <;> omega
    refine for_it walk_range (fun i σ H2 => ∃ y2 y3 y4 y5 y6 y7 y8 y9 y10 y11 y12, σ = [some (.ref a), some (.ref t), y2, y3, y4, y5, y6, y7, y8, y9, y10, y11, y12] ∧ Tray H2 t g (100000 * i)) ⟨_, _, _, _, _, _, _, _, _, _, _, rfl, hT⟩ (fun _ _ _ _ _ => trivial) (fun i x σ H2 H3 hi hW hY => ?_) (fun σ H2 hW => ?_)
    · obtain ⟨y2, y3, y4, y5, y6, y7, y8, y9, y10, y11, y12, rfl, T2⟩ := hW
      obtain ⟨rfl, rfl⟩ := hY
      have hi11 : i ≤ 10 := by omega
      -- some = _law_guests(tray, [6, 20, 60][_law_draw(tray, 3)])
      refine ⟨.ref t, rfl, (by show 3 ≤ sizeLine; decide), fun p np => ?_⟩
      have op : Off t g p := T2.off np
      refine ⟨.ref t, rfl, t, g, 100000 * i, 3, rfl, T2.mut op, by omega, by decide, by decide, fun H4 r4 k4 T4 a4 b4 => ?_⟩
      obtain ⟨v, hv, mv⟩ := at_pick (xs := [V.int 6, .int 20, .int 60]) a4 b4
      refine ⟨p, _, _, v, rfl, rfl, SqL.of (k4 _ _ op upd_same), hv, ?_⟩
      have mv' : ∃ m : Nat, v = .int (m : Int) ∧ m ≤ 60 := by
        rcases List.mem_cons.mp mv with rfl | mv
        · exact ⟨6, rfl, by decide⟩
        rcases List.mem_cons.mp mv with rfl | mv
        · exact ⟨20, rfl, by decide⟩
        rw [List.mem_singleton.mp mv]
        exact ⟨60, rfl, by decide⟩
      obtain ⟨most, rfl, hmost⟩ := mv'
      refine ⟨t, g, _, most, rfl, T4, hmost, by omega, fun H5 o ts gs k5 T5 hG5 hno hF hgl => ?_⟩
      have hG5 : GsAt H5 (Off t g) o ts gs := hG5.weaken fun b hb => T4.off hb
      have hg60 : gs.length ≤ 60 := Nat.le_trans hgl hmost
      have hg : gs.length ≤ 1000 := by omega
      have oo := hG5.ba
      -- held = list(some)
      refine ⟨.ref o, rfl, o, _, rfl, .inl hG5.seq, fun hd nhd => ?_⟩
      have s6 : Same H5 (upd H5 hd (.lst (ts.map V.ref))) := same_new nhd
      have ohd : Off t g hd := T5.off nhd
      have hG6 := hG5.same s6
      have hH6 : GsAt (upd H5 hd (.lst (ts.map V.ref))) (Off t g) hd ts gs := ⟨upd_same, ohd, hG5.len, hG6.at', hG5.b⟩
      have T6 := T5.keep s6
      revert hG6 hH6 T6
      generalize upd H5 hd (.lst (ts.map V.ref)) = H6
      intro hG6 hH6 T6
      -- due = [len(room) for room in _law_settled(some)]
      refine ⟨.ref o, rfl, Off t g, o, ts, gs, rfl, hG6, hF, hg, fun H7 ro us s7 hR7 => ?_⟩
      refine ⟨ro, rfl, ⟨_, hR7.seq⟩, fun D nD => ?_⟩
      have hrl : (settle gs).length ≤ 60 := Nat.le_trans (settleL_len _) (by rw [byAge_length]; exact hg60)
      refine lc_it (walk_list (xs := us.map V.ref)) (fun i H2 => Same H7 H2 ∧ H2 D = some (.lst ((lens ((settle gs).take i)).map V.int))) ⟨same_new nD, upd_same⟩ (fun i H2 _ hW => ?_) (fun i x H2 H3 hi hW hY => ?_) (fun H8 hW => ?_)
      · exact (hR7.same hW.1).seq
      · obtain ⟨sm, hD⟩ := hW
        obtain ⟨rfl, hx⟩ := hY
        obtain ⟨t, r, rfl, _, er, et⟩ := (hR7.same sm).get hx
        refine ⟨rfl, .ref t, rfl, t, _, rfl, .inl (SqL.of et), _, hD, ils (by rw [List.length_map, lens_length, List.length_take]; omega), Same.mut sm nD, ?_⟩
        rw [upd_same, take_snoc er]
        show _ = some (HO.lst (((((settle gs).take i) ++ [r]).map fun r => (r.length : Int)).map V.int))
        rw [List.map_append, List.map_append]
        show some (HO.lst (_ ++ [V.int ((List.map V.int r).length : Int)])) = _
        rw [List.length_map]
        rfl
      obtain ⟨s8, eD⟩ := hW
      rw [List.length_map, hR7.len, take_full] at eD
      have hLl : (lens (settle gs)).length ≤ 60 := by rw [lens_length]; exact hrl
      have hfall := fun {i : Nat} {x y : Int} => lens_falls (i := i) (x := x) (y := y) hF
      revert eD hLl hfall
      generalize hL : lens (settle gs) = L
      intro eD hLl hfall
      have s68 : Same H6 H8 := Same.trans s7 s8
      have hG8 := hG6.same s68
      have hH8 := hH6.same s68
      have T8 := T6.keep s68
      have oD : Off t g D := (T6.keep s7).off nD
      -- told = sizes(some)
      refine ⟨.ref o, rfl, Off t g, o, ts, gs, rfl, hG8, hF, hg, fun H9 to s9 nto eto => ?_⟩
      rw [hL] at eto
      have hG9 := hG8.same s9
      have hH9 := hH8.same s9
      have T9 := T8.keep s9
      have eD9 := s9 _ _ eD
      have hDto : D ≠ to := ne_of_none eD nto
      -- if not _law_alike(told, due) or ..
      refine ⟨.ref to, rfl, .ref D, rfl, _, _, rfl, Alk.ints eto eD9 (by omega), fun H10 s10 => ⟨_, rfl, iteF ?_⟩⟩
      refine ⟨.ref to, rfl, .ref to, rfl, 1, rfl, to, _, rfl, SqL.of (s10 _ _ eto), fun c nc => ?_⟩
      rw [cut_1, ← List.map_drop]
      have s11 : Same H10 (upd H10 c (.lst ((L.drop 1).map V.int))) := same_new nc
      refine ⟨to, c, _, _, rfl, SqL.of (s11 _ _ (s10 _ _ eto)), SqL.of upd_same, fun D2 nD2 => ?_⟩
      have ec : upd H10 c (.lst ((L.drop 1).map V.int)) c = some (.lst ((L.drop 1).map V.int)) := upd_same
      have s911 : Same H9 (upd H10 c (.lst ((L.drop 1).map V.int))) := Same.trans s10 s11
      revert ec s911 nD2
      generalize upd H10 c (.lst ((L.drop 1).map V.int)) = H11
      intro nD2 ec s911
      refine lc_it (walk_zip (xs := L.map V.int) (ys := (L.drop 1).map V.int) rfl) (fun i H2 => Same H11 H2 ∧ H2 D2 = some (.lst [])) ⟨same_new nD2, upd_same⟩ (fun i H2 _ hW => ?_) (fun i x H2 H3 hi hW hY => ?_) (fun H12 hW => ?_)
      · exact ⟨SqL.of (hW.1 _ _ (s911 _ _ eto)), SqL.of (hW.1 _ _ ec)⟩
      · obtain ⟨sm, hD2⟩ := hW
        obtain ⟨T, x, y, rfl, nT, rfl, hx, hy⟩ := hY
        obtain ⟨m, em, rfl⟩ := ints_at hx
        obtain ⟨n, en, rfl⟩ := ints_at hy
        refine ⟨T, _, rfl, SqT.of upd_same, rfl, .int m, _, rfl, .int n, _, rfl, rfl, rfl, .int m, rfl, .int n, rfl, _, _, rfl, rfl, _, rfl, ?_⟩
        rw [decide_eq_false (hfall em en)]
        exact iteF ⟨Same.trans sm (same_new nT), by rw [upd_ne (ne_of_none hD2 nT)]; exact hD2⟩
      obtain ⟨s12, eD2⟩ := hW
      refine ⟨Nat.zero_le _, fun u nu => ?_⟩
      have s13 : Same H12 (upd H12 u (.lst [])) := same_new nu
      refine ⟨dInts [], dInts [], Dp.ints (s13 _ _ eD2), Dp.ints upd_same, (Oks.ints _).shaped, (Oks.ints _).shaped, _, rfl, ?_⟩
      rw [eqv_nil]
      refine iteF ?_
      have s913 : Same H9 (upd H12 u (.lst [])) := Same.trans s911 (Same.trans s12 s13)
      revert s913
      generalize upd H12 u (.lst []) = H13
      intro s913
      -- told.append(1)
      have eto13 := s913 _ _ eto
      refine ⟨.ref to, rfl, .inl ⟨rfl, _, SqL.of eto13⟩, to, _, _, rfl, rfl, eto13, ils (by rw [List.length_map]; omega), ?_⟩
      -- from here on: what stood in H8
      have kL : Kp (Liv H8 (Off t g)) H8 (upd H13 to (.lst (L.map V.int ++ [.int 1]))) := (Kp.of (Same.trans s9 s913)).mut (Liv.no nto)
      have T14 : Tray (upd H13 to (.lst (L.map V.int ++ [.int 1]))) t g (100000 * i + 601) := ((T9.keep s913).mut (T8.off nto)).more (by omega)
      revert kL T14
      generalize upd H13 to (.lst (L.map V.int ++ [.int 1])) = H14
      intro kL T14
      have lD : Liv H8 (Off t g) D := Liv.of eD oD
      have hGL := hG8.liv
      have hHL := hH8.liv
      have hG14 := hGL.keep kL
      -- sizes(guests=some)
      refine ⟨.ref o, rfl, rfl, _, o, ts, gs, rfl, hG14, hF, hg, fun H15 o2 s15 no2 eo2 => ?_⟩
      rw [hL] at eo2
      have k15 : Kp (Liv H8 (Off t g)) H8 H15 := kL.trans (.of s15)
      refine ⟨.ref D, rfl, _, _, rfl, Alk.ints eo2 (k15 _ _ lD eD) (by omega), fun H16 s16 => ⟨_, rfl, iteF ?_⟩⟩
      have k16 : Kp (Liv H8 (Off t g)) H8 H16 := k15.trans (.of s16)
      have T16 := (T14.keep s15).keep s16
      -- far
      refine ⟨.ref t, rfl, _, _, rfl, rfl, ⟨by decide, by decide, by decide⟩, t, g, _, _, rfl, T16, by omega, by decide, by decide, fun H17 r17 k17 T17 a17 b17 => ?_⟩
      have k17' : Kp (Liv H8 (Off t g)) H8 H17 := k16.trans k17.liv
      refine ⟨_, _, rfl, rfl, ⟨by decide, by decide, by decide⟩, _, _, rfl, rfl, .ref o, rfl, o, _, rfl, .inl (hGL.keep k17').seq, .ref D, rfl, D, _, rfl, .inl (SqL.of (k17' _ _ lD eD)), _, _, rfl, rfl, (by show 4 ≤ sizeLine; decide), fun fa nfa => ?_⟩
      -- list(range(len(due) + 2)) + far
      have s18 := same_new (o := .lst [.int r17, .int (10 ^ Int.toNat 40 - 1), .int ((ts.map V.ref).length : Int), .int (((L.map V.int).length : Int) + 2)]) nfa
      have k18 : Kp (Liv H8 (Off t g)) H8 (upd H17 fa (.lst [.int r17, .int (10 ^ Int.toNat 40 - 1), .int ((ts.map V.ref).length : Int), .int (((L.map V.int).length : Int) + 2)])) := k17'.trans (.of s18)
      refine ⟨.ref D, rfl, D, _, rfl, .inl (SqL.of (k18 _ _ lD eD)), _, _, rfl, rfl, _, rfl, RgOk.of_le (by omega) (by rw [List.length_map]; omega) (by omega) (by omega), fun rg nrg => ?_⟩
      refine ⟨.ref fa, rfl, rg, fa, _, _, rfl, rfl, upd_same, (by rw [upd_ne (ne_of_none upd_same nrg)]; exact upd_same), (by rw [rgV_length, List.length_map]; exact ile (by simp; omega)), fun li nli => ?_⟩
      refine ⟨li, rfl, ⟨_, SqL.of upd_same⟩, ?_⟩
      obtain ⟨zs, hzs⟩ : ∃ zs : List Nat, rgV 0 (((L.map V.int).length : Int) + 2) ++ [V.int r17, .int (10 ^ Int.toNat 40 - 1), .int ((ts.map V.ref).length : Int), .int (((L.map V.int).length : Int) + 2)] = zs.map fun z : Nat => V.int (z : Int) := by
        refine ⟨List.range (L.length + 2) ++ [r17.toNat, 10 ^ 40 - 1, ts.length, L.length + 2], ?_⟩
        rw [List.map_append]
        congr 1
        · unfold rgV
          rw [List.length_map, show ((L.length : Int) + 2 - 0).toNat = L.length + 2 by omega]
          refine List.map_congr_left fun z _ => ?_
          rw [Int.zero_add]
        · rw [List.length_map, List.length_map]
          show _ = [V.int (r17.toNat : Int), .int ((10 ^ 40 - 1 : Nat) : Int), .int (ts.length : Int), .int ((L.length + 2 : Nat) : Int)]
          rw [Int.toNat_of_nonneg a17]
          rfl
      rw [hzs]
      have sB : Same H17 (upd (upd (upd H17 fa (.lst [.int r17, .int (10 ^ Int.toNat 40 - 1), .int ((ts.map V.ref).length : Int), .int (((L.map V.int).length : Int) + 2)])) rg (.lst (rgV 0 (((L.map V.int).length : Int) + 2)))) li (.lst (zs.map fun z : Nat => V.int (z : Int)))) :=
        Same.trans s18 (Same.trans (same_new nrg) (same_new nli))
      have eli : upd (upd (upd H17 fa (.lst [.int r17, .int (10 ^ Int.toNat 40 - 1), .int ((ts.map V.ref).length : Int), .int (((L.map V.int).length : Int) + 2)])) rg (.lst (rgV 0 (((L.map V.int).length : Int) + 2)))) li (.lst (zs.map fun z : Nat => V.int (z : Int))) li = some (.lst (zs.map fun z : Nat => V.int (z : Int))) := upd_same
      revert sB eli
      generalize upd (upd (upd H17 fa (.lst [.int r17, .int (10 ^ Int.toNat 40 - 1), .int ((ts.map V.ref).length : Int), .int (((L.map V.int).length : Int) + 2)])) rg (.lst (rgV 0 (((L.map V.int).length : Int) + 2)))) li (.lst (zs.map fun z : Nat => V.int (z : Int))) = HB
      intro sB eli
      have kB : Kp (Liv H8 (Off t g)) H8 HB := k17'.trans (.of sB)
      have TB := T17.keep sB
      have hGB := hGL.keep kB
      have hHB := hHL.keep kB
      have eDB := kB _ _ lD eD
      refine for_it (walk_list (xs := zs.map fun z : Nat => V.int (z : Int))) (fun j σ H2 => ∃ y8 y9, σ = [some (.ref a), some (.ref t), some (.int (0 + (i : Int))), some (.ref o), some (.ref hd), some (.ref D), some (.ref to), some (.ref fa), y8, y9, y10, y11, y12] ∧ Same HB H2) ⟨_, _, rfl, Same.refl _⟩ (fun j σ H2 _ hW => ?_) (fun j x σ H2 H3 hj hW hY => ?_) (fun σ H2 hW => ?_)
      · obtain ⟨_, _, _, sm⟩ := hW
        exact SqL.of (sm _ _ eli)
      · obtain ⟨y8, y9, rfl, sm⟩ := hW
        obtain ⟨rfl, hx⟩ := hY
        obtain ⟨z, hz, rfl⟩ : ∃ z : Nat, zs[j]? = some z ∧ x = .int (z : Int) := by
          rw [List.getElem?_map] at hx
          cases e : zs[j]? with
          | none => rw [e] at hx; cases hx
          | some z => rw [e] at hx; exact ⟨z, rfl, (Option.some.inj hx).symm⟩
        have hG3 := hGB.same sm
        -- many = sum(due[:min(number, 99)])
        refine ⟨.ref D, rfl, .int (z : Int), rfl, _, _, rfl, _, rfl, D, _, rfl, SqL.of (sm _ _ eDB), fun c nc => ?_⟩
        rw [show (if (99 : Int) < (z : Int) then (99 : Int) else (z : Int)) = ((min z 99 : Nat) : Int) by split <;> omega, cut_to, ← List.map_take]
        have et : L.take (min z 99) = L.take z := by
          by_cases h : z ≤ 99
          · rw [Nat.min_eq_left h]
          · rw [Nat.min_eq_right (by omega), List.take_of_length_le (by omega), List.take_of_length_le (by omega)]
        rw [et]
        have s3 := same_new (o := .lst ((L.take z).map V.int)) nc
        refine ⟨c, _, rfl, SqL.of upd_same, ?_⟩
        -- the two answers
        refine ⟨.ref o, rfl, .int (z : Int), rfl, _, o, ts, gs, z, rfl, hG3.same s3, hF, hg, fun H4 s4 => ?_⟩
        refine ⟨.int (z : Int), rfl, .ref o, rfl, rfl, _, o, ts, gs, z, rfl, (hG3.same s3).same s4, hF, hg, fun H5 s5 => ?_⟩
        rw [hL]
        refine ⟨(by show 2 ≤ sizeLine; decide), fun u nu => ?_⟩
        refine ⟨_, rfl, _, rfl, (by show 2 ≤ sizeLine; decide), fun u2 nu2 => ?_⟩
        have e2 : upd (upd H5 u (.lst [.int (L.take z).sum, .int (L.take z).sum])) u2 (.lst [.int (L.take z).sum, .int (L.take z).sum]) u = some (.lst ([(L.take z).sum, (L.take z).sum].map V.int)) := by
          rw [upd_ne (ne_of_none upd_same nu2), upd_same]
          rfl
        refine ⟨.ref u, .ref u2, rfl, Alk.ints e2 upd_same (by show 2 ≤ 100000; decide), fun H6 s6 => ⟨_, rfl, iteF ⟨_, _, rfl, Same.trans sm (Same.trans s3 (Same.trans s4 (Same.trans s5 (Same.trans (same_new nu) (Same.trans (same_new nu2) s6)))))⟩⟩⟩
      · obtain ⟨y8, y9, rfl, sm⟩ := hW
        -- if some != held
        refine ⟨.ref o, rfl, .ref hd, rfl, dGs gs, dGs gs, (hGB.same sm).dp, (hHB.same sm).dp, (Oks.gs _).shaped, (Oks.gs _).shaped, _, rfl, ?_⟩
        rw [(Oks.gs gs).eqv]
        exact iteF ⟨_, _, _, _, _, _, _, _, _, _, _, rfl, (TB.keep sm).more (by omega)⟩
    · exact q _
end
end El
namespace El
open PySem PySem.Spec PyProof.Rows L2
theorem all_mk {l : PySem.W.OpenLaw} {w : World} {K : PySem.W.Frag} {h : Heap} {mg : Str → Option Value} {fa f1 f2 f3 f4 f5 f6 f7 f8 f9 f10 f11 f12 f13 f14 f15 : Addr} (X : K.In h) (G : h.Ns mainGlobals mg) (hfa : mg "law" = some (.ref fa))
    {od1 an1 od2 an2 od3 an3 od4 an4 od5 an5 od6 an6 od7 an7 od8 an8 od9 an9 od10 an10 od11 an11 od12 an12 od13 an13 od14 an14 od15 an15 : Option Addr} {sl1 sl2 sl3 sl4 sl5 sl6 sl7 sl8 sl9 sl10 sl11 sl12 sl13 sl14 sl15 : Array (Option Value)} {oc1 kV1 dc1 pm1 cd1 ct1 oc2 kV2 dc2 pm2 cd2 ct2 oc3 kV3 dc3 pm3 cd3 ct3 oc4 kV4 dc4 pm4 cd4 ct4 oc5 kV5 dc5 pm5 cd5 ct5 oc6 kV6 dc6 pm6 cd6 ct6 oc7 kV7 dc7 pm7 cd7 ct7 oc8 kV8 dc8 pm8 cd8 ct8 oc9 kV9 dc9 pm9 cd9 ct9 oc10 kV10 dc10 pm10 cd10 ct10 oc11 kV11 dc11 pm11 cd11 ct11 oc12 kV12 dc12 pm12 cd12 ct12 oc13 kV13 dc13 pm13 cd13 ct13 oc14 kV14 dc14 pm14 cd14 ct14 oc15 kV15 dc15 pm15 cd15 ct15 : Value}
    (a1 : PySem.W.nsIn K mainGlobals "patience_by_age" = some (some (.ref f1))) (l1 : K.lookup f1 = some ⟨oc1, od1, .func (PySem.W.fnOf "patience_by_age" "patience_by_age" (defArgs s_patience_by_age) (defBody s_patience_by_age) (defScope s_patience_by_age) .none kV1 dc1 pm1 an1 cd1 ct1), sl1⟩) (c1 : PySem.W.codeIn K cd1 "patience_by_age" = true) (k1 : PySem.W.keepIn K (.ref f1) = true)
    (a2 : PySem.W.nsIn K mainGlobals "check_first" = some (some (.ref f2))) (l2 : K.lookup f2 = some ⟨oc2, od2, .func (PySem.W.fnOf "check_first" "check_first" (defArgs s_check_first) (defBody s_check_first) (defScope s_check_first) .none kV2 dc2 pm2 an2 cd2 ct2), sl2⟩) (c2 : PySem.W.codeIn K cd2 "check_first" = true) (k2 : PySem.W.keepIn K (.ref f2) = true)
    (a3 : PySem.W.nsIn K mainGlobals "first_borne" = some (some (.ref f3))) (l3 : K.lookup f3 = some ⟨oc3, od3, .func (PySem.W.fnOf "first_borne" "first_borne" (defArgs s_first_borne) (defBody s_first_borne) (defScope s_first_borne) .none kV3 dc3 pm3 an3 cd3 ct3), sl3⟩) (c3 : PySem.W.codeIn K cd3 "first_borne" = true) (k3 : PySem.W.keepIn K (.ref f3) = true)
    (a4 : PySem.W.nsIn K mainGlobals "rooms" = some (some (.ref f4))) (l4 : K.lookup f4 = some ⟨oc4, od4, .func (PySem.W.fnOf "rooms" "rooms" (defArgs s_rooms) (defBody s_rooms) (defScope s_rooms) .none kV4 dc4 pm4 an4 cd4 ct4), sl4⟩) (c4 : PySem.W.codeIn K cd4 "rooms" = true) (k4 : PySem.W.keepIn K (.ref f4) = true)
    (a5 : PySem.W.nsIn K mainGlobals "sizes" = some (some (.ref f5))) (l5 : K.lookup f5 = some ⟨oc5, od5, .func (PySem.W.fnOf "sizes" "sizes" (defArgs s_sizes) (defBody s_sizes) (defScope s_sizes) .none kV5 dc5 pm5 an5 cd5 ct5), sl5⟩) (c5 : PySem.W.codeIn K cd5 "sizes" = true) (k5 : PySem.W.keepIn K (.ref f5) = true)
    (a6 : PySem.W.nsIn K mainGlobals "in_first" = some (some (.ref f6))) (l6 : K.lookup f6 = some ⟨oc6, od6, .func (PySem.W.fnOf "in_first" "in_first" (defArgs s_in_first) (defBody s_in_first) (defScope s_in_first) .none kV6 dc6 pm6 an6 cd6 ct6), sl6⟩) (c6 : PySem.W.codeIn K cd6 "in_first" = true) (k6 : PySem.W.keepIn K (.ref f6) = true)
    (a7 : PySem.W.nsIn K mainGlobals "_law_tray" = some (some (.ref f7))) (l7 : K.lookup f7 = some ⟨oc7, od7, .func (PySem.W.fnOf "_law_tray" "_law_tray" (defArgs s__law_tray) (defBody s__law_tray) (defScope s__law_tray) .none kV7 dc7 pm7 an7 cd7 ct7), sl7⟩) (c7 : PySem.W.codeIn K cd7 "_law_tray" = true) (k7 : PySem.W.keepIn K (.ref f7) = true)
    (a8 : PySem.W.nsIn K mainGlobals "_law_draw" = some (some (.ref f8))) (l8 : K.lookup f8 = some ⟨oc8, od8, .func (PySem.W.fnOf "_law_draw" "_law_draw" (defArgs s__law_draw) (defBody s__law_draw) (defScope s__law_draw) .none kV8 dc8 pm8 an8 cd8 ct8), sl8⟩) (c8 : PySem.W.codeIn K cd8 "_law_draw" = true) (k8 : PySem.W.keepIn K (.ref f8) = true)
    (a9 : PySem.W.nsIn K mainGlobals "_law_alike" = some (some (.ref f9))) (l9 : K.lookup f9 = some ⟨oc9, od9, .func (PySem.W.fnOf "_law_alike" "_law_alike" (defArgs s__law_alike) (defBody s__law_alike) (defScope s__law_alike) .none kV9 dc9 pm9 an9 cd9 ct9), sl9⟩) (c9 : PySem.W.codeIn K cd9 "_law_alike" = true) (k9 : PySem.W.keepIn K (.ref f9) = true)
    (a10 : PySem.W.nsIn K mainGlobals "_law_shuffled" = some (some (.ref f10))) (l10 : K.lookup f10 = some ⟨oc10, od10, .func (PySem.W.fnOf "_law_shuffled" "_law_shuffled" (defArgs s__law_shuffled) (defBody s__law_shuffled) (defScope s__law_shuffled) .none kV10 dc10 pm10 an10 cd10 ct10), sl10⟩) (c10 : PySem.W.codeIn K cd10 "_law_shuffled" = true) (k10 : PySem.W.keepIn K (.ref f10) = true)
    (a11 : PySem.W.nsIn K mainGlobals "_law_ages" = some (some (.ref f11))) (l11 : K.lookup f11 = some ⟨oc11, od11, .func (PySem.W.fnOf "_law_ages" "_law_ages" (defArgs s__law_ages) (defBody s__law_ages) (defScope s__law_ages) .none kV11 dc11 pm11 an11 cd11 ct11), sl11⟩) (c11 : PySem.W.codeIn K cd11 "_law_ages" = true) (k11 : PySem.W.keepIn K (.ref f11) = true)
    (a12 : PySem.W.nsIn K mainGlobals "_law_patience" = some (some (.ref f12))) (l12 : K.lookup f12 = some ⟨oc12, od12, .func (PySem.W.fnOf "_law_patience" "_law_patience" (defArgs s__law_patience) (defBody s__law_patience) (defScope s__law_patience) .none kV12 dc12 pm12 an12 cd12 ct12), sl12⟩) (c12 : PySem.W.codeIn K cd12 "_law_patience" = true) (k12 : PySem.W.keepIn K (.ref f12) = true)
    (a13 : PySem.W.nsIn K mainGlobals "_law_guests" = some (some (.ref f13))) (l13 : K.lookup f13 = some ⟨oc13, od13, .func (PySem.W.fnOf "_law_guests" "_law_guests" (defArgs s__law_guests) (defBody s__law_guests) (defScope s__law_guests) .none kV13 dc13 pm13 an13 cd13 ct13), sl13⟩) (c13 : PySem.W.codeIn K cd13 "_law_guests" = true) (k13 : PySem.W.keepIn K (.ref f13) = true)
    (a14 : PySem.W.nsIn K mainGlobals "_law_settled" = some (some (.ref f14))) (l14 : K.lookup f14 = some ⟨oc14, od14, .func (PySem.W.fnOf "_law_settled" "_law_settled" (defArgs s__law_settled) (defBody s__law_settled) (defScope s__law_settled) .none kV14 dc14 pm14 an14 cd14 ct14), sl14⟩) (c14 : PySem.W.codeIn K cd14 "_law_settled" = true) (k14 : PySem.W.keepIn K (.ref f14) = true)
    (a15 : PySem.W.nsIn K mainGlobals "law" = some (some (.ref f15))) (l15 : K.lookup f15 = some ⟨oc15, od15, .func (PySem.W.fnOf "law" "law" (defArgs s_law) (defBody s_law) (defScope s_law) .none kV15 dc15 pm15 an15 cd15 ct15), sl15⟩) (c15 : PySem.W.codeIn K cd15 "law" = true) (k15 : PySem.W.keepIn K (.ref f15) = true)
    (z1 : PySem.W.nsIn K mainGlobals "len" = some none) (z2 : PySem.W.nsIn K mainGlobals "range" = some none) (z3 : PySem.W.nsIn K mainGlobals "enumerate" = some none) (z4 : PySem.W.nsIn K mainGlobals "sorted" = some none) (z5 : PySem.W.nsIn K mainGlobals "sum" = some none) (z6 : PySem.W.nsIn K mainGlobals "min" = some none) (z7 : PySem.W.nsIn K mainGlobals "max" = some none) (z8 : PySem.W.nsIn K mainGlobals "isinstance" = some none) (z9 : PySem.W.nsIn K mainGlobals "zip" = some none) (z10 : PySem.W.nsIn K mainGlobals "list" = some none) (z11 : PySem.W.nsIn K mainGlobals "tuple" = some none) (z12 : PySem.W.nsIn K mainGlobals "int" = some none) (z13 : PySem.W.nsIn K mainGlobals "bool" = some none) (z14 : PySem.W.nsIn K mainGlobals "str" = some none) (z15 : PySem.W.nsIn K mainGlobals "abs" = some none) (z16 : PySem.W.nsIn K mainGlobals "repr" = some none) (z17 : PySem.W.nsIn K mainGlobals "dict" = some none) (z18 : PySem.W.nsIn K mainGlobals "any" = some none) (z19 : PySem.W.nsIn K mainGlobals "all" = some none) (z20 : PySem.W.nsIn K mainGlobals "set" = some none) (z21 : PySem.W.nsIn K mainGlobals "reversed" = some none) (z22 : PySem.W.nsIn K mainGlobals "ValueError" = some none) (z23 : PySem.W.nsIn K mainGlobals "divmod" = some none) :
    ∃ fd : FuncData, (∀ (s : Shared) (v : Value), BindsTo s fd ⟨[v], []⟩ [("script", v)]) ∧ ∀ base : Heap, K.In base → base.Ns mainGlobals mg → FnOk l.prog w K mg base CX0 5 fa fd ["script"] (sp_law K) := by
  obtain rfl : f15 = fa := by
    have e := (PySem.W.mg_of X G a15).symm.trans hfa
    injection e with e
    injection e
  have B : Bi mg := ⟨PySem.W.mg_none_of X G z1, PySem.W.mg_none_of X G z2, PySem.W.mg_none_of X G z3, PySem.W.mg_none_of X G z4, PySem.W.mg_none_of X G z5, PySem.W.mg_none_of X G z6, PySem.W.mg_none_of X G z7, PySem.W.mg_none_of X G z8, PySem.W.mg_none_of X G z9, PySem.W.mg_none_of X G z10, PySem.W.mg_none_of X G z11, PySem.W.mg_none_of X G z12, PySem.W.mg_none_of X G z13, PySem.W.mg_none_of X G z14, PySem.W.mg_none_of X G z15, PySem.W.mg_none_of X G z16, PySem.W.mg_none_of X G z17, PySem.W.mg_none_of X G z18, PySem.W.mg_none_of X G z19, PySem.W.mg_none_of X G z20, PySem.W.mg_none_of X G z21, PySem.W.mg_none_of X G z22, PySem.W.mg_none_of X G z23⟩
  have A1 : At K mg "patience_by_age" P_patience_by_age s_patience_by_age := .mk' X G a1 l1 c1 k1 fun _ _ _ _ _ _ us hl => match us, hl with | [_], _ => rfl
  have A2 : At K mg "check_first" P_check_first s_check_first := .mk' X G a2 l2 c2 k2 fun _ _ _ _ _ _ us hl => match us, hl with | [_], _ => rfl
  have A3 : At K mg "first_borne" P_first_borne s_first_borne := .mk' X G a3 l3 c3 k3 fun _ _ _ _ _ _ us hl => match us, hl with | [_, _], _ => rfl
  have A4 : At K mg "rooms" P_rooms s_rooms := .mk' X G a4 l4 c4 k4 fun _ _ _ _ _ _ us hl => match us, hl with | [_], _ => rfl
  have A5 : At K mg "sizes" P_sizes s_sizes := .mk' X G a5 l5 c5 k5 fun _ _ _ _ _ _ us hl => match us, hl with | [_], _ => rfl
  have A6 : At K mg "in_first" P_in_first s_in_first := .mk' X G a6 l6 c6 k6 fun _ _ _ _ _ _ us hl => match us, hl with | [_, _], _ => rfl
  have A7 : At K mg "_law_tray" P__law_tray s__law_tray := .mk' X G a7 l7 c7 k7 fun _ _ _ _ _ _ us hl => match us, hl with | [_], _ => rfl
  have A8 : At K mg "_law_draw" P__law_draw s__law_draw := .mk' X G a8 l8 c8 k8 fun _ _ _ _ _ _ us hl => match us, hl with | [_, _], _ => rfl
  have A9 : At K mg "_law_alike" P__law_alike s__law_alike := .mk' X G a9 l9 c9 k9 fun _ _ _ _ _ _ us hl => match us, hl with | [_, _], _ => rfl
  have A10 : At K mg "_law_shuffled" P__law_shuffled s__law_shuffled := .mk' X G a10 l10 c10 k10 fun _ _ _ _ _ _ us hl => match us, hl with | [_, _], _ => rfl
  have A11 : At K mg "_law_ages" P__law_ages s__law_ages := .mk' X G a11 l11 c11 k11 fun _ _ _ _ _ _ us hl => match us, hl with | [_, _], _ => rfl
  have A12 : At K mg "_law_patience" P__law_patience s__law_patience := .mk' X G a12 l12 c12 k12 fun _ _ _ _ _ _ us hl => match us, hl with | [_, _, _], _ => rfl
  have A13 : At K mg "_law_guests" P__law_guests s__law_guests := .mk' X G a13 l13 c13 k13 fun _ _ _ _ _ _ us hl => match us, hl with | [_, _], _ => rfl
  have A14 : At K mg "_law_settled" P__law_settled s__law_settled := .mk' X G a14 l14 c14 k14 fun _ _ _ _ _ _ us hl => match us, hl with | [_], _ => rfl
  have A15 : At K mg "law" P_law s_law := .mk' X G a15 l15 c15 k15 fun _ _ _ _ _ _ us hl => match us, hl with | [_], _ => rfl
  refine ⟨PySem.W.fnOf "law" "law" (defArgs s_law) (defBody s_law) (defScope s_law) .none kV15 dc15 pm15 an15 cd15 ct15, fun s v => .of_eq rfl, fun base _ _ => ?_⟩
  have D_patience_by_age := ok_patience_by_age (P := l.prog) (w := w) (base := base) A1 B
  have D_check_first := ok_check_first (P := l.prog) (w := w) (base := base) A2 
  have D_first_borne := ok_first_borne (P := l.prog) (w := w) (base := base) A3 B
  have D_rooms := ok_rooms (P := l.prog) (w := w) (base := base) A4 B D_patience_by_age D_first_borne
  have D_sizes := ok_sizes (P := l.prog) (w := w) (base := base) A5 B D_rooms
  have D_in_first := ok_in_first (P := l.prog) (w := w) (base := base) A6 B D_sizes D_check_first
  have D__law_tray := ok__law_tray (P := l.prog) (w := w) (base := base) A7 B
  have D__law_draw := ok__law_draw (P := l.prog) (w := w) (base := base) A8 B
  have D__law_alike := ok__law_alike (P := l.prog) (w := w) (base := base) A9 B 2
  have D__law_shuffled := ok__law_shuffled (P := l.prog) (w := w) (base := base) A10 B D__law_draw
  have D__law_ages := ok__law_ages (P := l.prog) (w := w) (base := base) A11 B D__law_draw D__law_shuffled
  have D__law_patience := ok__law_patience (P := l.prog) (w := w) (base := base) A12 B D__law_draw
  have D__law_guests := ok__law_guests (P := l.prog) (w := w) (base := base) A13 B D__law_draw D__law_ages D__law_patience
  have D__law_settled := ok__law_settled (P := l.prog) (w := w) (base := base) A14 B
  have D_law := ok_law (P := l.prog) (w := w) (base := base) A15 B D__law_tray D__law_draw D__law_guests D__law_settled D_sizes D_in_first D__law_alike
  exact D_law.at hfa l15
end El
open PySem PySem.W PyProof.Rows
set_option maxRecDepth 100000 in
set_option maxHeartbeats 0 in
theorem PySem.Challenge.cw_elderinn_k02_sizes_told_holds : PySem.Challenge.rw_elderinn_k02_sizes_told.Holds := by
  w_on; o_law; k_head; (case hw => w_witness2)
  k_fill
  refine L2.walk_of (l := PySem.Challenge.rw_elderinn_k02_sizes_told) (n := 63) (k := 5) (x := "script") (CX := fun _ => L2.CX0) (sp := fun w => El.sp_law _) rfl (by decide) rfl ⟨rfl, by decide, by decide⟩ (fun w h Y => PySem.W.kIn_of Y) ?F (fun _ _ a ns hl _ hS => ⟨a, ns, rfl, hS, hl, fun _ => rfl⟩) (fun _ _ _ _ _ h => h)
  case F =>
    intro w mg fa h KX G hmg
    refine' El.all_mk KX G hmg ?a1 ?l1 ?c1 ?k1 ?a2 ?l2 ?c2 ?k2 ?a3 ?l3 ?c3 ?k3 ?a4 ?l4 ?c4 ?k4 ?a5 ?l5 ?c5 ?k5 ?a6 ?l6 ?c6 ?k6 ?a7 ?l7 ?c7 ?k7 ?a8 ?l8 ?c8 ?k8 ?a9 ?l9 ?c9 ?k9 ?a10 ?l10 ?c10 ?k10 ?a11 ?l11 ?c11 ?k11 ?a12 ?l12 ?c12 ?k12 ?a13 ?l13 ?c13 ?k13 ?a14 ?l14 ?c14 ?k14 ?a15 ?l15 ?c15 ?k15 ?z1 ?z2 ?z3 ?z4 ?z5 ?z6 ?z7 ?z8 ?z9 ?z10 ?z11 ?z12 ?z13 ?z14 ?z15 ?z16 ?z17 ?z18 ?z19 ?z20 ?z21 ?z22 ?z23
    (case a1 => k_is)
    (case l1 => k_is)
    (case c1 => k_is)
    (case k1 => k_is)
    (case a2 => k_is)
    (case l2 => k_is)
    (case c2 => k_is)
    (case k2 => k_is)
    (case a3 => k_is)
    (case l3 => k_is)
    (case c3 => k_is)
    (case k3 => k_is)
    (case a4 => k_is)
    (case l4 => k_is)
    (case c4 => k_is)
    (case k4 => k_is)
    (case a5 => k_is)
    (case l5 => k_is)
    (case c5 => k_is)
    (case k5 => k_is)
    (case a6 => k_is)
    (case l6 => k_is)
    (case c6 => k_is)
    (case k6 => k_is)
    (case a7 => k_is)
    (case l7 => k_is)
    (case c7 => k_is)
    (case k7 => k_is)
    (case a8 => k_is)
    (case l8 => k_is)
    (case c8 => k_is)
    (case k8 => k_is)
    (case a9 => k_is)
    (case l9 => k_is)
    (case c9 => k_is)
    (case k9 => k_is)
    (case a10 => k_is)
    (case l10 => k_is)
    (case c10 => k_is)
    (case k10 => k_is)
    (case a11 => k_is)
    (case l11 => k_is)
    (case c11 => k_is)
    (case k11 => k_is)
    (case a12 => k_is)
    (case l12 => k_is)
    (case c12 => k_is)
    (case k12 => k_is)
    (case a13 => k_is)
    (case l13 => k_is)
    (case c13 => k_is)
    (case k13 => k_is)
    (case a14 => k_is)
    (case l14 => k_is)
    (case c14 => k_is)
    (case k14 => k_is)
    (case a15 => k_is)
    (case l15 => k_is)
    (case c15 => k_is)
    (case k15 => k_is)
    (case z1 => k_is)
    (case z2 => k_is)
    (case z3 => k_is)
    (case z4 => k_is)
    (case z5 => k_is)
    (case z6 => k_is)
    (case z7 => k_is)
    (case z8 => k_is)
    (case z9 => k_is)
    (case z10 => k_is)
    (case z11 => k_is)
    (case z12 => k_is)
    (case z13 => k_is)
    (case z14 => k_is)
    (case z15 => k_is)
    (case z16 => k_is)
    (case z17 => k_is)
    (case z18 => k_is)
    (case z19 => k_is)
    (case z20 => k_is)
    (case z21 => k_is)
    (case z22 => k_is)
    (case z23 => k_is)
