import PyProof.Rows.All
import Wide.All
import OpenK.AllK
import Wide.FinOn
import HandS.ForMost
import HandS.ForExc
import HandS.Wide
import HandS.SortKw
import HandS.SortRule
import HandS.SortInts
import HandS.Style
import HandS.IsInst
import HandS.Conv
import HandS.Walk
import HandS.Flow
import HandS.More
import HandS.Defaults
import HandS.RaiseMore
import HandS.Remove
import HandS.Star
import HandS.Steps
import HandS.Strs
import HandS.Codes
import HandS.Text
import HandS.StrMore
import HandS.FStr
import HandS.Flow
import KE.IntTextLaws
import PySem.Challenge.RW_elderinn_k51_crowds_written
set_option Elab.async false
set_option linter.all false
set_option maxRecDepth 100000
set_option maxHeartbeats 8000000
namespace El
/-! ### the rule by age, in plain lists -/
def place : List (List Int) → Int → Int → List (List Int)
  | [], a, _ => [[a]]
  | r :: rs, a, p => if (r.length : Int) ≤ p then (r ++ [a]) :: rs else r :: place rs a p
def firstB : List (List Int) → Int → Nat
  | [], _ => 0
  | r :: rs, p => if (r.length : Int) ≤ p then 0 else firstB rs p + 1
theorem firstB_le : ∀ (rs : List (List Int)) (p : Int), firstB rs p ≤ rs.length
  | [], _ => Nat.le_refl _
  | r :: rs, p => by
    unfold firstB
    split
    · exact Nat.zero_le _
    · exact Nat.succ_le_succ (firstB_le rs p)
theorem firstB_out : ∀ (rs : List (List Int)) (p : Int) (i : Nat) (r : List Int), i < firstB rs p → rs[i]? = some r → p < (r.length : Int)
  | [], _, _, _, h, _ => absurd h (Nat.not_lt_zero _)
  | s :: rs, p, i, r, h, e => by
    unfold firstB at h
    split at h
    · exact absurd h (Nat.not_lt_zero _)
    · rename_i hn
      cases i with
      | zero =>
        have e' : s = r := Option.some.inj e
        subst e'
        omega
      | succ i => exact firstB_out rs p i r (Nat.lt_of_succ_lt_succ h) (by simpa using e)
theorem firstB_in : ∀ (rs : List (List Int)) (p : Int), firstB rs p < rs.length → ∃ r, rs[firstB rs p]? = some r ∧ (r.length : Int) ≤ p
  | [], _, h => absurd h (Nat.not_lt_zero _)
  | s :: rs, p, h => by
    unfold firstB at h ⊢
    split
    · rename_i hn
      exact ⟨s, rfl, hn⟩
    · rename_i hn
      rw [if_neg hn] at h
      obtain ⟨r, e, q⟩ := firstB_in rs p (Nat.lt_of_succ_lt_succ h)
      exact ⟨r, by simpa using e, q⟩
theorem firstB_is : ∀ (rs : List (List Int)) (p : Int) (i : Nat), i ≤ rs.length → (∀ j r, j < i → rs[j]? = some r → p < (r.length : Int)) → (∀ r, rs[i]? = some r → (r.length : Int) ≤ p) → firstB rs p = i
  | [], _, i, h, _, _ => by
    have : i = 0 := Nat.le_zero.mp h
    subst this
    rfl
  | s :: rs, p, 0, _, _, h2 => by
    unfold firstB
    rw [if_pos (h2 s rfl)]
  | s :: rs, p, i + 1, h, h1, h2 => by
    have h0 := h1 0 s (Nat.succ_pos _) rfl
    unfold firstB
    rw [if_neg (by omega), firstB_is rs p i (Nat.le_of_succ_le_succ h) (fun j r hj e => h1 (j + 1) r (Nat.succ_lt_succ hj) (by simpa using e)) fun r e => h2 r (by simpa using e)]
theorem place_new : ∀ (rs : List (List Int)) (a p : Int), firstB rs p = rs.length → place rs a p = rs ++ [[a]]
  | [], _, _, _ => rfl
  | r :: rs, a, p, h => by
    unfold firstB at h
    unfold place
    split at h
    · exact absurd h (by rw [List.length_cons]; omega)
    · rename_i hn
      rw [if_neg hn, place_new rs a p (by rw [List.length_cons] at h; omega)]
      rfl
theorem place_at : ∀ (rs : List (List Int)) (a p : Int) (r : List Int), rs[firstB rs p]? = some r → place rs a p = rs.set (firstB rs p) (r ++ [a])
  | [], _, _, _, h => by simp at h
  | s :: rs, a, p, r, h => by
    unfold firstB at h ⊢
    unfold place
    split
    · rename_i hn
      rw [if_pos hn] at h
      have e : s = r := Option.some.inj h
      subst e
      rfl
    · rename_i hn
      rw [if_neg hn] at h
      rw [place_at rs a p r (by simpa using h)]
      rfl
theorem place_len (rs : List (List Int)) (a p : Int) : (place rs a p).length = if firstB rs p = rs.length then rs.length + 1 else rs.length := by
  by_cases h : firstB rs p = rs.length
  · rw [if_pos h, place_new rs a p h, List.length_append]
    rfl
  · have hl := firstB_le rs p
    obtain ⟨r, e, _⟩ := firstB_in rs p (by omega)
    rw [if_neg h, place_at rs a p r e, List.length_set]
/-- all in order -/
def settleL (gs : List (Int × Int)) : List (List Int) := gs.foldl (fun rs g => place rs g.1 g.2) []
theorem settleL_snoc (gs : List (Int × Int)) (g : Int × Int) : settleL (gs ++ [g]) = place (settleL gs) g.1 g.2 := by
  unfold settleL
  rw [List.foldl_append]
  rfl
theorem settleL_take {gs : List (Int × Int)} {i : Nat} {g : Int × Int} (h : gs[i]? = some g) : settleL (gs.take (i + 1)) = place (settleL (gs.take i)) g.1 g.2 := by
  rw [List.take_add_one, h]
  exact settleL_snoc _ _
theorem place_count (rs : List (List Int)) (a p : Int) : (place rs a p).flatten.length = rs.flatten.length + 1 := by
  induction rs with
  | nil => rfl
  | cons r rs ih =>
    unfold place
    split
    · simp only [List.flatten_cons, List.length_append, List.length_cons, List.length_nil]
      omega
    · simp only [List.flatten_cons, List.length_append]
      omega
theorem settleL_count (gs : List (Int × Int)) : (settleL gs).flatten.length = gs.length := by
  suffices h : ∀ (gs : List (Int × Int)) (rs : List (List Int)), (gs.foldl (fun rs g => place rs g.1 g.2) rs).flatten.length = rs.flatten.length + gs.length by
    have q := h gs []
    rw [List.flatten_nil, List.length_nil, Nat.zero_add] at q
    exact q
  intro gs
  induction gs with
  | nil => intro rs; rfl
  | cons g gs ih =>
    intro rs
    rw [List.foldl_cons, ih, place_count, List.length_cons]
    omega
theorem place_ne (rs : List (List Int)) (a p : Int) (h : ∀ r ∈ rs, r ≠ []) : ∀ r ∈ place rs a p, r ≠ [] := by
  induction rs with
  | nil =>
    intro r hr
    rw [List.mem_singleton.mp hr]
    exact List.cons_ne_nil _ _
  | cons s rs ih =>
    unfold place
    split
    · intro r hr
      rcases List.mem_cons.mp hr with e | hr
      · rw [e]
        simp
      · exact h r (List.mem_cons_of_mem _ hr)
    · intro r hr
      rcases List.mem_cons.mp hr with e | hr
      · rw [e]
        exact h s List.mem_cons_self
      · exact ih (fun r hr => h r (List.mem_cons_of_mem _ hr)) r hr
theorem settleL_ne (gs : List (Int × Int)) : ∀ r ∈ settleL gs, r ≠ [] := by
  suffices h : ∀ (gs : List (Int × Int)) (rs : List (List Int)), (∀ r ∈ rs, r ≠ []) → ∀ r ∈ gs.foldl (fun rs g => place rs g.1 g.2) rs, r ≠ [] from h gs [] (fun r hr => absurd hr (by simp))
  intro gs
  induction gs with
  | nil => intro rs h; exact h
  | cons g gs ih =>
    intro rs h
    rw [List.foldl_cons]
    exact ih _ (place_ne rs _ _ h)
theorem len_le_flat : ∀ (rs : List (List Int)), (∀ r ∈ rs, r ≠ []) → rs.length ≤ rs.flatten.length
  | [], _ => Nat.le_refl _
  | r :: rs, h => by
    have h1 := h r List.mem_cons_self
    have h2 := len_le_flat rs fun r hr => h r (List.mem_cons_of_mem _ hr)
    have h3 : 0 < r.length := List.length_pos_iff.mpr h1
    rw [List.flatten_cons, List.length_append, List.length_cons]
    omega
theorem room_le_flat : ∀ (rs : List (List Int)) (r : List Int), r ∈ rs → r.length ≤ rs.flatten.length
  | s :: rs, r, h => by
    rw [List.flatten_cons, List.length_append]
    rcases List.mem_cons.mp h with e | h
    · rw [e]
      omega
    · have := room_le_flat rs r h
      omega
theorem settleL_len (gs : List (Int × Int)) : (settleL gs).length ≤ gs.length := by
  rw [← settleL_count gs]
  exact len_le_flat _ (settleL_ne gs)
theorem settleL_room {gs : List (Int × Int)} {r : List Int} (h : r ∈ settleL gs) : r.length ≤ gs.length := by
  rw [← settleL_count gs]
  exact room_le_flat _ _ h
/-- sizes never rise -/
def Falls (rs : List (List Int)) : Prop := rs.Pairwise fun r s => s.length ≤ r.length
theorem place_mem {rs : List (List Int)} {a p : Int} {r : List Int} (h : r ∈ place rs a p) : r ∈ rs ∨ (∃ s ∈ rs, r = s ++ [a] ∧ (s.length : Int) ≤ p) ∨ r = [a] := by
  induction rs with
  | nil => exact .inr (.inr (List.mem_singleton.mp h))
  | cons s rs ih =>
    unfold place at h
    split at h
    · rename_i hn
      rcases List.mem_cons.mp h with e | h
      · exact .inr (.inl ⟨s, List.mem_cons_self, e, hn⟩)
      · exact .inl (List.mem_cons_of_mem _ h)
    · rcases List.mem_cons.mp h with e | h
      · rw [e]
        exact .inl List.mem_cons_self
      · rcases ih h with q | ⟨t, ht, q⟩ | q
        · exact .inl (List.mem_cons_of_mem _ q)
        · exact .inr (.inl ⟨t, List.mem_cons_of_mem _ ht, q⟩)
        · exact .inr (.inr q)
theorem place_falls (rs : List (List Int)) (a p : Int) (hp : 0 ≤ p) (h : Falls rs) : Falls (place rs a p) := by
  induction rs with
  | nil => exact List.pairwise_singleton _ _
  | cons s rs ih =>
    obtain ⟨h1, h2⟩ := List.pairwise_cons.mp h
    unfold place
    split
    · refine List.pairwise_cons.mpr ⟨fun r hr => ?_, h2⟩
      have := h1 r hr
      rw [List.length_append]
      omega
    · rename_i hn
      refine List.pairwise_cons.mpr ⟨fun r hr => ?_, ih h2⟩
      rcases place_mem hr with q | ⟨t, ht, q, q2⟩ | q
      · exact h1 r q
      · rw [q, List.length_append, List.length_singleton]
        omega
      · rw [q, List.length_singleton]
        omega
theorem settleL_falls (gs : List (Int × Int)) (h : ∀ g ∈ gs, 0 ≤ g.2) : Falls (settleL gs) := by
  suffices q : ∀ (gs : List (Int × Int)) (rs : List (List Int)), (∀ g ∈ gs, 0 ≤ g.2) → Falls rs → Falls (gs.foldl (fun rs g => place rs g.1 g.2) rs) from q gs [] h List.Pairwise.nil
  intro gs
  induction gs with
  | nil => intro rs _ hr; exact hr
  | cons g gs ih =>
    intro rs hg hr
    rw [List.foldl_cons]
    exact ih _ (fun x hx => hg x (List.mem_cons_of_mem _ hx)) (place_falls rs _ _ (hg g List.mem_cons_self) hr)
/-! ### from the eldest on -/
def byAge (gs : List (Int × Int)) : List (Int × Int) := gs.mergeSort fun g h => decide (h.1 ≤ g.1)
theorem byAge_perm (gs : List (Int × Int)) : (byAge gs).Perm gs := List.mergeSort_perm _ _
theorem byAge_sorted (gs : List (Int × Int)) : (byAge gs).Pairwise fun g h => h.1 ≤ g.1 := by
  have q := List.pairwise_mergeSort (le := fun (g h : Int × Int) => decide (h.1 ≤ g.1)) (fun a b c h1 h2 => by
    have h1 := of_decide_eq_true h1
    have h2 := of_decide_eq_true h2
    exact decide_eq_true (by omega)) (fun a b => by
    by_cases h : b.1 ≤ a.1
    · simp [h]
    · have : a.1 ≤ b.1 := by omega
      simp [this]) gs
  exact q.imp fun h => of_decide_eq_true h
theorem byAge_length (gs : List (Int × Int)) : (byAge gs).length = gs.length := (byAge_perm gs).length_eq
theorem sorted_uniq {α : Type} (k : α → Int) : ∀ {l m : List α}, l.Perm m → (l.map k).Nodup → l.Pairwise (fun g h => k h ≤ k g) → m.Pairwise (fun g h => k h ≤ k g) → l = m
  | [], m, p, _, _, _ => by rw [List.nil_perm.mp p]
  | x :: l, [], p, _, _, _ => absurd p.length_eq (by simp)
  | x :: l, y :: m, p, nd, h1, h2 => by
    have nd' : (k x :: l.map k).Nodup := nd
    obtain ⟨n1, n2⟩ := List.nodup_cons.mp nd'
    obtain ⟨a1, a2⟩ := List.pairwise_cons.mp h1
    obtain ⟨b1, b2⟩ := List.pairwise_cons.mp h2
    have e : x = y := by
      rcases List.mem_cons.mp (p.mem_iff.mp List.mem_cons_self) with e | hx
      · exact e
      · have hy : y ∈ x :: l := p.mem_iff.mpr List.mem_cons_self
        rcases List.mem_cons.mp hy with e | hy
        · exact e.symm
        · have c1 := b1 x hx
          have c2 := a1 y hy
          have c3 : k x = k y := by omega
          exact absurd (List.mem_map.mpr ⟨y, hy, c3.symm⟩) n1
    subst e
    rw [sorted_uniq k (List.Perm.cons_inv p) n2 a2 b2]
def settle (gs : List (Int × Int)) : List (List Int) := settleL (byAge gs)
/-- guests that there can be -/
structure Fit (gs : List (Int × Int)) : Prop where
  nd : (gs.map (·.1)).Nodup
  pos : ∀ g ∈ gs, 0 ≤ g.2
theorem Fit.perm {gs hs : List (Int × Int)} (f : Fit gs) (p : hs.Perm gs) : Fit hs := ⟨((p.map (·.1)).nodup_iff).mpr f.nd, fun g hg => f.pos g (p.mem_iff.mp hg)⟩
theorem Fit.byAge {gs : List (Int × Int)} (f : Fit gs) : Fit (byAge gs) := f.perm (byAge_perm gs)
theorem byAge_of {gs hs : List (Int × Int)} (f : Fit gs) (p : hs.Perm gs) (h : hs.Pairwise fun g h => h.1 ≤ g.1) : hs = byAge gs :=
  sorted_uniq (·.1) (p.trans (byAge_perm gs).symm) (f.perm p).nd h (byAge_sorted gs)
theorem byAge_congr {gs hs : List (Int × Int)} (f : Fit gs) (p : hs.Perm gs) : byAge hs = byAge gs :=
  byAge_of f ((byAge_perm hs).trans p) (byAge_sorted hs)
theorem ages_of {gs : List (Int × Int)} (f : Fit gs) {ns : List Int} (p : ns.Perm (gs.map (·.1))) (h : ns.Pairwise (· ≥ ·)) : ns = (byAge gs).map (·.1) := by
  refine sorted_uniq (fun x : Int => x) (p.trans ((byAge_perm gs).map (·.1)).symm) ?_ (h.imp fun q => q) ?_
  · rw [List.map_id']
    exact (p.nodup_iff).mpr f.nd
  · rw [List.pairwise_map]
    exact byAge_sorted gs
theorem settle_congr {gs hs : List (Int × Int)} (f : Fit gs) (p : hs.Perm gs) : settle hs = settle gs := by
  unfold settle
  rw [byAge_congr f p]
end El
namespace El
open PySem PySem.Spec PyProof.Rows L2
/-! ### a def of the text as callers see it -/
structure Df (P : Program) (w : World) (K : PySem.W.Frag) (mg : Str → Option Value) (base : Heap) (k : Nat) (x : Str) (ps : List Str) (st : Stmt) (sp : Sp) : Prop where
  ex : ∃ (f : Addr) (fd : FuncData), Fun K x x st f fd ∧ mg x = some (.ref f) ∧ FnOk P w K mg base CX0 k f fd ps sp ∧ Binds K fd ps []
/-- where a def stands -/
structure At (K : PySem.W.Frag) (mg : Str → Option Value) (x : Str) (ps : List Str) (st : Stmt) : Prop where
  ex : ∃ (f : Addr) (fd : FuncData), Fun K x x st f fd ∧ mg x = some (.ref f) ∧ Binds K fd ps []
theorem At.df {P : Program} {w : World} {K : PySem.W.Frag} {mg : Str → Option Value} {base : Heap} {k : Nat} {x : Str} {ps : List Str} {st : Stmt} {sp : Sp} (A : At K mg x ps st)
    (h : ∀ f fd, Fun K x x st f fd → FnOk P w K mg base CX0 k f fd ps sp) : Df P w K mg base k x ps st sp := by
  obtain ⟨f, fd, F, m, b⟩ := A.ex
  exact ⟨f, fd, F, m, h f fd F, b⟩
section
variable {X : Cx} {k : Nat} {x : Str} {ps : List Str} {st : Stmt} {sp : Sp} {p pos : Pos} {e : Expr} {es : List Expr} {kws : List Keyword} {t tk : TA}
theorem pe_df (D : Df X.prog X.w X.K X.mg X.base k x ps st sp) (hr : Room k X.A) (hg : Gl X x) (ha : PA X (e :: es) t) (hdb : (x == ("__debug__" : Str)) = false := by decide)
    (he : starEach (e :: es) X.env = (false, eval e X.env) :: starEach es X.env := by rfl) (hpl : (backTo pos (starEach es X.env)).any (·.1) = false := by rfl) : PE X (.Call (.Name x p) (e :: es) [] pos) (tCall sp [] E0 t) := by
  obtain ⟨f, fd, F, m, G, b⟩ := D.ex
  exact pe_call G hr hg m F.kp b .nil pass0 ha hdb he hpl
theorem pe_df0 (D : Df X.prog X.w X.K X.mg X.base k x ps st sp) (hr : Room k X.A) (hg : Gl X x) (hdb : (x == ("__debug__" : Str)) = false := by decide) : PE X (.Call (.Name x p) [] [] pos) (tCall sp [] E0 tNil) := by
  obtain ⟨f, fd, F, m, G, b⟩ := D.ex
  exact pe_call0 G hr hg m F.kp b .nil pass0 hdb
def tCallW (n : Nat) (sp : Sp) (g : List V → List V) (tk : TA) : TE := fun σ H Q => tk σ H fun zs H2 => zs.length = n ∧ sp (g zs) H2 Q E0
/-- f(k = v, ..): keywords alone -/
theorem pe_dfK (D : Df X.prog X.w X.K X.mg X.base k x ps st sp) (ks : List Str) (g : {α : Type} → List α → List α) (hr : Room k X.A) (hg : Gl X x) (hkw : PK X kws tk)
    (hb : ∀ (kV doc pm : Value) (an : Option Addr) (cdv ct : Value) (ws : List Value), ws.length = ks.length → bindArgs (PySem.W.fnOf x x (defArgs st) (defBody st) (defScope st) .none kV doc pm an cdv ct) ⟨[], ks.zip ws⟩ = pure (ps.zip (g ws)))
    (hrel : ∀ {zs : List V} {ws : List Value}, Vals zs ws → Vals (g zs) (g ws))
    (hall : (backToKw pos (keywordEach kws X.env)).all (·.1.isSome) = true := by rfl) (hks : (backToKw pos (keywordEach kws X.env)).filterMap (·.1) = ks := by rfl) (hdb : (x == ("__debug__" : Str)) = false := by decide)
    (hpl : ((backTo pos (starEach [] X.env)).any (·.1) || (backToKw pos (keywordEach kws X.env)).any (·.1.isNone)) = false := by rfl) :
    PE X (.Call (.Name x p) [] kws pos) (tCallW ks.length sp (fun zs => g zs) tk) := by
  obtain ⟨f, fd, F, m, G, b⟩ := D.ex
  have kp := F.kp
  have KB : KBn X.K fd ps 0 ks (fun us ws => us ++ g ws) (fun vs zs => vs ++ g zs) := by
    obtain ⟨oc, od, kV, doc, pm, an, cdv, ct, osl, rfl, lk, hcd⟩ := F.ex
    refine ⟨fun s us ws hK l1 l2 => ?_, fun {vs us zs ws} r rz => Vals.append r (hrel rz)⟩
    obtain rfl := List.eq_nil_of_length_eq_zero l1
    exact .of_eq (hb kV doc pm an cdv ct ws l2)
  refine ⟨fun pins s σ H Q I h => ?_⟩
  refine wpAny_Call_Name_kw (ld_glob I hg m ?_ hdb)
  refine PySem.W.callWith_KW0 (h₀ := X.base) I.ok.mod.kin kp hall ?_ hpl
  refine thn (hkw.run pos pins s σ H _ I h) fun ws s2 ⟨zs, H2, I2, rz, l2, q2⟩ => ⟨I2.kIn, ?_⟩
  rw [hks]
  exact run_fnN (us := []) (vs := []) G hr KB pass0 I2 .nil rz rfl l2 q2
end
theorem Df.at {P : Program} {w : World} {K : PySem.W.Frag} {mg : Str → Option Value} {base : Heap} {k : Nat} {x : Str} {ps : List Str} {st : Stmt} {sp : Sp} {fa : Addr} {fd : FuncData} {oc : Value} {od : Option Addr} {sl : Array (Option Value)}
    (D : Df P w K mg base k x ps st sp) (hf : mg x = some (.ref fa)) (l : K.lookup fa = some ⟨oc, od, .func fd, sl⟩) : FnOk P w K mg base CX0 k fa fd ps sp := by
  obtain ⟨f, fd', F, m, G, b⟩ := D.ex
  obtain rfl : fa = f := by
    have e := hf.symm.trans m
    injection e with e
    injection e
  obtain ⟨oc', od', kV, doc, pm, an, cdv, ct, osl, e1, lk, hcd⟩ := F.ex
  have e := l.symm.trans lk
  injection e with e
  injection e with _ _ e _
  injection e with e
  rw [e]
  exact G
theorem At.mk' {K : PySem.W.Frag} {mg : Str → Option Value} {h : Heap} {x : Str} {ps : List Str} {st : Stmt} {f : Addr} {oc : Value} {od an : Option Addr} {osl : Array (Option Value)} {kV doc pm cdv ct : Value} (X : K.In h) (G : h.Ns mainGlobals mg)
    (a : PySem.W.nsIn K mainGlobals x = some (some (.ref f))) (l : K.lookup f = some ⟨oc, od, .func (PySem.W.fnOf x x (defArgs st) (defBody st) (defScope st) .none kV doc pm an cdv ct), osl⟩)
    (c : PySem.W.codeIn K cdv x = true) (k : PySem.W.keepIn K (.ref f) = true)
    (b : ∀ (kV doc pm : Value) (an : Option Addr) (cdv ct : Value) (us : List Value), us.length = ps.length → bindArgs (PySem.W.fnOf x x (defArgs st) (defBody st) (defScope st) .none kV doc pm an cdv ct) ⟨us, []⟩ = pure (ps.zip us)) : At K mg x ps st :=
  have F := fun_mk (st := st) l c k
  ⟨f, _, F, PySem.W.mg_of X G a, F.binds b⟩
end El
namespace El
open PySem PySem.Spec PyProof.Rows L2
/-! ### heaps -/
/-- what B names stays as it was -/
def Kp (B : Addr → Prop) (H H' : Hp) : Prop := ∀ b o, B b → H b = some o → H' b = some o
theorem Kp.refl {B : Addr → Prop} {H : Hp} : Kp B H H := fun _ _ _ e => e
theorem Kp.trans {B : Addr → Prop} {H H1 H2 : Hp} (h : Kp B H H1) (k : Kp B H1 H2) : Kp B H H2 := fun b o hb e => k b o hb (h b o hb e)
theorem Kp.of {B : Addr → Prop} {H H' : Hp} (h : Same H H') : Kp B H H' := fun b o _ e => h b o e
theorem Kp.same {H H' : Hp} (h : Kp (fun _ => True) H H') : Same H H' := fun b o e => h b o trivial e
theorem same_new {H : Hp} {p : Addr} {o : HO} (h : H p = none) : Same H (upd H p o) := fun b u e => by
  rw [upd_ne (ne_of_none e h)]
  exact e
theorem Same.mut {H H' : Hp} {p : Addr} {o : HO} (e : Same H H') (h : H p = none) : Same H (upd H' p o) := fun b u q => by
  rw [upd_ne (ne_of_none q h)]
  exact e b u q
theorem Kp.mut {B : Addr → Prop} {H H' : Hp} {p : Addr} {o : HO} (e : Kp B H H') (h : ¬ B p) : Kp B H (upd H' p o) := fun b u hb q => by
  have n : b ≠ p := fun z => h (z ▸ hb)
  rw [upd_ne n]
  exact e b u hb q
theorem Kp.new {B : Addr → Prop} {H H' : Hp} {p : Addr} {o : HO} (e : Kp B H H') (h : H' p = none) : Kp B H (upd H' p o) := e.trans (Kp.of (same_new h))
theorem Kp.mutF {B : Addr → Prop} {H H' : Hp} {p : Addr} {o : HO} (e : Kp B H H') (h : H p = none) : Kp B H (upd H' p o) := fun b u hb q => by
  rw [upd_ne (ne_of_none q h)]
  exact e b u hb q
theorem Kp.none {B : Addr → Prop} {H H' : Hp} (e : Kp B H H') {p : Addr} (hb : B p) (h : H' p = none) : H p = none := by
  cases z : H p with
  | none => rfl
  | some x =>
    have := e _ _ hb z
    rw [h] at this
    cases this
theorem no_of {H : Hp} {a p : Addr} {o : HO} (h : H a = some o) (hp : H p = none) : p ≠ a := fun z => by
  rw [z, h] at hp
  cases hp
theorem same_none {H H' : Hp} (e : Same H H') {p : Addr} (h : H' p = none) : H p = none := e.free h
theorem ils {n : Nat} (h : n ≤ 100000) : n < sizeLine := Nat.lt_of_le_of_lt h (by decide)
theorem ile {n : Nat} (h : n ≤ 100000) : n ≤ sizeLine := Nat.le_of_lt (ils h)
theorem ints_at {ns : List Int} {i : Nat} {x : V} (h : (ns.map V.int)[i]? = some x) : ∃ n, ns[i]? = some n ∧ x = .int n := by
  rw [List.getElem?_map] at h
  cases e : ns[i]? with
  | none => rw [e] at h; cases h
  | some n => rw [e] at h; exact ⟨n, rfl, (Option.some.inj h).symm⟩
theorem refs_at {ts : List Addr} {i : Nat} {x : V} (h : (ts.map V.ref)[i]? = some x) : ∃ t, ts[i]? = some t ∧ x = .ref t := by
  rw [List.getElem?_map] at h
  cases e : ts[i]? with
  | none => rw [e] at h; cases h
  | some t => rw [e] at h; exact ⟨t, rfl, (Option.some.inj h).symm⟩
theorem at_lt {α : Type} {l : List α} {i : Nat} {x : α} (h : l[i]? = some x) : i < l.length := (List.getElem?_eq_some_iff.mp h).1
theorem at_some {α : Type} {l : List α} {i : Nat} (h : i < l.length) : ∃ x, l[i]? = some x := ⟨l[i], List.getElem?_eq_getElem h⟩
theorem take_snoc {α : Type} {l : List α} {i : Nat} {x : α} (h : l[i]? = some x) : l.take (i + 1) = l.take i ++ [x] := by
  rw [List.take_add_one, h]
  rfl
theorem take_full {α : Type} (l : List α) : l.take l.length = l := List.take_length
/-! ### a list of pairs of ints -/
structure GsAt (H : Hp) (B : Addr → Prop) (a : Addr) (ts : List Addr) (gs : List (Int × Int)) : Prop where
  top : H a = some (.lst (ts.map V.ref))
  ba : B a
  len : ts.length = gs.length
  at' : ∀ (i : Nat) (t : Addr) (g : Int × Int), ts[i]? = some t → gs[i]? = some g → H t = some (.tup [.int g.1, .int g.2])
  b : ∀ t ∈ ts, B t
theorem GsAt.keep {H H' : Hp} {B : Addr → Prop} {a : Addr} {ts : List Addr} {gs : List (Int × Int)} (h : GsAt H B a ts gs) (k : Kp B H H') : GsAt H' B a ts gs :=
  ⟨k _ _ h.ba h.top, h.ba, h.len, fun i t g e f => k _ _ (h.b t (List.mem_of_getElem? e)) (h.at' i t g e f), h.b⟩
theorem GsAt.same {H H' : Hp} {B : Addr → Prop} {a : Addr} {ts : List Addr} {gs : List (Int × Int)} (h : GsAt H B a ts gs) (k : Same H H') : GsAt H' B a ts gs := h.keep (.of k)
theorem GsAt.weaken {H : Hp} {B B' : Addr → Prop} {a : Addr} {ts : List Addr} {gs : List (Int × Int)} (h : GsAt H B a ts gs) (k : ∀ b, B b → B' b) : GsAt H B' a ts gs :=
  ⟨h.top, k _ h.ba, h.len, h.at', fun t m => k _ (h.b t m)⟩
theorem GsAt.seq {K : PySem.W.Frag} {H : Hp} {B : Addr → Prop} {a : Addr} {ts : List Addr} {gs : List (Int × Int)} (h : GsAt H B a ts gs) : SqL K H a (ts.map V.ref) := SqL.of h.top
theorem GsAt.get {H : Hp} {B : Addr → Prop} {a : Addr} {ts : List Addr} {gs : List (Int × Int)} (h : GsAt H B a ts gs) {i : Nat} {x : V} (e : (ts.map V.ref)[i]? = some x) : ∃ t g, x = .ref t ∧ gs[i]? = some g ∧ H t = some (.tup [.int g.1, .int g.2]) := by
  obtain ⟨t, e1, rfl⟩ := refs_at e
  have hi := at_lt e1
  rw [h.len] at hi
  obtain ⟨g, e2⟩ := at_some hi
  exact ⟨t, g, rfl, e2, h.at' i t g e1 e2⟩
/-- pushed -/
theorem GsAt.push {H : Hp} {B : Addr → Prop} {a : Addr} {ts : List Addr} {gs : List (Int × Int)} (h : GsAt H B a ts gs) (hn : a ∉ ts) {q : Addr} {g : Int × Int} (e : H q = some (.tup [.int g.1, .int g.2])) (bq : B q) :
    GsAt (upd H a (.lst (ts.map V.ref ++ [.ref q]))) B a (ts ++ [q]) (gs ++ [g]) := by
  refine ⟨?_, h.ba, ?_, fun i t x e1 e2 => ?_, fun t m => ?_⟩
  · rw [upd_same, List.map_append]
    rfl
  · rw [List.length_append, List.length_append, h.len]
    rfl
  · have nq : q ≠ a := fun z => by
      rw [z, h.top] at e
      cases e
    by_cases hi : i < ts.length
    · rw [List.getElem?_append_left hi] at e1
      rw [List.getElem?_append_left (by rw [← h.len]; exact hi)] at e2
      have nt : t ≠ a := fun z => hn (z ▸ List.mem_of_getElem? e1)
      rw [upd_ne nt]
      exact h.at' i t x e1 e2
    · have hi' : i = ts.length := by
        have := at_lt e1
        rw [List.length_append, List.length_singleton] at this
        omega
      subst hi'
      rw [List.getElem?_append_right (Nat.le_refl _), Nat.sub_self] at e1
      rw [h.len, List.getElem?_append_right (Nat.le_refl _), Nat.sub_self] at e2
      have e1' : q = t := Option.some.inj e1
      have e2' : g = x := Option.some.inj e2
      subst e1' e2'
      rw [upd_ne nq]
      exact e
  · rcases List.mem_append.mp m with m | m
    · exact h.b t m
    · rw [List.mem_singleton.mp m]
      exact bq
theorem GsAt.there {H : Hp} {B : Addr → Prop} {a : Addr} {ts : List Addr} {gs : List (Int × Int)} (h : GsAt H B a ts gs) : ∀ b, (b = a ∨ b ∈ ts) → ∃ x, H b = some x := fun b m => by
  rcases m with rfl | m
  · exact ⟨_, h.top⟩
  · obtain ⟨i, e⟩ := List.mem_iff_getElem?.mp m
    have hl := at_lt e
    rw [h.len] at hl
    obtain ⟨g, eg⟩ := at_some hl
    exact ⟨_, h.at' i b g e eg⟩
theorem GsAt.reB {H : Hp} {B B' : Addr → Prop} {a : Addr} {ts : List Addr} {gs : List (Int × Int)} (h : GsAt H B a ts gs) (k : ∀ b, (b = a ∨ b ∈ ts) → B b → B' b) : GsAt H B' a ts gs :=
  ⟨h.top, k _ (.inl rfl) h.ba, h.len, h.at', fun t m => k _ (.inr m) (h.b t m)⟩
/-- what stands in H and is named by B -/
def Liv (H : Hp) (B : Addr → Prop) (b : Addr) : Prop := (∃ x, H b = some x) ∧ B b
theorem GsAt.liv {H : Hp} {B : Addr → Prop} {a : Addr} {ts : List Addr} {gs : List (Int × Int)} (h : GsAt H B a ts gs) : GsAt H (Liv H B) a ts gs := h.reB fun b m hb => ⟨h.there b m, hb⟩
theorem Liv.no {H : Hp} {B : Addr → Prop} {p : Addr} (h : H p = none) : ¬ Liv H B p := fun ⟨⟨x, e⟩, _⟩ => by
  rw [h] at e
  cases e
theorem Liv.of {H : Hp} {B : Addr → Prop} {p : Addr} {o : HO} (h : H p = some o) (b : B p) : Liv H B p := ⟨⟨o, h⟩, b⟩
theorem Kp.weak {B B' : Addr → Prop} {H H' : Hp} (k : Kp B H H') (h : ∀ b, B' b → B b) : Kp B' H H' := fun b o hb e => k b o (h b hb) e
theorem Kp.liv {B : Addr → Prop} {H0 H H' : Hp} (k : Kp B H H') : Kp (Liv H0 B) H H' := k.weak fun _ h => h.2
/-! ### a list of lists of ints, each its own -/
structure RmsAt (H : Hp) (B : Addr → Prop) (o : Addr) (ts : List Addr) (rs : List (List Int)) : Prop where
  top : H o = some (.lst (ts.map V.ref))
  bo : B o
  nd : ts.Nodup
  no : o ∉ ts
  len : ts.length = rs.length
  at' : ∀ (i : Nat) (t : Addr) (r : List Int), ts[i]? = some t → rs[i]? = some r → H t = some (.lst (r.map V.int))
  b : ∀ t ∈ ts, B t
theorem RmsAt.keep {H H' : Hp} {B : Addr → Prop} {a : Addr} {ts : List Addr} {rs : List (List Int)} (h : RmsAt H B a ts rs) (k : Kp B H H') : RmsAt H' B a ts rs :=
  ⟨k _ _ h.bo h.top, h.bo, h.nd, h.no, h.len, fun i t g e f => k _ _ (h.b t (List.mem_of_getElem? e)) (h.at' i t g e f), h.b⟩
theorem RmsAt.same {H H' : Hp} {B : Addr → Prop} {a : Addr} {ts : List Addr} {rs : List (List Int)} (h : RmsAt H B a ts rs) (k : Same H H') : RmsAt H' B a ts rs := h.keep (.of k)
theorem RmsAt.weaken {H : Hp} {B B' : Addr → Prop} {a : Addr} {ts : List Addr} {rs : List (List Int)} (h : RmsAt H B a ts rs) (k : ∀ b, B b → B' b) : RmsAt H B' a ts rs :=
  ⟨h.top, k _ h.bo, h.nd, h.no, h.len, h.at', fun t m => k _ (h.b t m)⟩
theorem RmsAt.seq {K : PySem.W.Frag} {H : Hp} {B : Addr → Prop} {a : Addr} {ts : List Addr} {rs : List (List Int)} (h : RmsAt H B a ts rs) : SqL K H a (ts.map V.ref) := SqL.of h.top
theorem RmsAt.get {H : Hp} {B : Addr → Prop} {a : Addr} {ts : List Addr} {rs : List (List Int)} (h : RmsAt H B a ts rs) {i : Nat} {x : V} (e : (ts.map V.ref)[i]? = some x) : ∃ t r, x = .ref t ∧ ts[i]? = some t ∧ rs[i]? = some r ∧ H t = some (.lst (r.map V.int)) := by
  obtain ⟨t, e1, rfl⟩ := refs_at e
  have hi := at_lt e1
  rw [h.len] at hi
  obtain ⟨g, e2⟩ := at_some hi
  exact ⟨t, g, rfl, e1, e2, h.at' i t g e1 e2⟩
theorem RmsAt.of {H : Hp} {B : Addr → Prop} {a : Addr} {ts : List Addr} {rs : List (List Int)} (h : RmsAt H B a ts rs) {i : Nat} {r : List Int} (e : rs[i]? = some r) : ∃ t, ts[i]? = some t ∧ H t = some (.lst (r.map V.int)) := by
  have hi := at_lt e
  rw [← h.len] at hi
  obtain ⟨t, e2⟩ := at_some hi
  exact ⟨t, e2, h.at' i t r e2 e⟩
theorem RmsAt.nil {H : Hp} {B : Addr → Prop} {o : Addr} (h : H o = some (.lst [])) (bo : B o) : RmsAt H B o [] [] :=
  ⟨h, bo, List.nodup_nil, by simp, rfl, fun i t r e _ => by simp at e, fun t m => by simp at m⟩
/-- a new empty list behind -/
theorem RmsAt.push {H : Hp} {B : Addr → Prop} {o : Addr} {ts : List Addr} {rs : List (List Int)} (h : RmsAt H B o ts rs) {q : Addr} {r : List Int} (hq : H q = none) (bq : B q) :
    RmsAt (upd (upd H q (.lst (r.map V.int))) o (.lst (ts.map V.ref ++ [.ref q]))) B o (ts ++ [q]) (rs ++ [r]) := by
  have nq : q ≠ o := no_of h.top hq
  have nqt : ∀ t ∈ ts, q ≠ t := fun t m => by
    obtain ⟨i, hi⟩ := List.mem_iff_getElem?.mp m
    have hl := at_lt hi
    rw [h.len] at hl
    obtain ⟨r', er⟩ := at_some hl
    exact no_of (h.at' i t r' hi er) hq
  refine ⟨?_, h.bo, ?_, ?_, ?_, fun i t x e1 e2 => ?_, fun t m => ?_⟩
  · rw [upd_same, List.map_append]
    rfl
  · rw [List.nodup_append]
    exact ⟨h.nd, by simp, fun a ha b hb => by
      rw [List.mem_singleton.mp hb]
      exact (nqt a ha).symm⟩
  · intro m
    rcases List.mem_append.mp m with m | m
    · exact h.no m
    · exact nq (List.mem_singleton.mp m).symm
  · rw [List.length_append, List.length_append, h.len]
    rfl
  · by_cases hi : i < ts.length
    · rw [List.getElem?_append_left hi] at e1
      rw [List.getElem?_append_left (by rw [← h.len]; exact hi)] at e2
      have nt : t ≠ o := fun z => h.no (z ▸ List.mem_of_getElem? e1)
      rw [upd_ne nt, upd_ne (nqt t (List.mem_of_getElem? e1)).symm]
      exact h.at' i t x e1 e2
    · have hi' : i = ts.length := by
        have := at_lt e1
        rw [List.length_append, List.length_singleton] at this
        omega
      subst hi'
      rw [List.getElem?_append_right (Nat.le_refl _), Nat.sub_self] at e1
      rw [h.len, List.getElem?_append_right (Nat.le_refl _), Nat.sub_self] at e2
      have e1' : q = t := Option.some.inj e1
      have e2' : r = x := Option.some.inj e2
      subst e1' e2'
      rw [upd_ne nq, upd_same]
  · rcases List.mem_append.mp m with m | m
    · exact h.b t m
    · rw [List.mem_singleton.mp m]
      exact bq
/-- one of them changed -/
theorem RmsAt.set {H : Hp} {B : Addr → Prop} {o : Addr} {ts : List Addr} {rs : List (List Int)} (h : RmsAt H B o ts rs) {i : Nat} {t : Addr} (e : ts[i]? = some t) (r : List Int) :
    RmsAt (upd H t (.lst (r.map V.int))) B o ts (rs.set i r) := by
  have nt : t ≠ o := fun z => h.no (z ▸ List.mem_of_getElem? e)
  refine ⟨?_, h.bo, h.nd, h.no, ?_, fun j u x e1 e2 => ?_, h.b⟩
  · rw [upd_ne nt.symm]
    exact h.top
  · rw [List.length_set]
    exact h.len
  · by_cases hj : j = i
    · subst hj
      have e' : u = t := Option.some.inj (e1.symm.trans e)
      subst e'
      rw [upd_same]
      have hl := at_lt e1
      rw [h.len] at hl
      rw [List.getElem?_set_self hl] at e2
      have : r = x := Option.some.inj e2
      rw [this]
    · rw [List.getElem?_set_ne (fun z => hj z.symm)] at e2
      have hut : u ≠ t := fun z => by
        subst z
        exact hj (nd_ix h.nd e1 e)
      rw [upd_ne hut]
      exact h.at' j u x e1 e2
theorem RmsAt.newTop {H H' : Hp} {B B' : Addr → Prop} {o : Addr} {ts : List Addr} {rs : List (List Int)} (h : RmsAt H B o ts rs) (k : ∀ b u, (b = o ∨ b ∈ ts) → H b = some u → H' b = some u) (kb : ∀ b, (b = o ∨ b ∈ ts) → B' b) : RmsAt H' B' o ts rs :=
  ⟨k _ _ (.inl rfl) h.top, kb _ (.inl rfl), h.nd, h.no, h.len, fun i t r e f => k _ _ (.inr (List.mem_of_getElem? e)) (h.at' i t r e f), fun t m => kb t (.inr m)⟩
/-! ### the dict of patience -/
def pks (gs : List (Int × Int)) : List (L2.Key × V) := gs.map fun g => (Sum.inl g.1, V.int g.2)
theorem pks_len (gs : List (Int × Int)) : (pks gs).length = gs.length := List.length_map _
theorem pks_keys (gs : List (Int × Int)) : (pks gs).map (·.1) = (gs.map (·.1)).map Sum.inl := by
  unfold pks
  rw [List.map_map, List.map_map]
  rfl
theorem pks_snoc (gs : List (Int × Int)) (g : Int × Int) : pks (gs ++ [g]) = pks gs ++ [(Sum.inl g.1, V.int g.2)] := List.map_append
theorem pks_none {gs : List (Int × Int)} {a : Int} (h : a ∉ gs.map (·.1)) : valV (pks gs) (Sum.inl a) = none := by
  induction gs with
  | nil => rfl
  | cons g gs ih =>
    have h' : ¬ (a = g.1 ∨ a ∈ gs.map (·.1)) := fun z => h (by rw [List.map_cons]; exact List.mem_cons.mpr z)
    have n : ¬ (Sum.inl g.1 : L2.Key) = Sum.inl a := fun z => h' (.inl (Sum.inl.inj z).symm)
    show valV ((Sum.inl g.1, V.int g.2) :: pks gs) (Sum.inl a) = none
    rw [valV_neg n]
    exact ih fun z => h' (.inr z)
theorem pks_some : ∀ {gs : List (Int × Int)} {g : Int × Int}, (gs.map (·.1)).Nodup → g ∈ gs → valV (pks gs) (Sum.inl g.1) = some (.int g.2)
  | x :: gs, g, nd, h => by
    have nd' : (x.1 :: gs.map (·.1)).Nodup := nd
    obtain ⟨n1, n2⟩ := List.nodup_cons.mp nd'
    show valV ((Sum.inl x.1, V.int x.2) :: pks gs) (Sum.inl g.1) = some (.int g.2)
    rcases List.mem_cons.mp h with e | h
    · subst e
      rw [valV_pos rfl]
    · have n : ¬ (Sum.inl x.1 : L2.Key) = Sum.inl g.1 := fun z => n1 (by
        rw [Sum.inl.inj z]
        exact List.mem_map.mpr ⟨g, h, rfl⟩)
      rw [valV_neg n]
      exact pks_some n2 h
theorem putK_snoc {gs : List (Int × Int)} {g : Int × Int} (h : g.1 ∉ gs.map (·.1)) : putK (pks gs) (Sum.inl g.1) (V.int g.2) = pks (gs ++ [g]) := by
  rw [putK_new _ (pks_none h), pks_snoc]
theorem Fit.take_no {gs : List (Int × Int)} (f : Fit gs) {i : Nat} {g : Int × Int} (h : gs[i]? = some g) : g.1 ∉ (gs.take i).map (·.1) := by
  intro m
  have e : gs = gs.take i ++ g :: gs.drop (i + 1) := by
    have hl := at_lt h
    have e2 : gs[i] = g := by
      rw [List.getElem?_eq_getElem hl] at h
      exact Option.some.inj h
    rw [← e2, List.getElem_cons_drop, List.take_append_drop]
  have nd := f.nd
  rw [e, List.map_append, List.nodup_append] at nd
  exact nd.2.2 _ m g.1 (by rw [List.map_cons]; exact List.mem_cons_self) rfl
/-! ### rules by a written part that is named (for what stands in a comprehension) -/
section
variable {X : Cx}
theorem lenK (K : PySem.W.Frag) (e : X.K = K := by rfl) : CallR X (.builtin "len") (fun xs H Q => ∃ p ys, xs = [.ref p] ∧ (SqL K H p ys ∨ SqT K H p ys) ∧ Q (.int ys.length) H) := by
  subst e
  exact call_len_seq
theorem ixlK (K : PySem.W.Frag) (e : X.K = K := by rfl) : IxR X (rIxL K) := by
  subst e
  exact ix_list
theorem ixtK (K : PySem.W.Frag) (e : X.K = K := by rfl) : IxR X (rIxT K) := by
  subst e
  exact ix_tup
theorem sllK (K : PySem.W.Frag) (e : X.K = K := by rfl) : SlR X (rSlL K) := by
  subst e
  exact sl_list
theorem eqDK (K : PySem.W.Frag) (hu : X.A.units + 64 < cLine) (e : X.K = K := by rfl) : OpR X (compareOp .Eq) (rEqD K) := by
  subst e
  exact op_eqD hu
theorem neDK (K : PySem.W.Frag) (hu : X.A.units + 64 < cLine) (e : X.K = K := by rfl) : OpR X (compareOp .NotEq) (rNeD K) := by
  subst e
  exact op_neD hu
theorem isiK (K : PySem.W.Frag) (e : X.K = K := by rfl) : CallR X (.builtin "isinstance") (rIsi K) := by
  subst e
  exact call_isi
theorem sumK (K : PySem.W.Frag) (hc : X.calm = true) (e : X.K = K := by rfl) : CallR X (.builtin "sum") (rSum K) := by
  subst e
  exact cr_sum hc
theorem inK (K : PySem.W.Frag) (e : X.K = K := by rfl) : OpR X (compareOp .In) (rIn K false) := by
  subst e
  exact op_in_seq
theorem notInK (K : PySem.W.Frag) (e : X.K = K := by rfl) : OpR X (compareOp .NotIn) (rIn K true) := by
  subst e
  exact op_notIn_seq
theorem listOfK (K : PySem.W.Frag) (e : X.K = K := by rfl) : CallR X (.type "list") (fun xs H Q => ∃ p ys, xs = [.ref p] ∧ (SqL K H p ys ∨ SqT K H p ys) ∧ ∀ l, H l = none → Q (.ref l) (upd H l (.lst ys))) := by
  subst e
  exact call_list_of
theorem pgTupK {es : List Expr} {k : Nat} {t : TGs} {pos : Pos} (K : PySem.W.Frag) (n : Nat) (hc : X.calm = true) (h : PGs X es t)
    (hn : (assignEach es X.env).length = n := by rfl) (hst : (assignEach es X.env).findIdx? (·.1) = none := by rfl) (e : X.K = K := by rfl) : PG X (.Tuple es k pos) (gTup K n t) := by
  subst e
  exact pg_tup hc h hn hst
theorem bmK {T : String} {name : Str} {id : String} {o e : Expr} {es : List Expr} {to : TE} {t : TA} {apos cpos : Pos} {r : V → List V → Hp → VK → Prop} (K : PySem.W.Frag) (pa : PlainAttrs T) (slot : Slot T name id) (hty : typeOf (.builtin id) = pure (.type "method_descriptor")) (hm : MtR X id r) (ho : PE X o to) (ha : PA X (e :: es) t)
    (hbase : attributeBase o name X.env (eval o X.env) = eval o X.env := by rfl)
    (hfew : ((backTo cpos (starEach (e :: es) X.env)).all (fun x => !x.1) && (backToKw cpos (keywordEach [] X.env)).all (fun x => x.1.isSome)
      && decide ((e :: es).length + ([] : List Keyword).length + (if ([] : List Keyword).isEmpty then 0 else 1) < 30)) = true := by rfl)
    (hline : (apos.endLine == cpos.line) = true := by rfl) (hs : starEach (e :: es) X.env = (false, eval e X.env) :: starEach es X.env := by rfl) (hplain : (backTo cpos (starEach es X.env)).any (·.1) = false := by rfl) (eK : X.K = K := by rfl) :
    PE X (.Call (.Attribute o name apos) (e :: es) [] cpos) (tBM K T r to t) := by
  subst eK
  exact pe_bm pa slot hty hm ho ha hbase hfew hline hs hplain
end
/-! ### cuts: what holds between two parts of a body -/
section
variable {σ : L2.St} {H : Hp} {D : Ends} {c : TT} {t u tb : TS}
theorem while_to (W : Nat → L2.St → Hp → Prop) (E : L2.St → Hp → Prop) (h0 : ∃ m, W m σ H) (hd : ∀ σ H, E σ H → D.nx σ H)
    (hs : ∀ X : L2.St → Hp → Prop, (∀ σ H, E σ H → X σ H) → ∀ m σ H, W m σ H → c σ H fun b H1 => if b = true then ∃ N : L2.St → Hp → Prop, (∀ σ' H', N σ' H' → ∃ m', m' < m ∧ W m' σ' H') ∧ tb { D with nx := N, ct := N, bk := X } σ H1 else X σ H1) : tWhile c tb D σ H := ⟨W, h0, hs D.nx hd⟩
theorem seq_to (E : L2.St → Hp → Prop) (h1 : ∀ X : L2.St → Hp → Prop, (∀ σ H, E σ H → X σ H) → t { D with nx := X } σ H) (h2 : ∀ σ H, E σ H → u D σ H) : tSeq t u D σ H := h1 (u D) h2
theorem seq_set {i : Nat} {v : V} (h : u D (σ.set i (some v)) H) : tSeq (tAsg (tC v) (gName i)) u D σ H := h
theorem st_to (E : L2.St → Hp → Prop) (h1 : ∀ X : L2.St → Hp → Prop, (∀ σ H, E σ H → X σ H) → t { D with nx := X } σ H) (h2 : ∀ σ H, E σ H → D.nx σ H) : t D σ H := h1 D.nx h2
end
theorem ixN_of {n j : Nat} (hj : j < n) : ixN n (j : Int) = some j := by
  unfold ixN
  rw [if_pos (by omega), if_pos (by omega), Int.toNat_natCast]
theorem seq_ix {n j : Nat} (hj : j < n) : seqIndex? (j : Int) n = some j := (ixN_seq (ixN_of hj)).1
theorem at_pick {xs : List V} {r : Int} (h0 : 0 ≤ r) (h1 : r < xs.length) : ∃ v, atI xs r = some v ∧ v ∈ xs := by
  obtain ⟨k, rfl⟩ : ∃ k : Nat, r = k := ⟨r.toNat, by omega⟩
  obtain ⟨v, e⟩ := at_some (show k < xs.length by omega)
  exact ⟨v, atI_nat e, List.mem_of_getElem? e⟩
theorem erase_perm {α : Type} : ∀ {l : List α} {k : Nat} {x : α}, l[k]? = some x → (x :: l.eraseIdx k).Perm l
  | [], _, _, h => by simp at h
  | a :: l, 0, x, h => by
    obtain rfl : a = x := Option.some.inj h
    exact List.Perm.refl _
  | a :: l, k + 1, x, h => by
    have ih := erase_perm (l := l) (k := k) (x := x) (by simpa using h)
    exact (List.Perm.swap a x (l.eraseIdx k)).trans (ih.cons a)
/-! ### data -/
def dInts (ns : List Int) : PyData := .list (ns.map .int)
def dGs (gs : List (Int × Int)) : PyData := .list (gs.map fun g => .tuple [.int g.1, .int g.2])
def dRows (rs : List (List Int)) : PyData := .list (rs.map dInts)
theorem canAll : ∀ {xs : List PyData}, (∀ x ∈ xs, x.canLay0 = true) → PyData.canLayAll0 xs = true
  | [], _ => by simp [PyData.canLayAll0]
  | x :: xs, h => by
    rw [PyData.canLayAll0, h x List.mem_cons_self, canAll fun y hy => h y (List.mem_cons_of_mem _ hy)]
    rfl
theorem depAll {n : Nat} : ∀ {xs : List PyData}, (∀ x ∈ xs, x.depth ≤ n) → PyData.depthAll xs ≤ n
  | [], _ => by simp [PyData.depthAll]
  | x :: xs, h => by
    rw [PyData.depthAll]
    exact Nat.max_le.mpr ⟨h x List.mem_cons_self, depAll fun y hy => h y (List.mem_cons_of_mem _ hy)⟩
structure Oks (n : Nat) (d : PyData) : Prop where
  can : d.canLay0 = true
  dep : d.depth ≤ n
theorem Oks.int (i : Int) : Oks 0 (.int i) := ⟨by simp [PyData.canLay0], by simp [PyData.depth]⟩
theorem Oks.mono {n m : Nat} {d : PyData} (h : Oks n d) (k : n ≤ m) : Oks m d := ⟨h.can, Nat.le_trans h.dep k⟩
theorem Oks.lst {n : Nat} {xs : List PyData} (h : ∀ x ∈ xs, Oks n x) : Oks (n + 1) (.list xs) := ⟨by rw [PyData.canLay0]; exact canAll fun x m => (h x m).can, by rw [PyData.depth]; exact Nat.succ_le_succ (depAll fun x m => (h x m).dep)⟩
theorem Oks.tup {n : Nat} {xs : List PyData} (h : ∀ x ∈ xs, Oks n x) : Oks (n + 1) (.tuple xs) := ⟨by rw [PyData.canLay0]; exact canAll fun x m => (h x m).can, by rw [PyData.depth]; exact Nat.succ_le_succ (depAll fun x m => (h x m).dep)⟩
theorem Oks.ints (ns : List Int) : Oks 1 (dInts ns) := .lst fun x m => by
  obtain ⟨n, _, rfl⟩ := List.mem_map.mp m
  exact .int n
theorem Oks.gs (gs : List (Int × Int)) : Oks 2 (dGs gs) := .lst fun x m => by
  obtain ⟨g, _, rfl⟩ := List.mem_map.mp m
  refine .tup fun y hy => ?_
  rcases List.mem_cons.mp hy with rfl | hy
  · exact .int _
  · rw [List.mem_singleton.mp hy]
    exact .int _
theorem Oks.rows (rs : List (List Int)) : Oks 2 (dRows rs) := .lst fun x m => by
  obtain ⟨r, _, rfl⟩ := List.mem_map.mp m
  exact .ints r
theorem Oks.shaped {n : Nat} {d : PyData} (h : Oks n d) (k : n ≤ 64 := by decide) : SeqAt.shaped d = true := by
  unfold SeqAt.shaped
  rw [h.can, decide_eq_true (Nat.le_trans h.dep k)]
  rfl
theorem Oks.eqv {n : Nat} {d : PyData} (h : Oks n d) : PyData.eqv d d = true := SeqAt.eqv_refl d h.can
theorem dp_ints {K : PySem.W.Frag} {H : Hp} {ns : List Int} : DpAll K H (ns.map V.int) (ns.map .int) := by
  induction ns with
  | nil => exact .nil
  | cons n ns ih => exact .cons (.int n) ih
theorem Dp.ints {K : PySem.W.Frag} {H : Hp} {a : Addr} {ns : List Int} (h : H a = some (.lst (ns.map V.int))) : Dp K H (.ref a) (dInts ns) := .lst (SqL.of h) dp_ints
theorem dpAll_of {K : PySem.W.Frag} {H : Hp} : ∀ {vs : List V} {ds : List PyData}, vs.length = ds.length → (∀ (i : Nat) (v : V) (d : PyData), vs[i]? = some v → ds[i]? = some d → Dp K H v d) → DpAll K H vs ds
  | [], [], _, _ => .nil
  | v :: vs, d :: ds, hl, h => .cons (h 0 v d rfl rfl) (dpAll_of (by simpa using hl) fun i v d e f => h (i + 1) v d (by simpa using e) (by simpa using f))
  | [], _ :: _, hl, _ => by simp at hl
  | _ :: _, [], hl, _ => by simp at hl
theorem GsAt.dp {K : PySem.W.Frag} {H : Hp} {B : Addr → Prop} {a : Addr} {ts : List Addr} {gs : List (Int × Int)} (h : GsAt H B a ts gs) : Dp K H (.ref a) (dGs gs) := by
  refine .lst h.seq (dpAll_of (by rw [List.length_map, List.length_map, h.len]) fun i v d e f => ?_)
  obtain ⟨t, g, rfl, eg, et⟩ := h.get e
  rw [List.getElem?_map, eg] at f
  obtain rfl := Option.some.inj f
  exact .tup (SqT.of et) (.cons (.int _) (.cons (.int _) .nil))
theorem RmsAt.dp {K : PySem.W.Frag} {H : Hp} {B : Addr → Prop} {a : Addr} {ts : List Addr} {rs : List (List Int)} (h : RmsAt H B a ts rs) : Dp K H (.ref a) (dRows rs) := by
  refine .lst h.seq (dpAll_of (by rw [List.length_map, List.length_map, h.len]) fun i v d e f => ?_)
  obtain ⟨t, r, rfl, _, er, et⟩ := h.get e
  rw [List.getElem?_map, er] at f
  obtain rfl := Option.some.inj f
  exact Dp.ints et
theorem eqv_nil (gs : List Int) : PyData.eqv (dInts gs) (dInts []) = gs.isEmpty := by
  cases gs with
  | nil => rfl
  | cons x r => rfl
theorem relTy (n : String) : RelV (.ty n) (.type n) := rfl
theorem FnOk.or {P : Program} {w : World} {K : PySem.W.Frag} {mg : Str → Option Value} {base : Heap} {CX : CXT} {k : Nat} {f : Addr} {fd : FuncData} {ps : List Str} {sp sp' : Sp} (F : FnOk P w K mg base CX k f fd ps sp) (F' : FnOk P w K mg base CX k f fd ps sp') :
    FnOk P w K mg base CX k f fd ps (fun vs H Q E => sp vs H Q E ∨ sp' vs H Q E) :=
  ⟨fun vs H Q E h => h.elim (F.len vs H Q E) (F'.len vs H Q E), fun A outer s H args us vs Q E hr e0 hb r h => h.elim (F.run A outer s H args us vs Q E hr e0 hb r) (F'.run A outer s H args us vs Q E hr e0 hb r)⟩
/-! ### built-ins by their names -/
structure Bi (mg : Str → Option Value) : Prop where
  len : mg "len" = none
  range : mg "range" = none
  enumerate : mg "enumerate" = none
  sorted : mg "sorted" = none
  sum : mg "sum" = none
  min : mg "min" = none
  max : mg "max" = none
  isinstance : mg "isinstance" = none
  zip : mg "zip" = none
  list_ : mg "list" = none
  tuple_ : mg "tuple" = none
  int_ : mg "int" = none
  bool_ : mg "bool" = none
  str_ : mg "str" = none
  abs : mg "abs" = none
  repr : mg "repr" = none
  dict_ : mg "dict" = none
  any : mg "any" = none
  all : mg "all" = none
  set_ : mg "set" = none
  reversed : mg "reversed" = none
  ValueError_ : mg "ValueError" = none
  divmod : mg "divmod" = none
end El
namespace El
open PySem PySem.Spec PyProof.Rows L2
/-- how many live in each -/
def lens (rs : List (List Int)) : List Int := rs.map fun r => (r.length : Int)
theorem lens_length (rs : List (List Int)) : (lens rs).length = rs.length := List.length_map _
theorem lens_at {rs : List (List Int)} {i : Nat} {r : List Int} (h : rs[i]? = some r) : (lens rs)[i]? = some (r.length : Int) := by
  unfold lens
  rw [List.getElem?_map, h]
  rfl
theorem cut_to (xs : List V) (j : Nat) : cutV xs none (some (j : Int)) = xs.take j := by
  unfold cutV
  rw [HT.sIx_none, HT.sIx_nat]
  show (List.drop 0 xs).take (min j xs.length - 0) = _
  rw [List.drop_zero, Nat.sub_zero, ← List.take_eq_take_min]
/-- the pair that stands at a value -/
def prOf (H : Hp) : V → Int × Int
  | .ref t => match H t with
    | some (.tup [.int i, .int j]) => (i, j)
    | _ => (0, 0)
  | _ => (0, 0)
theorem prOf_is {H : Hp} {t : Addr} {g : Int × Int} (h : H t = some (.tup [.int g.1, .int g.2])) : prOf H (.ref t) = g := by
  show (match H t with
    | some (.tup [.int i, .int j]) => (i, j)
    | _ => (0, 0)) = g
  rw [h]
theorem GsAt.prs {H : Hp} {B : Addr → Prop} {a : Addr} {ts : List Addr} {gs : List (Int × Int)} (h : GsAt H B a ts gs) : (ts.map V.ref).map (prOf H) = gs := by
  refine List.ext_getElem? fun i => ?_
  rw [List.getElem?_map]
  cases e : (ts.map V.ref)[i]? with
  | none =>
    have hl : (ts.map V.ref).length ≤ i := List.getElem?_eq_none_iff.mp e
    rw [List.length_map, h.len] at hl
    rw [List.getElem?_eq_none_iff.mpr hl]
    rfl
  | some x =>
    obtain ⟨t, g, rfl, eg, et⟩ := h.get e
    rw [eg]
    show some (prOf H (.ref t)) = some g
    rw [prOf_is et]
theorem GsAt.mem {H : Hp} {B : Addr → Prop} {a : Addr} {ts : List Addr} {gs : List (Int × Int)} (h : GsAt H B a ts gs) : ∀ x ∈ ts.map V.ref, ∃ t, x = V.ref t ∧ H t = some (.tup [.int (prOf H x).1, .int (prOf H x).2]) := fun x m => by
  obtain ⟨i, e⟩ := List.mem_iff_getElem?.mp m
  obtain ⟨t, g, rfl, eg, et⟩ := h.get e
  refine ⟨t, rfl, ?_⟩
  rw [prOf_is et]
  exact et
theorem sorted_prs {k : V → Int × Int} {ys xs : List V} {gs : List (Int × Int)} (f : Fit gs) (hx : xs.map k = gs) (hs : SrtO.Srtd (ltP k) ys) (hb : SrtO.Stb (ltP k) ys xs) : ys.reverse.map k = byAge gs := by
  refine byAge_of f ?_ ?_
  · rw [← hx]
    exact ((List.reverse_perm ys).trans hb.perm).map k
  · rw [List.map_reverse, List.pairwise_reverse, List.pairwise_map]
    refine hs.imp fun {a b} h => ?_
    have h' : SrtO.lexB (k b) (k a) = false := h
    rw [SrtO.lexB_no] at h'
    omega
theorem cut_1 (xs : List V) : cutV xs (some 1) none = xs.drop 1 := by
  unfold cutV
  rw [show HT.sIx xs.length 0 (some 1) = min 1 xs.length from HT.sIx_nat xs.length 0 1, HT.sIx_none]
  cases xs with
  | nil => rfl
  | cons x r =>
    rw [show min 1 (x :: r).length = 1 by
      rw [List.length_cons]
      omega]
    show (List.take ((x :: r).length - 1) r) = r
    rw [List.length_cons, Nat.add_sub_cancel]
    exact List.take_length
theorem lens_falls {gs : List (Int × Int)} (f : Fit gs) {i : Nat} {x y : Int} (h1 : (lens (settle gs))[i]? = some x) (h2 : ((lens (settle gs)).drop 1)[i]? = some y) : ¬ x < y := by
  rw [List.getElem?_drop] at h2
  unfold lens at h1 h2
  rw [List.getElem?_map] at h1 h2
  have hp := settleL_falls (byAge gs) f.byAge.pos
  cases e1 : (settle gs)[i]? with
  | none => rw [e1] at h1; cases h1
  | some r =>
    cases e2 : (settle gs)[1 + i]? with
    | none => rw [e2] at h2; cases h2
    | some s =>
      rw [e1] at h1
      rw [e2] at h2
      obtain rfl : (r.length : Int) = x := Option.some.inj h1
      obtain rfl : (s.length : Int) = y := Option.some.inj h2
      obtain ⟨l1, q1⟩ := List.getElem?_eq_some_iff.mp (show (settleL (byAge gs))[i]? = some r from e1)
      obtain ⟨l2, q2⟩ := List.getElem?_eq_some_iff.mp (show (settleL (byAge gs))[1 + i]? = some s from e2)
      have := List.pairwise_iff_getElem.mp hp i (1 + i) l1 l2 (by omega)
      rw [q1, q2] at this
      omega
theorem dget_pks {H : Hp} {d : Addr} {gs : List (Int × Int)} {g : Int × Int} (h : H d = some (.dK (pks gs))) (f : Fit gs) (m : g ∈ gs) : DGet H d (.int g.1) (some (.int g.2)) := by
  have q := DGet.k (k := Sum.inl g.1) h
  rw [pks_some f.nd m] at q
  exact q
theorem log_lt {m : Int} {k : Nat} (h0 : 0 < m) (h : m < 2 ^ k) : m.natAbs.log2 < k := by
  obtain ⟨j, rfl⟩ : ∃ j : Nat, m = j := ⟨m.toNat, by omega⟩
  have h' : j < 2 ^ k := by exact_mod_cast h
  rw [Int.natAbs_natCast]
  exact (Nat.log2_lt (by omega)).mpr h'
theorem GsAt.mix {H : Hp} {B B' : Addr → Prop} {a m : Addr} {ts : List Addr} {gs : List (Int × Int)} {ys : List V} (h : GsAt H B a ts gs) (e : H m = some (.lst ys)) (bm : B' m) (hb : ∀ b, B b → B' b) (p : ys.Perm (ts.map V.ref)) :
    ∃ ts' gs', GsAt H B' m ts' gs' ∧ gs'.Perm gs := by
  have hm : ∀ y ∈ ys, ∃ t, y = V.ref t ∧ t ∈ ts := fun y hy => by
    obtain ⟨t, ht, rfl⟩ := List.mem_map.mp (p.mem_iff.mp hy)
    exact ⟨t, rfl, ht⟩
  obtain ⟨us, rfl, hu⟩ : ∃ us : List Addr, ys = us.map V.ref ∧ ∀ u ∈ us, u ∈ ts := by
    clear p e
    induction ys with
    | nil => exact ⟨[], rfl, fun u hu => absurd hu (by simp)⟩
    | cons y ys ih =>
      obtain ⟨t, rfl, ht⟩ := hm y List.mem_cons_self
      obtain ⟨us, rfl, hu⟩ := ih fun z hz => hm z (List.mem_cons_of_mem _ hz)
      exact ⟨t :: us, rfl, fun u h => by
        rcases List.mem_cons.mp h with rfl | h
        · exact ht
        · exact hu u h⟩
  refine ⟨us, (us.map V.ref).map (prOf H), ⟨e, bm, by rw [List.length_map, List.length_map], fun i t g e1 e2 => ?_, fun t ht => hb t (h.b t (hu t ht))⟩, ?_⟩
  · rw [List.getElem?_map, List.getElem?_map, e1] at e2
    have e2' : prOf H (.ref t) = g := Option.some.inj e2
    obtain ⟨j, ej⟩ := List.mem_iff_getElem?.mp (hu t (List.mem_of_getElem? e1))
    obtain ⟨t', g', e3, eg, et⟩ := h.get (i := j) (x := .ref t) (by rw [List.getElem?_map, ej]; rfl)
    injection e3 with e3
    subst e3
    rw [prOf_is et] at e2'
    rw [← e2']
    exact et
  · have := p.map (prOf H)
    rw [h.prs] at this
    exact this
/-- put in anywhere -/
theorem GsAt.ins {H : Hp} {B : Addr → Prop} {a : Addr} {ts : List Addr} {gs : List (Int × Int)} {ys : List V} (h : GsAt H B a ts gs) (hn : a ∉ ts) {q : Addr} {g : Int × Int} (e : H q = some (.tup [.int g.1, .int g.2])) (bq : B q) (p : ys.Perm (ts.map V.ref ++ [.ref q])) :
    ∃ ts' gs', GsAt (upd H a (.lst ys)) B a ts' gs' ∧ gs'.Perm (gs ++ [g]) ∧ a ∉ ts' ∧ ys = ts'.map V.ref := by
  have nq : q ≠ a := fun z => by
    rw [z, h.top] at e
    cases e
  have hm : ∀ y ∈ ys, ∃ t, y = V.ref t ∧ t ∈ ts ++ [q] := fun y hy => by
    rcases List.mem_append.mp (p.mem_iff.mp hy) with m | m
    · obtain ⟨t, ht, rfl⟩ := List.mem_map.mp m
      exact ⟨t, rfl, List.mem_append_left _ ht⟩
    · exact ⟨q, List.mem_singleton.mp m, List.mem_append_right _ (List.mem_singleton.mpr rfl)⟩
  obtain ⟨us, rfl, hu⟩ : ∃ us : List Addr, ys = us.map V.ref ∧ ∀ u ∈ us, u ∈ ts ++ [q] := by
    clear p
    induction ys with
    | nil => exact ⟨[], rfl, fun u hu => absurd hu (by simp)⟩
    | cons y ys ih =>
      obtain ⟨t, rfl, ht⟩ := hm y List.mem_cons_self
      obtain ⟨us, rfl, hu⟩ := ih fun z hz => hm z (List.mem_cons_of_mem _ hz)
      exact ⟨t :: us, rfl, fun u h => by
        rcases List.mem_cons.mp h with rfl | h
        · exact ht
        · exact hu u h⟩
  have ha : ∀ u ∈ us, u ≠ a ∧ B u ∧ ∃ x : Int × Int, H u = some (.tup [.int x.1, .int x.2]) := fun u m => by
    rcases List.mem_append.mp (hu u m) with m | m
    · obtain ⟨j, ej⟩ := List.mem_iff_getElem?.mp m
      obtain ⟨t', g', e3, eg, et⟩ := h.get (i := j) (x := .ref u) (by rw [List.getElem?_map, ej]; rfl)
      injection e3 with e3
      subst e3
      exact ⟨fun z => hn (z ▸ m), h.b u m, g', et⟩
    · rw [List.mem_singleton.mp m]
      exact ⟨nq, bq, g, e⟩
  refine ⟨us, (us.map V.ref).map (prOf H), ⟨upd_same, h.ba, by rw [List.length_map, List.length_map], fun i t x e1 e2 => ?_, fun t m => (ha t m).2.1⟩, ?_, fun m => (ha a m).1 rfl, rfl⟩
  · rw [List.getElem?_map, List.getElem?_map, e1] at e2
    have e2' : prOf H (.ref t) = x := Option.some.inj e2
    obtain ⟨n1, _, y, ey⟩ := ha t (List.mem_of_getElem? e1)
    rw [prOf_is ey] at e2'
    subst e2'
    rw [upd_ne n1]
    exact ey
  · have := p.map (prOf H)
    rw [List.map_append, h.prs] at this
    rw [show [V.ref q].map (prOf H) = [g] by show [prOf H (.ref q)] = [g]; rw [prOf_is e]] at this
    exact this
theorem GsAt.cat {H : Hp} {B : Addr → Prop} {a l : Addr} {ts : List Addr} {gs : List (Int × Int)} (h : GsAt H B a ts gs) {q : Addr} {g : Int × Int} (e : H q = some (.tup [.int g.1, .int g.2])) (el : H l = some (.lst (ts.map V.ref ++ [.ref q]))) :
    GsAt H (fun _ => True) l (ts ++ [q]) (gs ++ [g]) := by
  refine ⟨by rw [List.map_append]; exact el, trivial, by rw [List.length_append, List.length_append, h.len]; rfl, fun i t x e1 e2 => ?_, fun _ _ => trivial⟩
  by_cases hi : i < ts.length
  · rw [List.getElem?_append_left hi] at e1
    rw [List.getElem?_append_left (by rw [← h.len]; exact hi)] at e2
    exact h.at' i t x e1 e2
  · have hi' : i = ts.length := by
      have := at_lt e1
      rw [List.length_append, List.length_singleton] at this
      omega
    subst hi'
    rw [List.getElem?_append_right (Nat.le_refl _), Nat.sub_self] at e1
    rw [h.len, List.getElem?_append_right (Nat.le_refl _), Nat.sub_self] at e2
    obtain rfl : q = t := Option.some.inj e1
    obtain rfl : g = x := Option.some.inj e2
    exact e
theorem inV_ints (x : Int) (ns : List Int) : inV (.int x) (ns.map V.int) = decide (x ∈ ns) := by
  unfold inV
  rw [List.any_map]
  induction ns with
  | nil => rfl
  | cons n ns ih =>
    rw [List.any_cons, ih]
    have e : ((fun y => eqV y (V.int x)) ∘ V.int) n = decide (x = n) := by
      show eqV (.int n) (.int x) = decide (x = n)
      have e2 : eqV (.int n) (.int x) = decide (n = x) := by
        unfold eqV
        first | rfl | simp
      rw [e2]
      by_cases h : n = x
      · subst h; simp
      · rw [decide_eq_false h, decide_eq_false (fun z => h z.symm)]
    rw [e]
    by_cases h : x = n
    · subst h
      simp
    · rw [decide_eq_false h, Bool.false_or]
      by_cases h2 : x ∈ ns
      · rw [decide_eq_true h2, decide_eq_true (List.mem_cons_of_mem _ h2)]
      · rw [decide_eq_false h2, decide_eq_false (fun z => (List.mem_cons.mp z).elim h h2)]
theorem flat_ints (ns : List Int) : (ns.map V.int).all flatV = true := by
  rw [List.all_map, List.all_eq_true]
  intro x _
  rfl
theorem eqvAll_ints : ∀ a b : List Int, PyData.eqvAll (a.map .int) (b.map .int) = decide (a = b)
  | [], [] => rfl
  | [], y :: b => by
    rw [decide_eq_false (by simp)]
    rfl
  | x :: a, [] => by
    rw [decide_eq_false (by simp)]
    rfl
  | x :: a, y :: b => by
    rw [List.map_cons, List.map_cons, PyData.eqvAll, eqvAll_ints a b]
    show ((x == y) && decide (a = b)) = _
    by_cases h : x = y
    · subst h
      by_cases h2 : a = b
      · subst h2
        simp
      · rw [decide_eq_false h2, decide_eq_false (fun z => h2 (List.cons.inj z).2)]
        simp
    · have : (x == y) = false := by simpa using h
      rw [this, decide_eq_false (fun z => h (List.cons.inj z).1)]
      rfl
theorem eqv_ints (a b : List Int) : PyData.eqv (dInts a) (dInts b) = decide (a = b) := by
  unfold dInts
  rw [PyData.eqv]
  exact eqvAll_ints a b
theorem cut_at (xs : List V) (k : Nat) : cutV xs (some (k : Int)) (some ((k : Int) + 1)) = (xs.drop k).take 1 := by
  unfold cutV
  rw [HT.sIx_nat, show (k : Int) + 1 = ((k + 1 : Nat) : Int) by omega, HT.sIx_nat]
  by_cases h : k < xs.length
  · rw [Nat.min_eq_left (by omega), Nat.min_eq_left (by omega), Nat.add_sub_cancel_left]
  · have h1 : min k xs.length = xs.length := by omega
    have h2 : min (k + 1) xs.length = xs.length := by omega
    rw [h1, h2, Nat.sub_self, List.take_zero, List.drop_of_length_le (show xs.length ≤ k by omega)]
    rfl
theorem drop_take1 (L : List Int) (k : Nat) : (L.drop k).take 1 = L[k]?.toList := by
  by_cases h : k < L.length
  · rw [List.getElem?_eq_getElem h, List.drop_eq_getElem_cons h]
    rfl
  · rw [List.getElem?_eq_none (by omega), List.drop_of_length_le (by omega)]
    rfl
end El
namespace El
open PySem PySem.Spec PyProof.Rows L2
/-- [f(a, b) for a, b in gs], pairs of ints to ints -/
theorem lc_prs {K : PySem.W.Frag} {B : Addr → Prop} {a D : Addr} {ts : List Addr} {gs : List (Int × Int)} {i j : Nat} {te : TE} {vs : List Nat} {σ : L2.St} {H1 : Hp} {Qd : Hp → Prop} (f : Int × Int → Int) (hG : GsAt H1 B a ts gs) (hD : H1 D = none) (hl : gs.length ≤ 1000)
    (he : ∀ (z : Int × Int) (H' : Hp), z ∈ gs → Same H1 H' → ∀ Q : VK, Q (.int (f z)) H' → te (((wipe σ vs).set i (some (.int z.1))).set j (some (.int z.2))) H' Q) (hw : ∀ z : Int × Int, wipe (((wipe σ vs).set i (some (.int z.1))).set j (some (.int z.2))) vs = wipe σ vs)
    (hd : ∀ H2, Same H1 H2 → H2 D = some (.lst ((gs.map f).map V.int)) → Qd H2) :
    ∃ W : Nat → Nat → Hp → Prop, (∃ m, W 0 m (upd H1 D (.lst []))) ∧ ∀ k m H, W k m H →
      ((Itl K a).stop k H ∧ Qd H) ∨ ((Itl K a).go k H ∧ ∃ Nx : Hp → Prop, (∀ H', Nx H' → ∃ m', m' < m ∧ W (k + 1) m' H') ∧ ∀ x H', (Itl K a).yld k H x H' → gTup K 2 (gCons (gName i) (gCons (gName j) gNil)) x (wipe σ vs) H' fun σ2 H2 => wipe σ2 vs = wipe σ vs ∧ tYes σ2 H2 fun b H3 =>
        if b = true then te σ2 H3 fun y H4 => ∃ acc, H4 D = some (.lst acc) ∧ acc.length < sizeLine ∧ Nx (upd H4 D (.lst (acc ++ [y]))) else Nx H3) := by
  refine lc_it (walk_list (xs := ts.map V.ref)) (fun k H2 => Same H1 H2 ∧ H2 D = some (.lst (((gs.take k).map f).map V.int))) ⟨same_new hD, upd_same⟩ (fun k H2 _ hW => ?_) (fun k x H2 H3 hk hW hY => ?_) (fun H2 hW => ?_)
  · exact (hG.same hW.1).seq
  · obtain ⟨sm, e⟩ := hW
    obtain ⟨rfl, hx⟩ := hY
    obtain ⟨t, z, rfl, ez, et⟩ := (hG.same sm).get hx
    refine ⟨t, _, rfl, SqT.of et, rfl, .int z.1, _, rfl, .int z.2, _, rfl, rfl, ?_⟩
    refine ⟨hw z, he z H3 (List.mem_of_getElem? ez) sm _ ⟨_, e, ils (by rw [List.length_map, List.length_map, List.length_take]; omega), Same.mut sm hD, ?_⟩⟩
    rw [upd_same, take_snoc ez, List.map_append, List.map_append]
    rfl
  · obtain ⟨sm, e⟩ := hW
    rw [List.length_map, hG.len, take_full] at e
    exact hd H2 sm e
theorem GsAt.top' {H : Hp} {B : Addr → Prop} {a : Addr} {ts : List Addr} {gs : List (Int × Int)} (h : GsAt H B a ts gs) {b : Addr} (e : H b = some (.lst (ts.map V.ref))) : GsAt H (fun _ => True) b ts gs := ⟨e, trivial, h.len, h.at', fun _ _ => trivial⟩
/-- a pair of a list of pairs, by its place -/
theorem GsAt.at_ {H : Hp} {B : Addr → Prop} {a : Addr} {ts : List Addr} {gs : List (Int × Int)} (h : GsAt H B a ts gs) {i : Nat} {g : Int × Int} (e : gs[i]? = some g) : ∃ t, (ts.map V.ref)[i]? = some (.ref t) ∧ H t = some (.tup [.int g.1, .int g.2]) := by
  have hl := at_lt e
  rw [← h.len] at hl
  obtain ⟨t, e2⟩ := at_some hl
  exact ⟨t, by rw [List.getElem?_map, e2]; rfl, h.at' i t g e2 e⟩
theorem pick2 {P : Int → Prop} {a b r : Int} (h0 : 0 ≤ r) (h1 : r < 2) (pa : P a) (pb : P b) : ∃ v : Int, atI [V.int a, .int b] r = some (.int v) ∧ P v := by
  obtain ⟨v, hv, mv⟩ := at_pick (xs := [V.int a, .int b]) h0 h1
  rcases List.mem_cons.mp mv with rfl | mv
  · exact ⟨_, hv, pa⟩
  · obtain rfl := List.mem_singleton.mp mv
    exact ⟨_, hv, pb⟩
theorem pick3 {P : Int → Prop} {a b c r : Int} (h0 : 0 ≤ r) (h1 : r < 3) (pa : P a) (pb : P b) (pc : P c) : ∃ v : Int, atI [V.int a, .int b, .int c] r = some (.int v) ∧ P v := by
  obtain ⟨v, hv, mv⟩ := at_pick (xs := [V.int a, .int b, .int c]) h0 h1
  rcases List.mem_cons.mp mv with rfl | mv
  · exact ⟨_, hv, pa⟩
  rcases List.mem_cons.mp mv with rfl | mv
  · exact ⟨_, hv, pb⟩
  · obtain rfl := List.mem_singleton.mp mv
    exact ⟨_, hv, pc⟩
theorem pick4 {P : Int → Prop} {a b c d r : Int} (h0 : 0 ≤ r) (h1 : r < 4) (pa : P a) (pb : P b) (pc : P c) (pd : P d) : ∃ v : Int, atI [V.int a, .int b, .int c, .int d] r = some (.int v) ∧ P v := by
  obtain ⟨v, hv, mv⟩ := at_pick (xs := [V.int a, .int b, .int c, .int d]) h0 h1
  rcases List.mem_cons.mp mv with rfl | mv
  · exact ⟨_, hv, pa⟩
  rcases List.mem_cons.mp mv with rfl | mv
  · exact ⟨_, hv, pb⟩
  rcases List.mem_cons.mp mv with rfl | mv
  · exact ⟨_, hv, pc⟩
  · obtain rfl := List.mem_singleton.mp mv
    exact ⟨_, hv, pd⟩
theorem pickL {P : Int → Prop} {L : List Int} {r : Int} (h0 : 0 ≤ r) (h1 : r < L.length) (p : ∀ x ∈ L, P x) : ∃ v : Int, atI (L.map V.int) r = some (.int v) ∧ P v := by
  obtain ⟨v, hv, mv⟩ := at_pick (xs := L.map V.int) h0 (by rw [List.length_map]; exact h1)
  obtain ⟨x, mx, rfl⟩ := List.mem_map.mp mv
  exact ⟨x, hv, p x mx⟩
/-- pairs that stand at these, whatever list tells them -/
structure Prs (H : Hp) (ts : List Addr) (gs : List (Int × Int)) : Prop where
  len : ts.length = gs.length
  at' : ∀ (i : Nat) (t : Addr) (g : Int × Int), ts[i]? = some t → gs[i]? = some g → H t = some (.tup [.int g.1, .int g.2])
theorem GsAt.pr {H : Hp} {B : Addr → Prop} {a : Addr} {ts : List Addr} {gs : List (Int × Int)} (h : GsAt H B a ts gs) : Prs H ts gs := ⟨h.len, h.at'⟩
theorem Prs.gs {H : Hp} {a : Addr} {ts : List Addr} {gs : List (Int × Int)} (h : Prs H ts gs) (e : H a = some (.lst (ts.map V.ref))) : GsAt H (fun _ => True) a ts gs := ⟨e, trivial, h.len, h.at', fun _ _ => trivial⟩
theorem Prs.same {H H' : Hp} {ts : List Addr} {gs : List (Int × Int)} (h : Prs H ts gs) (k : Same H H') : Prs H' ts gs := ⟨h.len, fun i t g e f => k _ _ (h.at' i t g e f)⟩
theorem Prs.nil {H : Hp} : Prs H [] [] := ⟨rfl, fun i t g e _ => by simp at e⟩
theorem Prs.cons {H : Hp} {t : Addr} {g : Int × Int} {ts : List Addr} {gs : List (Int × Int)} (e : H t = some (.tup [.int g.1, .int g.2])) (h : Prs H ts gs) : Prs H (t :: ts) (g :: gs) := by
  refine ⟨by rw [List.length_cons, List.length_cons, h.len], fun i u x e1 e2 => ?_⟩
  cases i with
  | zero =>
    obtain rfl : t = u := Option.some.inj e1
    obtain rfl : g = x := Option.some.inj e2
    exact e
  | succ i => exact h.at' i u x (by simpa using e1) (by simpa using e2)
theorem Prs.cat {H : Hp} {ts us : List Addr} {gs hs : List (Int × Int)} (h : Prs H ts gs) (k : Prs H us hs) : Prs H (ts ++ us) (gs ++ hs) := by
  refine ⟨by rw [List.length_append, List.length_append, h.len, k.len], fun i t r e1 e2 => ?_⟩
  by_cases hi : i < ts.length
  · rw [List.getElem?_append_left hi] at e1
    rw [List.getElem?_append_left (by rw [← h.len]; exact hi)] at e2
    exact h.at' i t r e1 e2
  · rw [List.getElem?_append_right (by omega)] at e1
    rw [List.getElem?_append_right (by rw [← h.len]; omega), ← h.len] at e2
    exact k.at' _ t r e1 e2
theorem Prs.take {H : Hp} {ts : List Addr} {gs : List (Int × Int)} (h : Prs H ts gs) (n : Nat) : Prs H (ts.take n) (gs.take n) := by
  refine ⟨by rw [List.length_take, List.length_take, h.len], fun i t r e1 e2 => ?_⟩
  rw [List.getElem?_take] at e1 e2
  split at e1
  · rename_i hi
    rw [if_pos hi] at e2
    exact h.at' i t r e1 e2
  · cases e1
theorem Prs.drop {H : Hp} {ts : List Addr} {gs : List (Int × Int)} (h : Prs H ts gs) (n : Nat) : Prs H (ts.drop n) (gs.drop n) := by
  refine ⟨by rw [List.length_drop, List.length_drop, h.len], fun i t r e1 e2 => ?_⟩
  rw [List.getElem?_drop] at e1 e2
  exact h.at' _ t r e1 e2
theorem cutFrom (xs : List V) (j : Nat) : cutV xs (some (j : Int)) none = xs.drop j := by
  unfold cutV
  rw [HT.sIx_none, HT.sIx_nat]
  show (List.drop (min j xs.length) xs).take (xs.length - min j xs.length) = _
  by_cases h : j ≤ xs.length
  · rw [Nat.min_eq_left h, List.take_of_length_le (by rw [List.length_drop]; omega)]
  · rw [Nat.min_eq_right (by omega), List.drop_of_length_le (Nat.le_refl _), List.drop_of_length_le (show xs.length ≤ j by omega), List.take_nil]
theorem iteX {c : Bool} {A B : Prop} (hc : c = false) (h : B) : if c = true then A else B := by
  rw [hc]
  exact iteF h
theorem nd_self (x : V) : (!decide (x = x)) = false := by rw [decide_eq_true rfl]; rfl
theorem log2_lt {x : Int} {k : Nat} (h0 : 0 ≤ x) (h1 : x < 2 ^ k) (hk : 0 < k) : x.natAbs.log2 < k := by
  by_cases h4 : x.natAbs = 0
  · rw [h4]; exact Nat.lt_of_le_of_lt (by decide) hk
  · refine (Nat.log2_lt h4).mpr ?_
    have : ((x.natAbs : Nat) : Int) < ((2 ^ k : Nat) : Int) := by
      rw [show ((x.natAbs : Nat) : Int) = x by omega]
      exact_mod_cast h1
    exact_mod_cast this
theorem part_at {gs : List (Int × Int)} {i : Nat} {g : Int × Int} (e : gs[i]? = some g) : gs = gs.take i ++ [g] ++ gs.drop (i + 1) := by
  have hi := at_lt e
  have h2 := List.getElem_cons_drop (as := gs) (i := i) hi
  rw [List.getElem?_eq_getElem hi] at e
  rw [Option.some.inj e] at h2
  rw [List.append_assoc]
  show gs = gs.take i ++ (g :: gs.drop (i + 1))
  rw [h2, List.take_append_drop]
theorem rg0 {i : Nat} {x : V} (h : x = V.int (0 + (i : Int))) : x = V.int (i : Int) := by
  rw [h, Int.zero_add]
end El
namespace El
/-- a crowd comes to a first room in which h live -/
def kst (h : Int) (c : Int × Int) : Int := if c.2 + 1 ≤ h then h else if h + c.1 ≤ c.2 + 1 then h + c.1 else c.2 + 1
def stay (cs : List (Int × Int)) (n : Int) : Int := cs.foldl kst n
def Crw (cs : List (Int × Int)) : Prop := ∀ c ∈ cs, 1 ≤ c.1 ∧ 0 ≤ c.2
theorem stay_snoc (cs : List (Int × Int)) (c : Int × Int) (n : Int) : stay (cs ++ [c]) n = kst (stay cs n) c := by
  unfold stay
  rw [List.foldl_append]
  rfl
theorem stay_cat (cs ds : List (Int × Int)) (n : Int) : stay (cs ++ ds) n = stay ds (stay cs n) := by
  unfold stay
  rw [List.foldl_append]
theorem stay_cons (c : Int × Int) (cs : List (Int × Int)) (n : Int) : stay (c :: cs) n = stay cs (kst n c) := rfl
theorem kst_ge (h : Int) (c : Int × Int) (k : 1 ≤ c.1) : h ≤ kst h c := by
  unfold kst
  split
  · omega
  · split <;> omega
/-- one elder more: as many, or one more -/
theorem kst_one (h h' : Int) (c : Int × Int) (k : 1 ≤ c.1) (d : h' = h ∨ h' = h + 1) : kst h' c = kst h c ∨ kst h' c = kst h c + 1 := by
  unfold kst
  split <;> split <;> (try split) <;> (try split) <;> omega
theorem Crw.cons {c : Int × Int} {cs : List (Int × Int)} (h : Crw (c :: cs)) : (1 ≤ c.1 ∧ 0 ≤ c.2) ∧ Crw cs := ⟨h c List.mem_cons_self, fun d m => h d (List.mem_cons_of_mem _ m)⟩
theorem Crw.cat {cs ds : List (Int × Int)} (h : Crw cs) (k : Crw ds) : Crw (cs ++ ds) := fun c m => (List.mem_append.mp m).elim (h c) (k c)
theorem stay_ge : ∀ {cs : List (Int × Int)}, Crw cs → ∀ n, n ≤ stay cs n
  | [], _, n => Int.le_refl _
  | c :: cs, h, n => by
    rw [stay_cons]
    exact Int.le_trans (kst_ge n c h.cons.1.1) (stay_ge h.cons.2 _)
theorem stay_one : ∀ {cs : List (Int × Int)}, Crw cs → ∀ n n', (n' = n ∨ n' = n + 1) → stay cs n' = stay cs n ∨ stay cs n' = stay cs n + 1
  | [], _, n, n', d => d
  | c :: cs, h, n, n', d => by
    rw [stay_cons, stay_cons]
    exact stay_one h.cons.2 _ _ (kst_one n n' c h.cons.1.1 d)
/-- a crowd parted in two -/
theorem kst_part (h : Int) (a b p : Int) (ha : 1 ≤ a) (hb : 1 ≤ b) : kst (kst h (a, p)) (b, p) = kst h (a + b, p) := by
  unfold kst
  dsimp only
  split <;> (try split) <;> (try split) <;> (try split) <;> (try split) <;> omega
end El
namespace El
theorem stay_lt {M : Int} : ∀ {cs : List (Int × Int)}, (∀ c ∈ cs, c.2 + 1 < M) → ∀ n, n < M → stay cs n < M
  | [], _, n, h => h
  | c :: cs, k, n, h => by
    rw [stay_cons]
    refine stay_lt (fun d m => k d (List.mem_cons_of_mem _ m)) _ ?_
    have := k c List.mem_cons_self
    unfold kst
    split
    · omega
    · split <;> omega
theorem kst_0 (h p : Int) : kst h (0, p) = h := by
  unfold kst
  dsimp only
  split
  · rfl
  · split <;> omega
theorem kst_succ (h p : Int) (k : Nat) : kst h (((k + 1 : Nat) : Int), p) = kst h ((k : Int), p) + (if decide (kst h ((k : Int), p) ≤ p) = true then 1 else 0) := by
  by_cases e : kst h ((k : Int), p) ≤ p
  · rw [decide_eq_true e, if_pos rfl]
    unfold kst at e ⊢
    dsimp only at e ⊢
    split <;> (try split) <;> (try split) <;> (try split) <;> (split at e) <;> (try split at e) <;> omega
  · rw [decide_eq_false e, if_neg (by decide), Int.add_zero]
    unfold kst at e ⊢
    dsimp only at e ⊢
    split <;> (try split) <;> (try split) <;> (try split) <;> (split at e) <;> (try split at e) <;> omega
end El
namespace El
open PySem PySem.Spec PyProof.Rows L2 SX
/-! ### numbers as texts -/
def numI (i : Int) : List Nat := if 0 ≤ i then TL.numL i.toNat else 45 :: TL.numL (0 - i).toNat
theorem numI_nat (n : Nat) : numI (n : Int) = TL.numL n := by
  unfold numI
  rw [if_pos (by omega), Int.toNat_natCast]
theorem numI_neg {i : Int} (h : i < 0) : numI i = 45 :: TL.numL (0 - i).toNat := by
  unfold numI
  rw [if_neg (by omega)]
theorem ofs_cat (a b : String) : Str.ofString (a ++ b) = Str.ofString a ++ Str.ofString b := by
  have ofs : ∀ s : String, (Str.ofString s).cps.toList = s.toList.map Char.toNat := fun s => by
    rw [Str.ofString_eq_toList]
  refine TL.ext_tl ?_
  show (Str.ofString (a ++ b)).cps.toList = (Str.ofString a ++ Str.ofString b).cps.toList
  rw [ofs, PySem.Str.cps_append, Array.toList_append, ofs, ofs, String.toList_append, List.map_append]
theorem text_S (i : Int) : Str.ofString (toString i) = S (numI i) := by
  by_cases h : 0 ≤ i
  · obtain ⟨n, rfl⟩ : ∃ n : Nat, i = n := ⟨i.toNat, by omega⟩
    rw [numI_nat, num_S]
  · rw [PyProof.Rows.toString_neg (by omega), numI_neg (by omega)]
    have e : (0 - i : Int) = (((0 - i).toNat : Nat) : Int) := by omega
    have e2 : Str.ofString ("-" ++ toString (0 - i)) = Str.ofString "-" ++ Str.ofString (toString (0 - i)) := ofs_cat _ _
    rw [e2, e, num_S, Int.toNat_natCast]
    show S [45] ++ _ = _
    rw [S_cat]
    rfl
def Sm (i : Int) : Prop := i.natAbs < 10 ^ 30
theorem digit_all {l : List Nat} (h : NumText.AllDigits l) : l.all (fun c => decide (48 ≤ c) && decide (c ≤ 57)) = true := by
  rw [List.all_eq_true]
  intro c m
  have := h c m
  rw [decide_eq_true this.1, decide_eq_true this.2]
  rfl
theorem uni_digit : ∀ c : Nat, c < 128 → Unicode.isDigit c = (decide (48 ≤ c) && decide (c ≤ 57)) := by decide +kernel
theorem digits_word {l : List Nat} : (Txt.isascii (S l) && Txt.isdigit (S l)) = (!l.isEmpty && l.all (fun c => decide (48 ≤ c) && decide (c ≤ 57))) := by
  have e1 : Txt.isascii (S l) = l.all (fun c => decide (c < 128)) := by
    show (l.toArray).all _ = _
    rw [← Array.all_toList]
  have e2 : Txt.isdigit (S l) = (!l.isEmpty && l.all Unicode.isDigit) := by
    show (decide ((S l).length > 0) && (l.toArray).all Unicode.isDigit) = _
    rw [← Array.all_toList, S_len]
    cases l with
    | nil => rfl
    | cons x r => rfl
  rw [e1, e2]
  clear e1 e2
  induction l with
  | nil => rfl
  | cons c r ih =>
    rw [List.all_cons, List.all_cons, List.all_cons]
    cases r with
    | nil =>
      by_cases h : c < 128
      · rw [uni_digit c h, decide_eq_true h]
        rfl
      · rw [decide_eq_false h]
        have : (decide (48 ≤ c) && decide (c ≤ 57)) = false := by rw [decide_eq_false (show ¬ c ≤ 57 by omega), Bool.and_false]
        rw [this]
        rfl
    | cons d r =>
      have ih' : (List.all (d :: r) (fun c => decide (c < 128)) && (true && List.all (d :: r) Unicode.isDigit)) = (true && List.all (d :: r) fun c => decide (48 ≤ c) && decide (c ≤ 57)) := ih
      by_cases h : c < 128
      · rw [uni_digit c h, decide_eq_true h]
        cases hd : (decide (48 ≤ c) && decide (c ≤ 57)) with
        | true =>
          show (true && List.all (d :: r) _ && (true && (true && List.all (d :: r) _))) = (true && (true && List.all (d :: r) _))
          rw [Bool.true_and, Bool.true_and, Bool.true_and]
          exact ih'
        | false => simp
      · rw [decide_eq_false h]
        have : (decide (48 ≤ c) && decide (c ≤ 57)) = false := by rw [decide_eq_false (show ¬ c ≤ 57 by omega), Bool.and_false]
        rw [this]
        simp
def unsign : List Nat → List Nat
  | [] => []
  | c :: r => if c = 45 then r else c :: r
theorem prefix_off (l : List Nat) : Txt.removeprefix (S l) (S [45]) = S (unsign l) := by
  have hs : Builtin.Str.subAt (S l) (S [45]) 0 = decide (l.take 1 = [45]) := by
    rw [PySem.StrLaws.subAt_eq, S_len]
    show ((l.drop 0).take 1 == [45]) = _
    rw [List.drop_zero]
    by_cases h : l.take 1 = [45]
    · rw [h]; rfl
    · rw [decide_eq_false h]
      exact beq_eq_false_iff_ne.mpr h
  unfold Txt.removeprefix Txt.affix
  rw [hs]
  cases l with
  | nil => rfl
  | cons c r =>
    by_cases h : c = 45
    · subst h
      rw [decide_eq_true (by rfl), if_pos rfl, S_len, S_len]
      show (if ((r.length + 1) - 1 == r.length + 1) = true then S (45 :: r) else Builtin.Str.strSub (S (45 :: r)) 1 (r.length + 1)) = S r
      rw [if_neg (by rw [beq_iff_eq]; omega)]
      refine TL.ext_tl ?_
      show (Builtin.Str.strSub (S (45 :: r)) 1 (r.length + 1)).cps.toList = r
      rw [PySem.StrLaws.strSub_toList]
      show (r.take (r.length + 1 - 1)) = r
      rw [Nat.add_sub_cancel, List.take_length]
    · have hne : ¬ (c :: r).take 1 = [45] := fun z => h (List.cons.inj z).1
      rw [decide_eq_false hne, if_neg Bool.false_ne_true]
      show S (c :: r) = S (if c = 45 then r else c :: r)
      rw [if_neg h]
theorem unsign_num (i : Int) : unsign (numI i) = TL.numL i.natAbs := by
  by_cases h : 0 ≤ i
  · obtain ⟨n, rfl⟩ : ∃ n : Nat, i = n := ⟨i.toNat, by omega⟩
    rw [numI_nat, Int.natAbs_natCast]
    cases e : TL.numL n with
    | nil => exact absurd e (TL.numL_ne n)
    | cons c r =>
      have hc := TL.numL_digits n c (by rw [e]; exact List.mem_cons_self)
      show (if c = 45 then r else c :: r) = _
      rw [if_neg (by omega)]
  · rw [numI_neg (by omega)]
    show TL.numL (0 - i).toNat = _
    congr 1
    omega
theorem numI_len {i : Int} (h : Sm i) : (numI i).length ≤ 31 := by
  unfold Sm at h
  by_cases h0 : 0 ≤ i
  · obtain ⟨n, rfl⟩ : ∃ n : Nat, i = n := ⟨i.toNat, by omega⟩
    rw [numI_nat]
    exact Nat.le_succ_of_le (TL.numL_len (by decide) (by rw [Int.natAbs_natCast] at h; exact h))
  · rw [numI_neg (by omega), List.length_cons]
    exact Nat.succ_le_succ (TL.numL_len (by decide) (by
      have : (0 - i).toNat = i.natAbs := by omega
      rw [this]
      exact h))
theorem numI_ne (i : Int) : numI i ≠ [] := by
  unfold numI
  split
  · exact TL.numL_ne _
  · simp
/-- no other signs than - and figures -/
theorem numI_free {c : Nat} (i : Int) (h1 : c ≠ 45) (h2 : c < 48 ∨ 57 < c) : c ∉ numI i := by
  unfold numI
  split
  · exact TL.numL_free h2
  · intro m
    rcases List.mem_cons.mp m with e | m
    · exact h1 e
    · exact TL.numL_free h2 m
theorem numI_reads {i : Int} (h : Sm i) : intText? (S (numI i)) = some i := by
  by_cases h0 : 0 ≤ i
  · obtain ⟨n, rfl⟩ : ∃ n : Nat, i = n := ⟨i.toNat, by omega⟩
    rw [numI_nat, int_S (digit_all (TL.numL_digits n)) (TL.numL_ne n) (by
      have := numI_len h
      rw [numI_nat] at this
      omega), TL.numL_val]
  · have hl := numI_len h
    rw [numI_neg (by omega)] at hl ⊢
    rw [intText_neg (cs := TL.numL (0 - i).toNat) rfl (TL.numL_digits _) (TL.numL_ne _) (by rw [S_len]; omega), TL.numL_val]
    congr 1
    omega
theorem numI_inj {i j : Int} (h : numI i = numI j) : i = j := by
  have h1 : unsign (numI i) = unsign (numI j) := by rw [h]
  rw [unsign_num, unsign_num] at h1
  have h2 := TL.numL_inj h1
  by_cases a : 0 ≤ i
  · by_cases b : 0 ≤ j
    · omega
    · exfalso
      rw [numI_neg (show j < 0 by omega)] at h
      obtain ⟨n, rfl⟩ : ∃ n : Nat, i = n := ⟨i.toNat, by omega⟩
      rw [numI_nat] at h
      have := TL.numL_digits n 45 (by rw [h]; exact List.mem_cons_self)
      omega
  · by_cases b : 0 ≤ j
    · exfalso
      rw [numI_neg (show i < 0 by omega)] at h
      obtain ⟨n, rfl⟩ : ∃ n : Nat, j = n := ⟨j.toNat, by omega⟩
      rw [numI_nat] at h
      have := TL.numL_digits n 45 (by rw [← h]; exact List.mem_cons_self)
      omega
    · omega
theorem Sm.log {i : Int} (h : Sm i) : i.natAbs.log2 < 1920 := by
  unfold Sm at h
  by_cases h0 : i.natAbs = 0
  · rw [h0]; decide
  · exact Nat.lt_trans ((Nat.log2_lt h0).mpr (Nat.lt_trans h (by decide +kernel : 10 ^ 30 < 2 ^ 200))) (by decide)
end El
namespace El
open PySem PySem.Spec PyProof.Rows L2 SX
/-- a pair of numbers, and several, as texts -/
def twoW (c : Nat) (g : Int × Int) : List Nat := TL.joinL [c] [numI g.1, numI g.2]
def noneL : List Nat := [110, 111, 110, 101]
def textOf (c : Nat) (gs : List (Int × Int)) : List Nat := if gs = [] then noneL else TL.joinL [32] (gs.map (twoW c))
def Sms (gs : List (Int × Int)) : Prop := ∀ g ∈ gs, Sm g.1 ∧ Sm g.2
theorem none_S : ("none" : Str) = S noneL := by
  refine TL.ext_tl ?_
  decide +kernel
theorem one_S : ("x" : Str) = S [120] ∧ (":" : Str) = S [58] ∧ (" " : Str) = S [32] ∧ ("," : Str) = S [44] ∧ ("-" : Str) = S [45] ∧ (" | " : Str) = S [32, 124, 32] := by
  refine ⟨TL.ext_tl ?_, TL.ext_tl ?_, TL.ext_tl ?_, TL.ext_tl ?_, TL.ext_tl ?_, TL.ext_tl ?_⟩ <;> decide +kernel
theorem twoW_is (c : Nat) (g : Int × Int) : twoW c g = numI g.1 ++ ([c] ++ numI g.2) := rfl
theorem twoW_len {c : Nat} {g : Int × Int} (h : Sm g.1 ∧ Sm g.2) : (twoW c g).length ≤ 63 := by
  rw [twoW_is, List.length_append, List.length_append]
  have := numI_len h.1
  have := numI_len h.2
  show _ + (1 + _) ≤ _
  omega
theorem joinL_len (sep : List Nat) (k : Nat) : ∀ l : List (List Nat), (∀ w ∈ l, w.length ≤ k) → (TL.joinL sep l).length ≤ l.length * (k + sep.length)
  | [], _ => Nat.zero_le _
  | [w], h => by
    have := h w List.mem_cons_self
    show w.length ≤ 1 * (k + sep.length)
    omega
  | w :: v :: r, h => by
    have h1 := h w List.mem_cons_self
    have h2 := joinL_len sep k (v :: r) fun u m => h u (List.mem_cons_of_mem _ m)
    show (w ++ (sep ++ TL.joinL sep (v :: r))).length ≤ _
    rw [List.length_append, List.length_append, List.length_cons, Nat.add_mul, Nat.one_mul]
    omega
theorem textOf_len {c : Nat} {gs : List (Int × Int)} (h : Sms gs) : (textOf c gs).length ≤ gs.length * 64 + 4 := by
  unfold textOf
  split
  · show 4 ≤ _
    omega
  · refine Nat.le_trans (joinL_len [32] 63 _ fun w m => ?_) ?_
    · obtain ⟨g, mg, rfl⟩ := List.mem_map.mp m
      exact twoW_len (h g mg)
    · rw [List.length_map]
      show gs.length * 64 ≤ _
      omega
theorem two_free {c : Nat} {g : Int × Int} (hc : c ≠ 32) : 32 ∉ twoW c g := by
  rw [twoW_is]
  intro m
  rcases List.mem_append.mp m with m | m
  · exact numI_free g.1 (by decide) (by decide) m
  · rcases List.mem_append.mp m with m | m
    · exact hc (List.mem_singleton.mp m).symm
    · exact numI_free g.2 (by decide) (by decide) m
theorem split_text {c : Nat} {gs : List (Int × Int)} (hc : c ≠ 32) (h : gs ≠ []) : Txt.split (S (textOf c gs)) (S [32]) = (gs.map (twoW c)).map S := by
  unfold textOf
  rw [if_neg h, split_S (by decide) (by decide), spl_join (by simpa using h) fun w m => ?_]
  obtain ⟨g, _, rfl⟩ := List.mem_map.mp m
  exact two_free hc
theorem split_two {c : Nat} {g : Int × Int} (hc : c < 256) (h1 : c ≠ 45) (h2 : c < 48 ∨ 57 < c) : Txt.split (S (twoW c g)) (S [c]) = [numI g.1, numI g.2].map S := by
  unfold twoW
  rw [split_S (by simp) (by simp [hc]), spl_join (by simp) fun w m => ?_]
  rcases List.mem_cons.mp m with rfl | m
  · exact numI_free _ h1 h2
  · rw [List.mem_singleton.mp m]
    exact numI_free _ h1 h2
theorem S_ne {a b : List Nat} (h : a ≠ b) : S a ≠ S b := fun z => h (S_inj z)
/-- a text of some is not `none` -/
theorem text_none {c : Nat} {gs : List (Int × Int)} (hn : gs ≠ []) : textOf c gs ≠ noneL := by
  unfold textOf
  rw [if_neg hn]
  intro e
  cases gs with
  | nil => exact hn rfl
  | cons g gs =>
    have h1 : ∃ d r, numI g.1 = d :: r ∧ (d = 45 ∨ (48 ≤ d ∧ d ≤ 57)) := by
      unfold numI
      split
      · cases e2 : TL.numL g.1.toNat with
        | nil => exact absurd e2 (TL.numL_ne _)
        | cons d r => exact ⟨d, r, rfl, .inr (TL.numL_digits g.1.toNat d (by rw [e2]; exact List.mem_cons_self))⟩
      · exact ⟨45, _, rfl, .inl rfl⟩
    obtain ⟨d, r, e2, hd⟩ := h1
    have h3 : ∃ r', TL.joinL [32] ((g :: gs).map (twoW c)) = d :: r' := by
      rw [List.map_cons, twoW_is, e2]
      cases gs with
      | nil => exact ⟨_, rfl⟩
      | cons g2 gs => exact ⟨_, rfl⟩
    obtain ⟨r', e3⟩ := h3
    rw [e3] at e
    have := (List.cons.inj e).1
    omega
theorem text_pos {c : Nat} {gs : List (Int × Int)} (hn : gs ≠ []) : 0 < (textOf c gs).length := by
  unfold textOf
  rw [if_neg hn]
  cases gs with
  | nil => exact absurd rfl hn
  | cons g gs =>
    have h := numI_ne g.1
    have h1 : 0 < (twoW c g).length := by
      rw [twoW_is, List.length_append]
      have := List.length_pos_iff.mpr h
      omega
    rw [List.map_cons]
    cases gs with
    | nil => exact h1
    | cons g2 gs =>
      show 0 < (twoW c g ++ _).length
      rw [List.length_append]
      omega
theorem fs_two (a b : Int) (c : Nat) (x : Str) (hx : x = S [c]) : Str.empty ++ Str.ofString (toString a) ++ x ++ Str.ofString (toString b) = S (twoW c (a, b)) := by
  rw [PySem.Str.empty_append, hx, text_S, text_S, S_cat, S_cat, twoW_is, List.append_assoc]
theorem fs_two' (a b : Int) (c : Nat) (x : Str) (hx : x = S [c]) : Str.ofString (toString a) ++ x ++ Str.ofString (toString b) = S (twoW c (a, b)) := by
  rw [hx, text_S, text_S, S_cat, S_cat, twoW_is, List.append_assoc]
theorem text_small {i : Int} (h : Sm i) : (Str.ofString (toString i)).length ≤ 31 := by
  rw [text_S, S_len]
  exact numI_len h
theorem sum_lens {l : List Str} {k : Nat} (h : ∀ w ∈ l, w.length ≤ k) : (l.map (·.length)).sum ≤ l.length * k := by
  induction l with
  | nil => exact Nat.zero_le _
  | cons w l ih =>
    have h1 := h w List.mem_cons_self
    have h2 := ih fun v m => h v (List.mem_cons_of_mem _ m)
    rw [List.map_cons, List.sum_cons, List.length_cons, Nat.add_mul, Nat.one_mul]
    omega
theorem iteTx {c : Bool} {A B : Prop} (hc : c = true) (h : A) : if c = true then A else B := by rw [if_pos hc]; exact h
theorem digs_lt : ∀ (n : Nat) (cs : List Nat), cs.length = n → NumText.AllDigits cs → NumText.digitsVal cs < 10 ^ n
  | 0, cs, h, _ => by
    rw [List.length_eq_zero_iff.mp h]
    decide
  | n + 1, cs, h, hd => by
    rcases List.eq_nil_or_concat cs with rfl | ⟨a, d, rfl⟩
    · cases h
    · rw [List.concat_eq_append] at *
      rw [List.length_append] at h
      have ih := digs_lt n a (by simpa using h) fun c m => hd c (List.mem_append_left _ m)
      have h2 := hd d (List.mem_append_right _ (List.mem_singleton.mpr rfl))
      rw [NumText.digitsVal_snoc, Nat.pow_succ]
      omega
/-- a number of thirty figures and no more -/
theorem sm_len {i : Int} (h : (unsign (numI i)).length ≤ 30) : Sm i := by
  rw [unsign_num] at h
  have := digs_lt _ _ rfl (TL.numL_digits i.natAbs)
  rw [TL.numL_val] at this
  exact Nat.lt_of_lt_of_le this (Nat.pow_le_pow_right (by decide) h)
theorem len_sm {i : Int} (h : Sm i) : (unsign (numI i)).length ≤ 30 := by
  rw [unsign_num]
  exact TL.numL_len (by decide) h
theorem word_digits (l : List Nat) (h : (!l.isEmpty && l.all (fun c => decide (48 ≤ c) && decide (c ≤ 57))) = true) : NumText.AllDigits l ∧ l ≠ [] := by
  rw [Bool.and_eq_true] at h
  refine ⟨fun c m => ?_, fun e => by rw [e] at h; exact Bool.noConfusion h.1⟩
  have := List.all_eq_true.mp h.2 c m
  rw [Bool.and_eq_true] at this
  exact ⟨of_decide_eq_true this.1, of_decide_eq_true this.2⟩
theorem num_word (i : Int) : (!(unsign (numI i)).isEmpty && (unsign (numI i)).all (fun c => decide (48 ≤ c) && decide (c ≤ 57))) = true := by
  rw [unsign_num, digit_all (TL.numL_digits _), Bool.and_true]
  cases e : TL.numL i.natAbs with
  | nil => exact absurd e (TL.numL_ne _)
  | cons c r => rfl
/-- a word of a sign and figures is read as a number -/
theorem word_reads {l : List Nat} (h : (!(unsign l).isEmpty && (unsign l).all (fun c => decide (48 ≤ c) && decide (c ≤ 57))) = true) (hl : (unsign l).length ≤ 30) : ∃ n : Int, intText? (S l) = some n ∧ Sm n := by
  obtain ⟨hd, hn⟩ := word_digits _ h
  have hv := digs_lt _ _ rfl hd
  have hs : NumText.digitsVal (unsign l) < 10 ^ 30 := Nat.lt_of_lt_of_le hv (Nat.pow_le_pow_right (by decide) hl)
  cases l with
  | nil => exact absurd rfl hn
  | cons c r =>
    by_cases hc : c = 45
    · subst hc
      have e : unsign (45 :: r) = r := rfl
      rw [e] at hd hn hl hs
      refine ⟨-((NumText.digitsVal r : Nat) : Int), intText_neg rfl hd hn (by rw [S_len, List.length_cons]; omega), ?_⟩
      show (-((NumText.digitsVal r : Nat) : Int)).natAbs < _
      rw [Int.natAbs_neg, Int.natAbs_natCast]
      exact hs
    · have e : unsign (c :: r) = c :: r := if_neg hc
      rw [e] at hd hn hl hs
      refine ⟨((NumText.digitsVal (c :: r) : Nat) : Int), int_S (digit_all hd) hn (by omega), ?_⟩
      show (((NumText.digitsVal (c :: r) : Nat) : Int)).natAbs < _
      rw [Int.natAbs_natCast]
      exact hs
end El
namespace El
open PySem PySem.Spec PyProof.Rows L2
def topS (i : Nat) : Stmt := PySem.Challenge.pw_elderinn_k51_crowds_written.main.body.getD i (.Pass ⟨0, 0, 0, 0⟩)
end El
namespace El
open PySem PySem.Spec PyProof.Rows L2 SX
section
variable {P : Program} {w : World} {K : PySem.W.Frag} {mg : Str → Option Value} {base : Heap}
abbrev s_show_crowds : Stmt := topS 1
abbrev N_show_crowds : List Str := ["crowds", "count", "patience"]
abbrev P_show_crowds : List Str := ["crowds"]
theorem sc_show_crowds : FnScope N_show_crowds P_show_crowds (defScope s_show_crowds) := ⟨rfl, rfl, rfl, by decide +kernel, rfl, by decide +kernel, by decide +kernel⟩
def sp_show_crowds : Sp := fun vs H Q _ => ∃ (BB : Addr → Prop) (a : Addr) (ts : List Addr) (gs : List (Int × Int)), vs = [.ref a] ∧ GsAt H BB a ts gs ∧ Sms gs ∧ gs.length ≤ 1000 ∧ ∀ H', Same H H' → Q (.str (S (textOf 120 gs))) H'
theorem ok_show_crowds (A : At K mg "show_crowds" P_show_crowds s_show_crowds) (B : Bi mg) : Df P w K mg base 1 "show_crowds" P_show_crowds s_show_crowds sp_show_crowds := by
  refine A.df fun f fd F => F.ok sc_show_crowds (fun vs H Q E h => ?_) (fun cdv AA outer s H vs Q E hr h => ?_)
  · obtain ⟨_, _, _, _, rfl, _⟩ := h
    rfl
  · obtain ⟨BB, a, ts, gs, rfl, hG, hs, hl, q⟩ := h
    have nd := sc_show_crowds.nd
    refine ⟨_, (pss_one (ps_ret (pe_orT (pe_bm PySem.F.plainAttrs_str PySem.F.slot_str_join PySem.F.type_str_join mt_join pe_str (pa_cons (pe_lc (own := [("count", 1), ("patience", 2)]) (tt := tYes) rfl nd (pi_list (pv 0)) (blkOk_by (N := N_show_crowds) (sc := defScope s_show_crowds) (by decide +kernel)) (fun _ _ _ _ _ => (pgTupK K 2 (by rfl) (pgs_cons (pg_name (i := 1) nd rfl (.inl rfl)) (pgs_cons (pg_name (i := 2) nd rfl (.inl rfl)) pgs_nil)))) (fun _ _ _ _ _ => pts_nil) (fun _ _ _ _ _ => (pe_joined (.cons (pe_fmt (pv 1)) (.cons pe_str (.cons (pe_fmt (pv 2)) .nil)))))) pa_nil)) (pe_one pe_str)))), ?_⟩
    refine ⟨rfl, .ref a, rfl, a, rfl, ⟨_, hG.seq⟩, fun D nD => ?_⟩
    refine lc_it (te := fun σ H Q => tJs [tFmt (tVar 1), tC (V.str (Str.ofString "x")), tFmt (tVar 2)] Str.empty σ H fun out H1 => Q (V.str out) H1) (walk_list (xs := ts.map V.ref)) (fun k H2 => Same H H2 ∧ H2 D = some (.lst (((gs.take k).map fun g => S (twoW 120 g)).map V.str))) ⟨same_new nD, upd_same⟩ (fun k H2 _ hW => ?_) (fun k x H2 H3 hk hW hY => ?_) (fun H2 hW => ?_)
    · exact (hG.same hW.1).seq
    · obtain ⟨sm, e⟩ := hW
      obtain ⟨rfl, hx⟩ := hY
      obtain ⟨t, g, rfl, eg, et⟩ := (hG.same sm).get hx
      obtain ⟨h1, h2⟩ := hs g (List.mem_of_getElem? eg)
      have l1 := text_small h1
      have l2 := text_small h2
      have lx : (Str.ofString "x").length = 1 := rfl
      refine ⟨t, _, rfl, SqT.of et, rfl, .int g.1, _, rfl, .int g.2, _, rfl, rfl, rfl, ?_⟩
      refine ⟨.int g.1, rfl, .inr ⟨g.1, rfl, h1.log, _, rfl, ile (by rw [PySem.Str.empty_append]; omega), _, rfl, ile (by rw [PySem.Str.empty_append, PySem.Str.length_append, lx]; omega), .int g.2, rfl, .inr ⟨g.2, rfl, h2.log, _, rfl, ile (by rw [PySem.Str.empty_append, PySem.Str.length_append, PySem.Str.length_append, lx]; omega), ?_⟩⟩⟩
      refine ⟨_, e, ils (by rw [List.length_map, List.length_map, List.length_take]; omega), Same.mut sm nD, ?_⟩
      rw [upd_same, take_snoc eg, List.map_append, List.map_append]
      show some (HO.lst (_ ++ [V.str (Str.empty ++ Str.ofString (toString g.1) ++ ("x" : Str) ++ Str.ofString (toString g.2))])) = _
      rw [fs_two _ _ 120 _ one_S.1]
      rfl
    · obtain ⟨sm, e⟩ := hW
      rw [List.length_map, hG.len, take_full] at e
      have hsz : ∀ w ∈ gs.map (fun g => S (twoW 120 g)), w.length ≤ 63 := fun w m => by
        obtain ⟨g, mg', rfl⟩ := List.mem_map.mp m
        rw [S_len]
        exact twoW_len (hs g mg')
      refine ⟨_, D, gs.map (fun g => S (twoW 120 g)), rfl, rfl, .inl (SqL.of e), ?_, ?_⟩
      · have := sum_lens hsz
        rw [List.length_map] at this ⊢
        rw [one_S.2.2.1, S_len]
        show _ + gs.length * 1 ≤ _
        omega
      · have hj : Txt.join " " (gs.map fun g => S (twoW 120 g)) = S (TL.joinL [32] (gs.map (twoW 120))) := by
          rw [one_S.2.2.1, ← join_S, List.map_map]
          rfl
        rw [hj]
        have hlen : (TL.joinL [32] (gs.map (twoW 120))).length ≤ 64000 := by
          refine Nat.le_trans (joinL_len [32] 63 _ fun w m => ?_) (by rw [List.length_map]; show gs.length * 64 ≤ _; omega)
          obtain ⟨g, mg', rfl⟩ := List.mem_map.mp m
          exact twoW_len (hs g mg')
        refine ⟨_, ⟨by rw [S_len]; exact ile (by omega), rfl⟩, ?_⟩
        rw [S_len]
        by_cases hn : gs = []
        · subst hn
          refine iteX (by rfl) ?_
          have q' := q H2 sm
          unfold textOf at q'
          rw [if_pos rfl, ← none_S] at q'
          exact q'
        · have hpos : 0 < (TL.joinL [32] (gs.map (twoW 120))).length := by
            have := text_pos (c := 120) hn
            unfold textOf at this
            rw [if_neg hn] at this
            exact this
          refine iteTx (by generalize (TL.joinL [32] (gs.map (twoW 120))).length = n at hpos ⊢; cases n with | zero => omega | succ n => rfl) ?_
          have q' := q H2 sm
          unfold textOf at q'
          rw [if_neg hn] at q'
          exact q'
end
end El
namespace El
open PySem PySem.Spec PyProof.Rows L2
section
variable {P : Program} {w : World} {K : PySem.W.Frag} {mg : Str → Option Value} {base : Heap}
abbrev s_is_crowd : Stmt := topS 6
abbrev N_is_crowd : List Str := ["count", "patience"]
abbrev P_is_crowd : List Str := ["count", "patience"]
theorem sc_is_crowd : FnScope N_is_crowd P_is_crowd (defScope s_is_crowd) := ⟨rfl, rfl, rfl, by decide +kernel, rfl, by decide +kernel, by decide +kernel⟩
def sp_is_crowd : Sp := fun vs H Q _ => ∃ c p : Int, vs = [.int c, .int p] ∧ Q (.bl (decide (1 ≤ c) && decide (0 ≤ p))) H
theorem ok_is_crowd (A : At K mg "is_crowd" P_is_crowd s_is_crowd) : Df P w K mg base 1 "is_crowd" P_is_crowd s_is_crowd sp_is_crowd := by
  refine A.df fun f fd F => F.ok sc_is_crowd (fun vs H Q E h => ?_) (fun cdv AA outer s H vs Q E hr h => ?_)
  · obtain ⟨_, _, rfl, _⟩ := h
    rfl
  · obtain ⟨c, p, rfl, q⟩ := h
    have nd := sc_is_crowd.nd
    refine ⟨_, (pss_one (ps_ret (pe_and (pe_cmpR op_ge (pv 0) pe_int (nomark _)) (pe_one (pe_cmpR op_ge (pv 1) pe_int (nomark _)))))), ?_⟩
    refine ⟨.int c, rfl, _, _, rfl, rfl, _, rfl, ite2 (fun e => ?_) (fun e => ?_)⟩
    · have e := of_decide_eq_true e
      rw [decide_eq_true e, Bool.true_and] at q
      exact ⟨.int p, rfl, _, _, rfl, rfl, q⟩
    · rw [decide_eq_false (fun z => e (decide_eq_true z)), Bool.false_and] at q
      exact q
end
end El
namespace El
open PySem PySem.Spec PyProof.Rows L2 SX
section
variable {P : Program} {w : World} {K : PySem.W.Frag} {mg : Str → Option Value} {base : Heap}
abbrev s_is_number : Stmt := topS 13
abbrev N_is_number : List Str := ["word", "figures"]
abbrev P_is_number : List Str := ["word"]
theorem sc_is_number : FnScope N_is_number P_is_number (defScope s_is_number) := ⟨rfl, rfl, rfl, by decide +kernel, rfl, by decide +kernel, by decide +kernel⟩
def sp_is_number : Sp := fun vs H Q _ => ∃ l : List Nat, vs = [.str (S l)] ∧ l.length ≤ 100000 ∧ (∀ i, Sm i → l = numI i → Q (.bl true) H) ∧ ((∀ i, Sm i → l ≠ numI i) → Q (.bl false) H)
theorem ok_is_number {tMF : Tok} (A : At K mg "is_number" P_is_number s_is_number) (B : Bi mg) (G_MOST_FIGURES : mg "MOST_FIGURES" = some (.int 30 tMF)) : Df P w K mg base 1 "is_number" P_is_number s_is_number sp_is_number := by
  refine A.df fun f fd F => F.ok sc_is_number (fun vs H Q E h => ?_) (fun cdv AA outer s H vs Q E hr h => ?_)
  · obtain ⟨_, rfl, _⟩ := h
    rfl
  · obtain ⟨l, rfl, hl, qt, qf⟩ := h
    have nd := sc_is_number.nd
    refine ⟨_, (pss_cons (ps_set (i := 1) nd rfl (.inl rfl) (pe_bm PySem.F.plainAttrs_str PySem.F.slot_str_removeprefix PySem.F.type_str_removeprefix mt_removeprefix (pv 0) (pa_cons pe_str pa_nil)))
    (pss_cons (ps_if (PW.pt (pw_or (pt_cmpR op_gt (pe_callB call_len_str (by rfl) B.len PySem.boot_len (pa_cons (pv 1) pa_nil)) (pe_glob (v := .int 30) rfl G_MOST_FIGURES ⟨_, rfl⟩) (nomark _)) (pw_or1 (pt_not (PW.pt (pw_and (pt_val (pe_bm0 PySem.F.plainAttrs_str PySem.F.slot_str_isascii PySem.F.type_str_isascii mt_isascii (pv 1))) (pw_and1 (pt_val (pe_bm0 PySem.F.plainAttrs_str PySem.F.slot_str_isdigit PySem.F.type_str_isdigit mt_isdigit (pv 1)))))))))) (pss_one (ps_ret pe_bl)) pss_nil)
    (pss_one (ps_ret (pe_cmpR op_eq (pe_callTy call_str_int (by rfl) B.str_ (by decide +kernel) (pa_cons (pe_callTy call_int_str (by rfl) B.int_ (by decide +kernel) (pa_cons (pv 0) pa_nil)) pa_nil)) (pv 0) (nomark _)))))), ?_⟩
    refine ⟨.str (S l), rfl, rfl, S l, _, rfl, rfl, ile (by rw [S_len]; exact hl), ?_⟩
    rw [one_S.2.2.2.2.1, prefix_off]
    have huns : (unsign l).length ≤ l.length := by
      cases l with
      | nil => exact Nat.le_refl _
      | cons c r =>
        show (if c = 45 then r else c :: r).length ≤ _
        split
        · exact Nat.le_succ _
        · exact Nat.le_refl _
    -- the figures too many
    refine ⟨.str (S (unsign l)), rfl, S (unsign l), rfl, ?_, ?_⟩
    · rw [S_len]
      exact ile (by omega)
    · rw [S_len]
      refine ⟨_, _, rfl, rfl, _, rfl, ?_⟩
      by_cases hb : (30 : Int) < ((unsign l).length : Nat)
      · refine iteTx (by rw [decide_eq_true hb]) ?_
        refine iteTx rfl ?_
        exact qf fun i hi e => by
          have := len_sm hi
          rw [← e] at this
          omega
      · rw [decide_eq_false hb]
        refine iteX rfl ?_
        have hb' : (unsign l).length ≤ 30 := by omega
        have hw := digits_word (l := unsign l)
        have bad : (!(unsign l).isEmpty && (unsign l).all (fun c => decide (48 ≤ c) && decide (c ≤ 57))) = false → Q (.bl false) H := fun z => qf fun i hi e => by
          rw [e, num_word] at z
          exact Bool.noConfusion z
        refine ⟨.str (S (unsign l)), rfl, rfl, S (unsign l), rfl, rfl, trivial, _, rfl, ?_⟩
        cases ha : Txt.isascii (S (unsign l)) with
        | false =>
          refine iteX rfl ?_
          refine iteTx rfl ?_
          rw [ha] at hw
          exact bad hw.symm
        | true =>
          refine iteTx rfl ?_
          refine ⟨.str (S (unsign l)), rfl, rfl, S (unsign l), rfl, rfl, trivial, _, rfl, ?_⟩
          cases hd : Txt.isdigit (S (unsign l)) with
          | false =>
            refine iteTx rfl ?_
            rw [ha, hd] at hw
            exact bad hw.symm
          | true =>
            refine iteX rfl ?_
            rw [ha, hd] at hw
            obtain ⟨n, hr2, hn⟩ := word_reads hw.symm hb'
            have hl31 : l.length ≤ 31 := by
              cases l with
              | nil => exact Nat.zero_le _
              | cons c r =>
                have : unsign (c :: r) = if c = 45 then r else c :: r := rfl
                rw [this] at hb'
                split at hb'
                · rw [List.length_cons]
                  omega
                · omega
            refine ⟨.str (S l), rfl, S l, n, rfl, hr2, by rw [S_len]; omega, n, rfl, hn.log, .str (S l), rfl, rfl, ?_⟩
            by_cases e : numI n = l
            · rw [text_S, e, decide_eq_true rfl]
              exact qt n hn e.symm
            · rw [decide_eq_false (fun z => by
                rw [text_S] at z
                injection z with z
                exact e (S_inj z))]
              refine qf fun i hi e2 => ?_
              rw [e2, numI_reads hi] at hr2
              injection hr2 with hr2
              rw [hr2] at e2
              exact e e2.symm
end
end El
namespace El
open PySem PySem.Spec PyProof.Rows L2 SX
section
variable {P : Program} {w : World} {K : PySem.W.Frag} {mg : Str → Option Value} {base : Heap}
abbrev s_read_numbers : Stmt := topS 12
abbrev N_read_numbers : List Str := ["text", "part", "sign", "words", "word"]
abbrev P_read_numbers : List Str := ["text", "part", "sign"]
theorem sc_read_numbers : FnScope N_read_numbers P_read_numbers (defScope s_read_numbers) := ⟨rfl, rfl, rfl, by decide +kernel, rfl, by decide +kernel, by decide +kernel⟩
def Sign (c : Nat) : Prop := c < 256 ∧ c ≠ 45 ∧ c ≠ 32 ∧ (c < 48 ∨ 57 < c)
def sp_read_numbers : Sp := fun vs H Q _ => ∃ (tx : V) (c : Nat) (ls : List Int), vs = [tx, .str (S (TL.joinL [c] (ls.map numI))), .str (S [c])] ∧ Sign c ∧ (∀ i ∈ ls, Sm i) ∧ ls ≠ [] ∧ ls.length ≤ 3000 ∧ ∀ H' u, Same H H' → H u = none → H' u = some (.lst (ls.map V.int)) → Q (.ref u) H'
theorem ok_read_numbers (A : At K mg "read_numbers" P_read_numbers s_read_numbers) (B : Bi mg) (D_is_number : Df P w K mg base 1 "is_number" P_is_number s_is_number sp_is_number) : Df P w K mg base 2 "read_numbers" P_read_numbers s_read_numbers sp_read_numbers := by
  refine A.df fun f fd F => F.ok sc_read_numbers (fun vs H Q E h => ?_) (fun cdv AA outer s H vs Q E hr h => ?_)
  · obtain ⟨_, _, _, rfl, _⟩ := h
    rfl
  · obtain ⟨tx, c, ls, rfl, hc, hs, hn, hl, q⟩ := h
    have nd := sc_read_numbers.nd
    refine ⟨_, (pss_cons (ps_set (i := 3) nd rfl (.inl rfl) (pe_bm PySem.F.plainAttrs_str PySem.F.slot_str_split PySem.F.type_str_split mt_split (pv 1) (pa_cons (pv 2) pa_nil)))
    (pss_cons (ps_if (pt_not (pt_val (pe_callB (cr_all rfl) (by rfl) B.all (by decide +kernel) (pa_cons (pe_lc (own := [("word", 4)]) (tt := tYes) rfl nd (pi_list (pv 3)) (blkOk_by (N := N_read_numbers) (sc := defScope s_read_numbers) (by decide +kernel)) (fun _ _ _ _ _ => (pg_name (i := 4) nd rfl (.inl rfl))) (fun _ _ _ _ _ => pts_nil) (fun _ _ _ _ _ => (pe_df D_is_number (hr.mono (by decide)) (by rfl) (pa_cons (pv 4) pa_nil)))) pa_nil)))) (pss_one ps_never) pss_nil)
    (pss_one (ps_ret (pe_lc (own := [("word", 4)]) (tt := tYes) rfl nd (pi_list (pv 3)) (blkOk_by (N := N_read_numbers) (sc := defScope s_read_numbers) (by decide +kernel)) (fun _ _ _ _ _ => (pg_name (i := 4) nd rfl (.inl rfl))) (fun _ _ _ _ _ => pts_nil) (fun _ _ _ _ _ => (pe_callTy call_int_str (by rfl) B.int_ (by decide +kernel) (pa_cons (pv 4) pa_nil)))))))), ?_⟩
    have hlen : (TL.joinL [c] (ls.map numI)).length ≤ 96000 := by
      refine Nat.le_trans (joinL_len [c] 31 _ fun w m => ?_) (by rw [List.length_map]; show ls.length * 32 ≤ _; omega)
      obtain ⟨i, mi, rfl⟩ := List.mem_map.mp m
      exact numI_len (hs i mi)
    refine ⟨.str (S (TL.joinL [c] (ls.map numI))), rfl, rfl, .str (S [c]), rfl, S (TL.joinL [c] (ls.map numI)), S [c], rfl, rfl, rfl, by rw [S_len]; exact ils (by omega), ?_⟩
    rw [split_S (by simp) (by simpa using hc.1), spl_join (by simpa using hn) fun w m => by
      obtain ⟨i, mi, rfl⟩ := List.mem_map.mp m
      exact numI_free i hc.2.1 hc.2.2.2]
    intro W nW
    have sW : Same H (upd H W (.lst (((ls.map numI).map S).map V.str))) := same_new nW
    have eW : (upd H W (.lst (((ls.map numI).map S).map V.str))) W = some (.lst (((ls.map numI).map S).map V.str)) := upd_same
    generalize upd H W (.lst (((ls.map numI).map S).map V.str)) = H1 at sW eW ⊢
    refine ⟨_, rfl, ?_⟩
    have hlenW : (((ls.map numI).map S).map V.str).length = ls.length := by rw [List.length_map, List.length_map, List.length_map]
    have gW : ∀ k x, (((ls.map numI).map S).map V.str)[k]? = some x → ∃ i, ls[k]? = some i ∧ x = V.str (S (numI i)) := fun k x h => by
      rw [List.getElem?_map, List.getElem?_map, List.getElem?_map] at h
      cases e : ls[k]? with
      | none => rw [e] at h; cases h
      | some i => rw [e] at h; exact ⟨i, e, (Option.some.inj h).symm⟩
    refine ⟨W, rfl, ⟨_, SqL.of eW⟩, fun D nD => ?_⟩
    refine lc_it (walk_list (xs := ((ls.map numI).map S).map V.str)) (fun k H2 => Same H1 H2 ∧ H2 D = some (.lst ((List.replicate k true).map V.bl))) ⟨same_new nD, upd_same⟩ (fun k H2 _ hW => SqL.of (hW.1 _ _ eW)) (fun k x H2 H3 hk hW hY => ?_) (fun H2 hW => ?_)
    · obtain ⟨sm, e⟩ := hW
      obtain ⟨rfl, hx⟩ := hY
      obtain ⟨i, ei, rfl⟩ := gW k x hx
      have hi := hs i (List.mem_of_getElem? ei)
      refine ⟨rfl, .str (S (numI i)), rfl, numI i, rfl, Nat.le_trans (numI_len hi) (by decide), fun j _ ej => ?_, fun z => absurd rfl (z i hi)⟩
      refine ⟨_, e, ils (by rw [List.length_map, List.length_replicate]; omega), Same.mut sm nD, ?_⟩
      rw [upd_same, List.replicate_succ', List.map_append]
      rfl
    · obtain ⟨sm, e⟩ := hW
      refine ⟨_, _, rfl, SqL.of e, _, rfl, ?_⟩
      have ha : ((List.replicate (((ls.map numI).map S).map V.str).length true).all id) = true := by
        rw [List.all_eq_true]
        intro b m
        exact (List.mem_replicate.mp m).2
      rw [ha]
      refine iteX rfl ?_
      refine ⟨.ref W, rfl, W, rfl, ⟨_, SqL.of (sm _ _ eW)⟩, fun D2 nD2 => ?_⟩
      have sW2 := sm _ _ eW
      refine lc_it (walk_list (xs := ((ls.map numI).map S).map V.str)) (fun k H3 => Same H2 H3 ∧ H3 D2 = some (.lst ((ls.take k).map V.int))) ⟨same_new nD2, upd_same⟩ (fun k H3 _ hW => SqL.of (hW.1 _ _ sW2)) (fun k x H3 H4 hk hW hY => ?_) (fun H3 hW => ?_)
      · obtain ⟨sm3, e3⟩ := hW
        obtain ⟨rfl, hx⟩ := hY
        obtain ⟨i, ei, rfl⟩ := gW k x hx
        have hi := hs i (List.mem_of_getElem? ei)
        have hl1 := numI_len hi
        refine ⟨rfl, .str (S (numI i)), rfl, S (numI i), i, rfl, numI_reads hi, by rw [S_len]; omega, ?_⟩
        refine ⟨_, e3, ils (by rw [List.length_map, List.length_take]; omega), Same.mut sm3 nD2, ?_⟩
        rw [upd_same, take_snoc ei, List.map_append]
        rfl
      · obtain ⟨sm3, e3⟩ := hW
        rw [hlenW, List.take_length] at e3
        refine q H3 D2 ((sW.trans sm).trans sm3) ?_ e3
        cases e2 : H D2 with
        | none => rfl
        | some o => exact absurd ((sW.trans sm) _ _ e2) (by rw [nD2]; simp)
end
end El
namespace El
open PySem PySem.Spec PyProof.Rows L2 SX
section
variable {P : Program} {w : World} {K : PySem.W.Frag} {mg : Str → Option Value} {base : Heap}
abbrev s_parts_of : Stmt := topS 11
abbrev N_parts_of : List Str := ["text", "between"]
abbrev P_parts_of : List Str := ["text", "between"]
theorem sc_parts_of : FnScope N_parts_of P_parts_of (defScope s_parts_of) := ⟨rfl, rfl, rfl, by decide +kernel, rfl, by decide +kernel, by decide +kernel⟩
def sp_parts_of : Sp := fun vs H Q _ => ∃ (l sep : List Nat) (ps : List (List Nat)), vs = [.str (S l), .str (S sep)] ∧ sep ≠ [] ∧ l.length ≤ 90000 ∧ ((l = noneL ∧ ps = []) ∨ (l ≠ noneL ∧ Txt.split (S l) (S sep) = ps.map S)) ∧ ∀ D, H D = none → Q (.ref D) (upd H D (.lst ((ps.map S).map V.str)))
theorem ok_parts_of (A : At K mg "parts_of" P_parts_of s_parts_of) (B : Bi mg) : Df P w K mg base 1 "parts_of" P_parts_of s_parts_of sp_parts_of := by
  refine A.df fun f fd F => F.ok sc_parts_of (fun vs H Q E h => ?_) (fun cdv AA outer s H vs Q E hr h => ?_)
  · obtain ⟨_, _, _, rfl, _⟩ := h
    rfl
  · obtain ⟨l, sep, ps, rfl, hsep, hl, hc, q⟩ := h
    have nd := sc_parts_of.nd
    refine ⟨_, (pss_cons (ps_if (pt_cmpR op_eq (pv 0) pe_str (nomark _)) (pss_one (ps_ret (pe_lst pa_nil))) pss_nil)
    (pss_one (ps_ret (pe_bm PySem.F.plainAttrs_str PySem.F.slot_str_split PySem.F.type_str_split mt_split (pv 0) (pa_cons (pv 1) pa_nil))))), ?_⟩
    refine ⟨.str (S l), rfl, rfl, ?_⟩
    rcases hc with ⟨rfl, rfl⟩ | ⟨hn, hs⟩
    · rw [none_S.symm, decide_eq_true rfl]
      refine ⟨_, rfl, iteTx rfl ?_⟩
      exact ⟨by decide, fun D nD => q D nD⟩
    · rw [decide_eq_false (fun z => by
        injection z with z
        exact hn (S_inj (z.trans none_S)))]
      refine ⟨_, rfl, iteX rfl ?_⟩
      refine ⟨.str (S l), rfl, rfl, .str (S sep), rfl, S l, S sep, rfl, rfl, ?_, by rw [S_len]; exact ils (by omega), ?_⟩
      · rw [S_len]
        cases sep with
        | nil => exact absurd rfl hsep
        | cons c r => rfl
      · rw [hs]
        exact q
end
end El
namespace El
open PySem PySem.Spec PyProof.Rows L2 SX
section
variable {P : Program} {w : World} {K : PySem.W.Frag} {mg : Str → Option Value} {base : Heap}
abbrev s_read_twos : Stmt := topS 10
abbrev N_read_twos : List Str := ["text", "sign", "told", "part", "numbers"]
abbrev P_read_twos : List Str := ["text", "sign"]
theorem sc_read_twos : FnScope N_read_twos P_read_twos (defScope s_read_twos) := ⟨rfl, rfl, rfl, by decide +kernel, rfl, by decide +kernel, by decide +kernel⟩
def sp_read_twos : Sp := fun vs H Q _ => ∃ (c : Nat) (gs : List (Int × Int)), vs = [.str (S (textOf c gs)), .str (S [c])] ∧ Sign c ∧ Sms gs ∧ gs.length ≤ 1000 ∧ ∀ H' u ts, Same H H' → GsAt H' (fun a => H a = none) u ts gs → u ∉ ts → Q (.ref u) H'
theorem ok_read_twos (A : At K mg "read_twos" P_read_twos s_read_twos) (B : Bi mg) (D_parts_of : Df P w K mg base 1 "parts_of" P_parts_of s_parts_of sp_parts_of) (D_read_numbers : Df P w K mg base 2 "read_numbers" P_read_numbers s_read_numbers sp_read_numbers) : Df P w K mg base 3 "read_twos" P_read_twos s_read_twos sp_read_twos := by
  refine A.df fun f fd F => F.ok sc_read_twos (fun vs H Q E h => ?_) (fun cdv AA outer s H vs Q E hr h => ?_)
  · obtain ⟨_, _, rfl, _⟩ := h
    rfl
  · obtain ⟨c, gs, rfl, hc, hs, hl, q⟩ := h
    have nd := sc_read_twos.nd
    refine ⟨_, (pss_cons (ps_set (i := 2) nd rfl (.inl rfl) (pe_lst pa_nil))
    (pss_cons (ps_for PassesOwn.never rfl (pi_list (pe_df D_parts_of (hr.mono (by decide)) (by rfl) (pa_cons (pv 0) (pa_cons pe_str pa_nil)))) (pg_name (i := 3) nd rfl (.inl rfl)) (pss_cons (ps_set (i := 4) nd rfl (.inl rfl) (pe_df D_read_numbers (hr.mono (by decide)) (by rfl) (pa_cons (pv 0) (pa_cons (pv 3) (pa_cons (pv 1) pa_nil))))) (pss_cons (ps_if (pt_cmpR op_ne (pe_callB call_len_seq (by rfl) B.len PySem.boot_len (pa_cons (pv 4) pa_nil)) pe_int (nomark _)) (pss_one ps_never) pss_nil) (pss_one (ps_expr (pe_bm PySem.F.plainAttrs_list PySem.F.slot_list_append PySem.F.type_list_append mt_append (pv 2) (pa_cons (pe_tup (pa_cons (pe_ix ix_list (pv 4) pe_int (fun _ _ => rfl)) (pa_cons (pe_ix ix_list (pv 4) pe_int (fun _ _ => rfl)) pa_nil))) pa_nil)))))))
    (pss_one (ps_ret (pv 2))))), ?_⟩
    have hlen := textOf_len (c := c) hs
    refine ⟨by decide, fun T nT => ?_⟩
    have sT : Same H (upd H T (.lst [])) := same_new nT
    have eT : (upd H T (.lst [])) T = some (.lst []) := upd_same
    generalize upd H T (.lst []) = H1 at sT eT ⊢
    refine ⟨.str (S (textOf c gs)), rfl, textOf c gs, [32], gs.map (twoW c), by rw [← one_S.2.2.1]; rfl, by decide, by omega, ?_, fun W nW => ?_⟩
    · by_cases hn : gs = []
      · subst hn
        exact .inl ⟨rfl, rfl⟩
      · exact .inr ⟨text_none hn, split_text hc.2.2.1 hn⟩
    have nT1 : H1 T ≠ none := by rw [eT]; simp
    have TW : T ≠ W := fun z => nT1 (by rw [z]; exact nW)
    have nW0 : H W = none := by
      cases e2 : H W with
      | none => rfl
      | some o => exact absurd (sT _ _ e2) (by rw [nW]; simp)
    have sW : Same H (upd H1 W (.lst (((gs.map (twoW c)).map S).map V.str))) := sT.trans (same_new nW)
    have eW : (upd H1 W (.lst (((gs.map (twoW c)).map S).map V.str))) W = some (.lst (((gs.map (twoW c)).map S).map V.str)) := upd_same
    have eT2 : (upd H1 W (.lst (((gs.map (twoW c)).map S).map V.str))) T = some (.lst []) := by rw [upd_ne TW]; exact eT
    generalize upd H1 W (.lst (((gs.map (twoW c)).map S).map V.str)) = H2 at sW eW eT2 ⊢
    have hlenW : (((gs.map (twoW c)).map S).map V.str).length = gs.length := by rw [List.length_map, List.length_map, List.length_map]
    have gW : ∀ k x, (((gs.map (twoW c)).map S).map V.str)[k]? = some x → ∃ g, gs[k]? = some g ∧ x = V.str (S (twoW c g)) := fun k x h => by
      rw [List.getElem?_map, List.getElem?_map, List.getElem?_map] at h
      cases e : gs[k]? with
      | none => rw [e] at h; cases h
      | some g => rw [e] at h; exact ⟨g, e, (Option.some.inj h).symm⟩
    refine ⟨W, rfl, ⟨_, SqL.of eW⟩, ?_⟩
    refine for_it (walk_list (xs := ((gs.map (twoW c)).map S).map V.str)) (fun k σ H3 => ∃ y3 y4 ts, σ = [some (.str (S (textOf c gs))), some (.str (S [c])), some (.ref T), y3, y4] ∧ Same H H3 ∧ H3 W = some (.lst (((gs.map (twoW c)).map S).map V.str)) ∧ GsAt H3 (fun a => H a = none) T ts (gs.take k) ∧ T ∉ ts) ⟨none, none, [], rfl, sW, eW, ⟨eT2, nT, rfl, fun i t g e _ => by simp at e, fun t m => by simp at m⟩, by simp⟩ (fun k σ H3 _ hW => ?_) (fun k x σ H3 H4 hk hW hY => ?_) (fun σ H3 hW => ?_)
    · obtain ⟨_, _, _, _, _, e, _⟩ := hW
      exact SqL.of e
    · obtain ⟨y3, y4, ts, rfl, sm, e, hG, hni⟩ := hW
      obtain ⟨rfl, hx⟩ := hY
      obtain ⟨g, eg, rfl⟩ := gW k x hx
      have hg := hs g (List.mem_of_getElem? eg)
      refine ⟨_, rfl, _, rfl, _, rfl, _, c, [g.1, g.2], rfl, hc, ?_, by simp, by show 2 ≤ 3000; omega, fun H5 u s5 nu eu => ?_⟩
      · intro i mi
        rcases List.mem_cons.mp mi with rfl | mi
        · exact hg.1
        · rw [List.mem_singleton.mp mi]
          exact hg.2
      · have sm5 := sm.trans s5
        have hG5 := hG.same s5
        refine ⟨.ref u, rfl, u, [.int g.1, .int g.2], rfl, .inl (SqL.of eu), rfl, _, rfl, iteX rfl ?_⟩
        refine ⟨.ref T, rfl, .inl ⟨rfl, _, hG5.seq⟩, .ref u, rfl, u, [.int g.1, .int g.2], 0, .int g.1, rfl, rfl, SqL.of eu, rfl, .ref u, rfl, u, [.int g.1, .int g.2], 1, .int g.2, rfl, rfl, SqL.of eu, rfl, (by show 2 ≤ sizeLine; decide), fun v nv => ?_⟩
        have nv0 : H v = none := by
          cases e2 : H v with
          | none => rfl
          | some o => exact absurd (sm5 _ _ e2) (by rw [nv]; simp)
        have hG6 := hG5.same (same_new (o := .tup [.int g.1, .int g.2]) nv)
        refine ⟨T, _, _, rfl, rfl, hG6.top, ils (by rw [List.length_map, hG.len, List.length_take]; omega), ?_⟩
        have hP := hG6.push hni (q := v) (g := g) upd_same nv0
        refine ⟨_, _, ts ++ [v], rfl, Same.mut (Same.mut sm5 nv0) nT, ?_, by rw [take_snoc eg]; exact hP, ?_⟩
        · rw [upd_ne (Ne.symm TW), upd_ne (fun z => by
            have := s5 _ _ e
            rw [z, nv] at this
            cases this)]
          exact s5 _ _ e
        · intro m
          rcases List.mem_append.mp m with m | m
          · exact hni m
          · rw [List.mem_singleton.mp m] at hG5
            have z := hG5.top
            rw [nv] at z
            cases z
    · obtain ⟨y3, y4, ts, rfl, sm, e, hG, hni⟩ := hW
      rw [hlenW, List.take_length] at hG
      exact ⟨_, rfl, q H3 T ts sm hG hni⟩
end
end El
namespace El
open PySem PySem.Spec PyProof.Rows L2 SX
section
variable {P : Program} {w : World} {K : PySem.W.Frag} {mg : Str → Option Value} {base : Heap}
abbrev s_read_crowds : Stmt := topS 9
abbrev N_read_crowds : List Str := ["text", "crowds", "count", "patience"]
abbrev P_read_crowds : List Str := ["text"]
theorem sc_read_crowds : FnScope N_read_crowds P_read_crowds (defScope s_read_crowds) := ⟨rfl, rfl, rfl, by decide +kernel, rfl, by decide +kernel, by decide +kernel⟩
def sp_read_crowds : Sp := fun vs H Q _ => ∃ (gs : List (Int × Int)), vs = [.str (S (textOf 120 gs))] ∧ Crw gs ∧ Sms gs ∧ gs.length ≤ 1000 ∧ ∀ H' u ts, Same H H' → GsAt H' (fun a => H a = none) u ts gs → u ∉ ts → Q (.ref u) H'
theorem ok_read_crowds (A : At K mg "read_crowds" P_read_crowds s_read_crowds) (B : Bi mg) (D_read_twos : Df P w K mg base 3 "read_twos" P_read_twos s_read_twos sp_read_twos) (D_is_crowd : Df P w K mg base 1 "is_crowd" P_is_crowd s_is_crowd sp_is_crowd) : Df P w K mg base 4 "read_crowds" P_read_crowds s_read_crowds sp_read_crowds := by
  refine A.df fun f fd F => F.ok sc_read_crowds (fun vs H Q E h => ?_) (fun cdv AA outer s H vs Q E hr h => ?_)
  · obtain ⟨_, rfl, _⟩ := h
    rfl
  · obtain ⟨gs, rfl, hC, hs, hl, q⟩ := h
    have nd := sc_read_crowds.nd
    refine ⟨_, (pss_cons (ps_set (i := 1) nd rfl (.inl rfl) (pe_df D_read_twos (hr.mono (by decide)) (by rfl) (pa_cons (pv 0) (pa_cons pe_str pa_nil))))
    (pss_cons (ps_if (pt_not (pt_val (pe_callB (cr_all rfl) (by rfl) B.all (by decide +kernel) (pa_cons (pe_lc (own := [("count", 2), ("patience", 3)]) (tt := tYes) rfl nd (pi_list (pv 1)) (blkOk_by (N := N_read_crowds) (sc := defScope s_read_crowds) (by decide +kernel)) (fun _ _ _ _ _ => (pgTupK K 2 (by rfl) (pgs_cons (pg_name (i := 2) nd rfl (.inl rfl)) (pgs_cons (pg_name (i := 3) nd rfl (.inl rfl)) pgs_nil)))) (fun _ _ _ _ _ => pts_nil) (fun _ _ _ _ _ => (pe_df D_is_crowd (hr.mono (by decide)) (by rfl) (pa_cons (pv 2) (pa_cons (pv 3) pa_nil))))) pa_nil)))) (pss_one ps_never) pss_nil)
    (pss_one (ps_ret (pv 1))))), ?_⟩
    refine ⟨.str (S (textOf 120 gs)), rfl, 120, gs, by rw [← one_S.1]; rfl, ⟨by decide, by decide, by decide, .inr (by decide)⟩, hs, hl, fun H1 u ts sm hG hni => ?_⟩
    refine ⟨.ref u, rfl, u, rfl, ⟨_, hG.seq⟩, fun D nD => ?_⟩
    refine lc_it (walk_list (xs := ts.map V.ref)) (fun k H2 => Same H1 H2 ∧ H2 D = some (.lst ((List.replicate k true).map V.bl))) ⟨same_new nD, upd_same⟩ (fun k H2 _ hW => (hG.same hW.1).seq) (fun k x H2 H3 hk hW hY => ?_) (fun H2 hW => ?_)
    · obtain ⟨sm2, e⟩ := hW
      obtain ⟨rfl, hx⟩ := hY
      obtain ⟨t, g, rfl, eg, et⟩ := (hG.same sm2).get hx
      have hg := hC g (List.mem_of_getElem? eg)
      refine ⟨t, _, rfl, SqT.of et, rfl, .int g.1, _, rfl, .int g.2, _, rfl, rfl, rfl, .int g.1, rfl, .int g.2, rfl, g.1, g.2, rfl, ?_⟩
      rw [decide_eq_true hg.1, decide_eq_true hg.2]
      refine ⟨_, e, ils (by rw [List.length_map, List.length_replicate]; rw [List.length_map, hG.len] at hk; omega), Same.mut sm2 nD, ?_⟩
      rw [upd_same, List.replicate_succ', List.map_append]
      rfl
    · obtain ⟨sm2, e⟩ := hW
      refine ⟨_, _, rfl, SqL.of e, _, rfl, ?_⟩
      have ha : ((List.replicate (ts.map V.ref).length true).all id) = true := by
        rw [List.all_eq_true]
        intro b m
        exact (List.mem_replicate.mp m).2
      rw [ha]
      refine iteX rfl ?_
      exact ⟨_, rfl, q H2 u ts (sm.trans sm2) (hG.same sm2) hni⟩
end
end El
namespace El
open PySem PySem.Spec PyProof.Rows L2
/-- two values that say the same, at most n deep -/
def Sca : V → Bool
  | .non => true
  | .bl _ => true
  | .int _ => true
  | .str _ => true
  | _ => false
def Alk (H : Hp) : Nat → V → V → Prop
  | 0, x, y => Sca x = true ∧ x = y
  | n + 1, x, y => (Sca x = true ∧ x = y) ∨ ∃ (a b : Addr) (xs ys : List V), x = .ref a ∧ y = .ref b ∧ ((H a = some (.lst xs) ∧ H b = some (.lst ys)) ∨ (H a = some (.tup xs) ∧ H b = some (.tup ys))) ∧ xs.length = ys.length ∧ ys.length ≤ 100000 ∧
      ∀ (i : Nat) (u v : V), xs[i]? = some u → ys[i]? = some v → Alk H n u v
theorem Alk.keep {H H' : Hp} (k : Same H H') : ∀ {n : Nat} {x y : V}, Alk H n x y → Alk H' n x y
  | 0, _, _, h => h
  | n + 1, _, _, h => by
    rcases h with h | ⟨a, b, xs, ys, rfl, rfl, h1, h2, h3, h4⟩
    · exact .inl h
    · refine .inr ⟨a, b, xs, ys, rfl, rfl, ?_, h2, h3, fun i u v e f => Alk.keep k (h4 i u v e f)⟩
      rcases h1 with ⟨h1, h2⟩ | ⟨h1, h2⟩
      · exact .inl ⟨k _ _ h1, k _ _ h2⟩
      · exact .inr ⟨k _ _ h1, k _ _ h2⟩
theorem Alk.up {H : Hp} : ∀ {n : Nat} {x y : V}, Alk H n x y → Alk H (n + 1) x y
  | 0, _, _, h => .inl h
  | n + 1, _, _, h => by
    rcases h with h | ⟨a, b, xs, ys, rfl, rfl, h1, h2, h3, h4⟩
    · exact .inl h
    · exact .inr ⟨a, b, xs, ys, rfl, rfl, h1, h2, h3, fun i u v e f => Alk.up (h4 i u v e f)⟩
theorem Alk.int {H : Hp} {n : Nat} {i : Int} : Alk H n (.int i) (.int i) := by
  cases n with
  | zero => exact ⟨rfl, rfl⟩
  | succ n => exact .inl ⟨rfl, rfl⟩
theorem Alk.ints {H : Hp} {n : Nat} {a b : Addr} {ns : List Int} (h1 : H a = some (.lst (ns.map V.int))) (h2 : H b = some (.lst (ns.map V.int))) (hl : ns.length ≤ 100000) : Alk H (n + 1) (.ref a) (.ref b) :=
  .inr ⟨a, b, _, _, rfl, rfl, .inl ⟨h1, h2⟩, rfl, by rw [List.length_map]; exact hl, fun i u v e f => by
    obtain rfl : u = v := Option.some.inj (e.symm.trans f)
    obtain ⟨n, _, rfl⟩ := ints_at e
    exact Alk.int⟩
theorem Alk.rows {H : Hp} {n : Nat} {B B' : Addr → Prop} {a b : Addr} {ts us : List Addr} {rs : List (List Int)} (h1 : RmsAt H B a ts rs) (h2 : RmsAt H B' b us rs) (hl : rs.length ≤ 100000) (hr : ∀ r ∈ rs, r.length ≤ 100000) : Alk H (n + 2) (.ref a) (.ref b) :=
  .inr ⟨a, b, _, _, rfl, rfl, .inl ⟨h1.top, h2.top⟩, by rw [List.length_map, List.length_map, h1.len, h2.len], by rw [List.length_map, h2.len]; exact hl, fun i u v e f => by
    obtain ⟨t, r, rfl, _, er, et⟩ := h1.get e
    obtain ⟨t', r', rfl, _, er', et'⟩ := h2.get f
    obtain rfl : r = r' := Option.some.inj (er.symm.trans er')
    exact Alk.ints et et' (hr r (List.mem_of_getElem? er))⟩
theorem Alk.two {H : Hp} {n : Nat} {a b : Addr} {x1 x2 y1 y2 : V} (h1 : H a = some (.lst [x1, x2])) (h2 : H b = some (.lst [y1, y2])) (k1 : Alk H n x1 y1) (k2 : Alk H n x2 y2) : Alk H (n + 1) (.ref a) (.ref b) :=
  .inr ⟨a, b, _, _, rfl, rfl, .inl ⟨h1, h2⟩, rfl, by show 2 ≤ 100000; decide, fun i u v e f => by
    match i, e, f with
    | 0, e, f =>
      obtain rfl := Option.some.inj e
      obtain rfl := Option.some.inj f
      exact k1
    | 1, e, f =>
      obtain rfl := Option.some.inj e
      obtain rfl := Option.some.inj f
      exact k2
    | i + 2, e, f => simp at e⟩
end El
namespace El
open PySem PySem.Spec PyProof.Rows L2
section
variable {P : Program} {w : World} {K : PySem.W.Frag} {mg : Str → Option Value} {base : Heap}
abbrev s__law_alike : Stmt := topS 17
abbrev N__law_alike : List Str := ["found", "due", "k"]
abbrev P__law_alike : List Str := ["found", "due"]
theorem sc__law_alike : FnScope N__law_alike P__law_alike (defScope s__law_alike) := ⟨rfl, rfl, rfl, by decide +kernel, rfl, by decide +kernel, by decide +kernel⟩
def sp__law_alike (n : Nat) : Sp := fun vs H Q _ => ∃ x y : V, vs = [x, y] ∧ Alk H n x y ∧ ∀ H', Same H H' → Q (.bl true) H'
/-- the rest behind the lengths, for what is a list or a tuple -/
theorem ok__law_alike (A : At K mg "_law_alike" P__law_alike s__law_alike) (B : Bi mg) : ∀ n : Nat, Df P w K mg base (n + 1) "_law_alike" P__law_alike s__law_alike (sp__law_alike n) := by
  intro n
  induction n with
  | zero =>
    refine A.df fun f fd F => F.ok sc__law_alike (fun vs H Q E h => ?_) (fun cdv AA outer s H vs Q E hr h => ?_)
    · obtain ⟨_, _, rfl, _⟩ := h
      rfl
    · obtain ⟨x, y, rfl, hA, q⟩ := h
      have nd := sc__law_alike.nd
      refine ⟨_, (pss_cons (ps_if (pt_cmpR op_isN (pv 1) pe_non (nomark _)) (pss_one (ps_ret (pe_cmpR op_isN (pv 0) pe_non (nomark _)))) pss_nil)
    (pss_cons (ps_if (pt_val (pe_callB call_isi (by rfl) B.isinstance (by decide +kernel) (pa_cons (pv 1) (pa_cons (pe_bltn (by rfl) B.bool_ boot_bool (relTy _)) pa_nil)))) (pss_one (ps_ret (pe_and (pe_callB call_isi (by rfl) B.isinstance (by decide +kernel) (pa_cons (pv 0) (pa_cons (pe_bltn (by rfl) B.bool_ boot_bool (relTy _)) pa_nil))) (pe_one (pe_cmpR op_eq (pv 0) (pv 1) (nomark _)))))) pss_nil)
    (pss_cons (ps_if (pt_val (pe_callB call_isi (by rfl) B.isinstance (by decide +kernel) (pa_cons (pv 1) (pa_cons (pe_bltn (by rfl) B.int_ boot_int (relTy _)) pa_nil)))) (pss_one (ps_ret (pe_and (pe_callB call_isi (by rfl) B.isinstance (by decide +kernel) (pa_cons (pv 0) (pa_cons (pe_bltn (by rfl) B.int_ boot_int (relTy _)) pa_nil))) (pe_and (pe_not (pe_callB call_isi (by rfl) B.isinstance (by decide +kernel) (pa_cons (pv 0) (pa_cons (pe_bltn (by rfl) B.bool_ boot_bool (relTy _)) pa_nil)))) (pe_one (pe_cmpR op_eq (pv 0) (pv 1) (nomark _))))))) pss_nil)
    (pss_cons (ps_if (pt_val (pe_callB call_isi (by rfl) B.isinstance (by decide +kernel) (pa_cons (pv 1) (pa_cons (pe_bltn (by rfl) B.str_ boot_str (relTy _)) pa_nil)))) (pss_one (ps_ret (pe_and (pe_callB call_isi (by rfl) B.isinstance (by decide +kernel) (pa_cons (pv 0) (pa_cons (pe_bltn (by rfl) B.str_ boot_str (relTy _)) pa_nil))) (pe_one (pe_cmpR op_eq (pv 0) (pv 1) (nomark _)))))) pss_nil)
    (pss_cons ps_never (pss_cons ps_never (pss_cons ps_never (pss_one ps_never)))))))), ?_⟩
      obtain ⟨hs, rfl⟩ := hA
      have kit : ∀ {a b : String} {r : Bool}, kitB a b = some r → PySem.W.kitOne K (.type a) (.type b) = some r := fun h => kit_ty h
      refine ⟨x, rfl, rfl, _, rfl, ite2 (fun e => ?_) (fun e => ?_)⟩
      · exact ⟨x, rfl, rfl, by rw [e]; exact q H (Same.refl _)⟩
      · cases x with
        | non => exact absurd rfl e
        | bl b =>
          refine ⟨.bl b, rfl, _, _, _, _, _, rfl, .ty _, .base (.bl b), kit_ty (by decide +kernel), _, rfl, iteT ?_⟩
          refine ⟨.bl b, rfl, _, _, _, _, _, rfl, .ty _, .base (.bl b), kit_ty (by decide +kernel), _, rfl, iteT ?_⟩
          exact ⟨.bl b, rfl, .bl b, rfl, rfl, by rw [decide_eq_true rfl]; exact q H (Same.refl _)⟩
        | int i =>
          refine ⟨.int i, rfl, _, _, _, _, _, rfl, .ty _, .base (.int i), kit_ty (by decide +kernel), _, rfl, iteF ?_⟩
          refine ⟨.int i, rfl, _, _, _, _, _, rfl, .ty _, .base (.int i), kit_ty (by decide +kernel), _, rfl, iteT ?_⟩
          refine ⟨.int i, rfl, _, _, _, _, _, rfl, .ty _, .base (.int i), kit_ty (by decide +kernel), _, rfl, iteT ?_⟩
          refine ⟨.int i, rfl, _, _, _, _, _, rfl, .ty _, .base (.int i), (show PySem.W.kitOne K (.type "int") (.type "bool") = some false from kit_ty (by decide +kernel)), _, rfl, _, rfl, iteT ?_⟩
          exact ⟨.int i, rfl, .int i, rfl, rfl, by rw [decide_eq_true rfl]; exact q H (Same.refl _)⟩
        | str z =>
          refine ⟨.str z, rfl, _, _, _, _, _, rfl, .ty _, .base (.str z), kit_ty (by decide +kernel), _, rfl, iteF ?_⟩
          refine ⟨.str z, rfl, _, _, _, _, _, rfl, .ty _, .base (.str z), kit_ty (by decide +kernel), _, rfl, iteF ?_⟩
          refine ⟨.str z, rfl, _, _, _, _, _, rfl, .ty _, .base (.str z), kit_ty (by decide +kernel), _, rfl, iteT ?_⟩
          refine ⟨.str z, rfl, _, _, _, _, _, rfl, .ty _, .base (.str z), kit_ty (by decide +kernel), _, rfl, iteT ?_⟩
          exact ⟨.str z, rfl, .str z, rfl, rfl, by rw [decide_eq_true rfl]; exact q H (Same.refl _)⟩
        | byt _ => cases hs
        | flt _ => cases hs
        | ref _ => cases hs
        | ty _ => cases hs
  | succ n ih =>
    obtain ⟨f, fd, F, m, G, b⟩ := ih.ex
    refine ⟨f, fd, F, m, ?_, b⟩
    have G2 : FnOk P w K mg base CX0 (n + 1 + 1) f fd P__law_alike (fun vs H Q _ => ∃ (a b : Addr) (xs ys : List V), vs = [.ref a, .ref b] ∧ ((H a = some (.lst xs) ∧ H b = some (.lst ys)) ∨ (H a = some (.tup xs) ∧ H b = some (.tup ys))) ∧ xs.length = ys.length ∧ ys.length ≤ 100000 ∧
        (∀ (i : Nat) (u v : V), xs[i]? = some u → ys[i]? = some v → Alk H n u v) ∧ ∀ H', Same H H' → Q (.bl true) H') := by
      refine F.ok sc__law_alike (fun vs H Q E h => ?_) (fun cdv AA outer s H vs Q E hr h => ?_)
      · obtain ⟨_, _, _, _, rfl, _⟩ := h
        rfl
      · obtain ⟨a, b', xs, ys, rfl, hab, hl, hz, hA, q⟩ := h
        have nd := sc__law_alike.nd
        have D__law_alike := ih
        refine ⟨_, (pss_cons (ps_if (pt_cmpR op_isN (pv 1) pe_non (nomark _)) (pss_one (ps_ret (pe_cmpR op_isN (pv 0) pe_non (nomark _)))) pss_nil)
    (pss_cons (ps_if (pt_val (pe_callB call_isi (by rfl) B.isinstance (by decide +kernel) (pa_cons (pv 1) (pa_cons (pe_bltn (by rfl) B.bool_ boot_bool (relTy _)) pa_nil)))) (pss_one (ps_ret (pe_and (pe_callB call_isi (by rfl) B.isinstance (by decide +kernel) (pa_cons (pv 0) (pa_cons (pe_bltn (by rfl) B.bool_ boot_bool (relTy _)) pa_nil))) (pe_one (pe_cmpR op_eq (pv 0) (pv 1) (nomark _)))))) pss_nil)
    (pss_cons (ps_if (pt_val (pe_callB call_isi (by rfl) B.isinstance (by decide +kernel) (pa_cons (pv 1) (pa_cons (pe_bltn (by rfl) B.int_ boot_int (relTy _)) pa_nil)))) (pss_one (ps_ret (pe_and (pe_callB call_isi (by rfl) B.isinstance (by decide +kernel) (pa_cons (pv 0) (pa_cons (pe_bltn (by rfl) B.int_ boot_int (relTy _)) pa_nil))) (pe_and (pe_not (pe_callB call_isi (by rfl) B.isinstance (by decide +kernel) (pa_cons (pv 0) (pa_cons (pe_bltn (by rfl) B.bool_ boot_bool (relTy _)) pa_nil)))) (pe_one (pe_cmpR op_eq (pv 0) (pv 1) (nomark _))))))) pss_nil)
    (pss_cons (ps_if (pt_val (pe_callB call_isi (by rfl) B.isinstance (by decide +kernel) (pa_cons (pv 1) (pa_cons (pe_bltn (by rfl) B.str_ boot_str (relTy _)) pa_nil)))) (pss_one (ps_ret (pe_and (pe_callB call_isi (by rfl) B.isinstance (by decide +kernel) (pa_cons (pv 0) (pa_cons (pe_bltn (by rfl) B.str_ boot_str (relTy _)) pa_nil))) (pe_one (pe_cmpR op_eq (pv 0) (pv 1) (nomark _)))))) pss_nil)
    (pss_cons (ps_if (PW.pt (pw_or (pt_cmpR op_ne (pe_callB call_isi (by rfl) B.isinstance (by decide +kernel) (pa_cons (pv 0) (pa_cons (pe_bltn (by rfl) B.list_ boot_list (relTy _)) pa_nil))) (pe_callB call_isi (by rfl) B.isinstance (by decide +kernel) (pa_cons (pv 1) (pa_cons (pe_bltn (by rfl) B.list_ boot_list (relTy _)) pa_nil))) (nomark _)) (pw_or1 (pt_cmpR op_ne (pe_callB call_isi (by rfl) B.isinstance (by decide +kernel) (pa_cons (pv 0) (pa_cons (pe_bltn (by rfl) B.tuple_ boot_tuple (relTy _)) pa_nil))) (pe_callB call_isi (by rfl) B.isinstance (by decide +kernel) (pa_cons (pv 1) (pa_cons (pe_bltn (by rfl) B.tuple_ boot_tuple (relTy _)) pa_nil))) (nomark _))))) (pss_one (ps_ret pe_bl)) pss_nil)
    (pss_cons (ps_if (pt_cmpR op_ne (pe_callB call_len_seq (by rfl) B.len PySem.boot_len (pa_cons (pv 0) pa_nil)) (pe_callB call_len_seq (by rfl) B.len PySem.boot_len (pa_cons (pv 1) pa_nil)) (nomark _)) (pss_one (ps_ret pe_bl)) pss_nil)
    (pss_cons (ps_for PassesOwn.never rfl (pi_range1 (by rfl) B.range (pa_cons (pe_callB call_len_seq (by rfl) B.len PySem.boot_len (pa_cons (pv 1) pa_nil)) pa_nil)) (pg_name (i := 2) nd rfl (.inl rfl)) (pss_one (ps_if (pt_not (pt_val (pe_df D__law_alike hr (by rfl) (pa_cons (pe_ix ix_seq (pv 0) (pv 2) (fun _ _ => rfl)) (pa_cons (pe_ix ix_seq (pv 1) (pv 2) (fun _ _ => rfl)) pa_nil))))) (pss_one (ps_ret pe_bl)) pss_nil)))
    (pss_one (ps_ret pe_bl))))))))), ?_⟩
        have sq : ∀ {H' : Hp}, Same H H' → (SqL K H' a xs ∨ SqT K H' a xs) ∧ (SqL K H' b' ys ∨ SqT K H' b' ys) := fun k => by
          rcases hab with ⟨h1, h2⟩ | ⟨h1, h2⟩
          · exact ⟨.inl (SqL.of (k _ _ h1)), .inl (SqL.of (k _ _ h2))⟩
          · exact ⟨.inr (SqT.of (k _ _ h1)), .inr (SqT.of (k _ _ h2))⟩
        -- none of the flat kinds
        have ty : ∃ T : String, TyX K H (.ref a) (.type T) ∧ TyX K H (.ref b') (.type T) ∧ (T = "list" ∨ T = "tuple") := by
          rcases hab with ⟨h1, h2⟩ | ⟨h1, h2⟩
          · exact ⟨"list", .base (.lst h1), .base (.lst h2), .inl rfl⟩
          · exact ⟨"tuple", .base (.tup h1), .base (.tup h2), .inr rfl⟩
        obtain ⟨T, t1, t2, hT⟩ := ty
        have nb : PySem.W.kitOne K (.type T) (.type "bool") = some false := by
          rcases hT with rfl | rfl
          · exact kit_ty (by decide +kernel)
          · exact kit_ty (by decide +kernel)
        have ni : PySem.W.kitOne K (.type T) (.type "int") = some false := by
          rcases hT with rfl | rfl
          · exact kit_ty (by decide +kernel)
          · exact kit_ty (by decide +kernel)
        have ns : PySem.W.kitOne K (.type T) (.type "str") = some false := by
          rcases hT with rfl | rfl
          · exact kit_ty (by decide +kernel)
          · exact kit_ty (by decide +kernel)
        obtain ⟨kl, hkl⟩ : ∃ k, PySem.W.kitOne K (.type T) (.type "list") = some k := by
          rcases hT with rfl | rfl
          · exact ⟨true, kit_ty (by decide +kernel)⟩
          · exact ⟨false, kit_ty (by decide +kernel)⟩
        obtain ⟨kt, hkt⟩ : ∃ k, PySem.W.kitOne K (.type T) (.type "tuple") = some k := by
          rcases hT with rfl | rfl
          · exact ⟨false, kit_ty (by decide +kernel)⟩
          · exact ⟨true, kit_ty (by decide +kernel)⟩
        refine ⟨.ref b', rfl, rfl, _, rfl, iteF ?_⟩
        refine ⟨.ref b', rfl, _, _, _, _, _, rfl, .ty _, t2, nb, _, rfl, iteF ?_⟩
        refine ⟨.ref b', rfl, _, _, _, _, _, rfl, .ty _, t2, ni, _, rfl, iteF ?_⟩
        refine ⟨.ref b', rfl, _, _, _, _, _, rfl, .ty _, t2, ns, _, rfl, iteF ?_⟩
        refine ⟨.ref a, rfl, _, _, _, _, _, rfl, .ty _, t1, hkl, .ref b', rfl, _, _, _, _, _, rfl, .ty _, t2, hkl, rfl, _, rfl, ?_⟩
        rw [decide_eq_true rfl]
        refine iteF ?_
        refine ⟨.ref a, rfl, _, _, _, _, _, rfl, .ty _, t1, hkt, .ref b', rfl, _, _, _, _, _, rfl, .ty _, t2, hkt, rfl, _, rfl, ?_⟩
        rw [decide_eq_true rfl]
        refine iteF ?_
        -- the lengths
        refine ⟨.ref a, rfl, a, _, rfl, (sq (Same.refl _)).1, .ref b', rfl, b', _, rfl, (sq (Same.refl _)).2, rfl, _, rfl, ?_⟩
        rw [hl, decide_eq_true rfl]
        refine iteF ?_
        -- the loop
        refine ⟨.ref b', rfl, b', _, rfl, (sq (Same.refl _)).2, _, rfl, by omega, by omega, ?_⟩
        refine for_it (walk_range (n := ys.length)) (fun i σ H2 => ∃ y2, σ = [some (.ref a), some (.ref b'), y2] ∧ Same H H2) ⟨none, rfl, Same.refl _⟩ (fun _ _ _ _ _ => trivial) (fun i x σ H2 H3 hi hW hY => ?_) (fun σ H2 hW => ?_)
        · obtain ⟨y2, rfl, sm⟩ := hW
          obtain ⟨rfl, rfl⟩ := hY
          obtain ⟨v, ev⟩ := at_some hi
          obtain ⟨u, eu⟩ := at_some (show i < xs.length by omega)
          have e0 : (0 : Int) + (i : Int) = (i : Int) := by omega
          have ix : ∀ {p : Addr} {zs : List V} {z : V} {Q' : VK}, (SqL K H3 p zs ∨ SqT K H3 p zs) → zs[i]? = some z → Q' z H3 → rIxL K (.ref p) (.int (0 + (i : Int))) H3 Q' ∨ rIxT K (.ref p) (.int (0 + (i : Int))) H3 Q' ∨ rIxS (.ref p) (.int (0 + (i : Int))) H3 Q' := fun {p zs z Q'} h e q => by
            rw [e0]
            rcases h with h | h
            · exact .inl ⟨p, zs, _, z, rfl, rfl, h, atI_nat e, q⟩
            · exact .inr (.inl ⟨p, zs, _, z, rfl, rfl, h, atI_nat e, q⟩)
          refine ⟨.ref a, rfl, _, rfl, ix (sq sm).1 eu ⟨.ref b', rfl, _, rfl, ix (sq sm).2 ev ⟨u, v, rfl, (hA i u v eu ev).keep sm, fun H4 s4 => ⟨_, rfl, iteF ⟨_, rfl, Same.trans sm s4⟩⟩⟩⟩⟩
        · obtain ⟨y2, rfl, sm⟩ := hW
          exact q H2 sm
    refine (FnOk.or (G.mono (Nat.le_succ _)) G2).imp (fun vs H Q E h => ?_)
    obtain ⟨x, y, rfl, hA, q⟩ := h
    rcases hA with ⟨h1, rfl⟩ | ⟨a, b', xs, ys, rfl, rfl, h1, h2, h3, h4⟩
    · exact .inl ⟨x, x, rfl, by cases n with | zero => exact ⟨h1, rfl⟩ | succ n => exact .inl ⟨h1, rfl⟩, q⟩
    · exact .inr ⟨a, b', xs, ys, rfl, h1, h2, h3, h4, q⟩
end
end El
namespace El
open PySem PySem.Spec PyProof.Rows L2
/-! ### the tray of draws -/
structure Tray (H : Hp) (t g : Addr) (n : Nat) : Prop where
  ne : t ≠ g
  ex : ∃ (gs : List Int) (a c d : Int), H t = some (.lst [.ref g, .int a, .int c, .int d]) ∧ H g = some (.lst (gs.map V.int)) ∧ (∀ x ∈ gs, 0 ≤ x) ∧ gs.length ≤ 63 ∧ 0 ≤ a ∧ 0 ≤ c ∧ c < 2305843009213693951 ∧ 0 ≤ d ∧ d ≤ n
/-- what is no part of the tray -/
def Off (t g : Addr) (b : Addr) : Prop := b ≠ t ∧ b ≠ g
theorem Tray.keep {H H' : Hp} {t g : Addr} {n : Nat} (h : Tray H t g n) (k : Same H H') : Tray H' t g n := by
  obtain ⟨gs, a, c, d, h1, h2, h3⟩ := h.ex
  exact ⟨h.ne, gs, a, c, d, k _ _ h1, k _ _ h2, h3⟩
theorem Tray.more {H : Hp} {t g : Addr} {n m : Nat} (h : Tray H t g n) (k : n ≤ m) : Tray H t g m := by
  obtain ⟨gs, a, c, d, h1, h2, h3, h4, h5, h6, h7, h8, h9⟩ := h.ex
  exact ⟨h.ne, gs, a, c, d, h1, h2, h3, h4, h5, h6, h7, h8, by omega⟩
theorem Tray.off {H : Hp} {t g : Addr} {n : Nat} (h : Tray H t g n) {p : Addr} (e : H p = none) : Off t g p := by
  obtain ⟨gs, a, c, d, h1, h2, _⟩ := h.ex
  exact ⟨no_of h1 e, no_of h2 e⟩
theorem Tray.mut {H : Hp} {t g : Addr} {n : Nat} (h : Tray H t g n) {p : Addr} {o : HO} (k : Off t g p) : Tray (upd H p o) t g n := by
  obtain ⟨gs, a, c, d, h1, h2, h3⟩ := h.ex
  exact ⟨h.ne, gs, a, c, d, by rw [upd_ne k.1.symm]; exact h1, by rw [upd_ne k.2.symm]; exact h2, h3⟩
theorem Kp.off {H H' : Hp} {t g p : Addr} {o : HO} (e : Kp (Off t g) H H') (h : p = t ∨ p = g) : Kp (Off t g) H (upd H' p o) := e.mut fun z => by
  rcases h with rfl | rfl
  · exact z.1 rfl
  · exact z.2 rfl
end El
namespace El
open PySem PySem.Spec PyProof.Rows L2
section
variable {P : Program} {w : World} {K : PySem.W.Frag} {mg : Str → Option Value} {base : Heap}
abbrev s__law_tray : Stmt := topS 15
abbrev N__law_tray : List Str := ["script", "fold", "great", "cell", "much"]
abbrev P__law_tray : List Str := ["script"]
theorem sc__law_tray : FnScope N__law_tray P__law_tray (defScope s__law_tray) := ⟨rfl, rfl, rfl, by decide +kernel, rfl, by decide +kernel, by decide +kernel⟩
def sp__law_tray (K : PySem.W.Frag) : Sp := fun vs H Q _ => ∃ (a : Addr) (ns : List Int), vs = [.ref a] ∧ SqL K H a (ns.map V.int) ∧ ns.length ≤ 63 ∧
  ∀ H' t g, Same H H' → H t = none → H g = none → Tray H' t g 0 → Q (.ref t) H'
theorem ok__law_tray (A : At K mg "_law_tray" P__law_tray s__law_tray) (B : Bi mg) : Df P w K mg base 1 "_law_tray" P__law_tray s__law_tray (sp__law_tray K) := by
  refine A.df fun f fd F => F.ok sc__law_tray (fun vs H Q E h => ?_) (fun cdv AA outer s H vs Q E hr h => ?_)
  · obtain ⟨a, _, rfl, _⟩ := h
    rfl
  · obtain ⟨a, ns, rfl, hS, hl, q⟩ := h
    have nd := sc__law_tray.nd
    refine ⟨_, (pss_cons (ps_set (i := 1) nd rfl (.inl rfl) pe_int)
    (pss_cons (ps_set (i := 2) nd rfl (.inl rfl) (pe_lst pa_nil))
    (pss_cons (ps_for PassesOwn.never rfl (pi_list (pv 0)) (pg_name (i := 3) nd rfl (.inl rfl)) (pss_cons (ps_set (i := 1) nd rfl (.inl rfl) (pe_op op_mod (pe_op op_add (pe_op op_mul (pv 1) pe_int) (pv 3)) (pe_op op_sub (pe_op op_pow pe_int pe_int) pe_int))) (pss_cons (ps_set (i := 4) nd rfl (.inl rfl) (pe_callB (call_max2 rfl) (by rfl) B.max (by decide +kernel) (pa_cons (pv 3) (pa_cons (pe_op op_sub pe_int (pv 3)) pa_nil)))) (pss_one (ps_if (pt_cmpR op_ge (pv 4) (pe_op op_pow pe_int pe_int) (nomark _)) (pss_one (ps_expr (pe_bm PySem.F.plainAttrs_list PySem.F.slot_list_append PySem.F.type_list_append mt_append (pv 2) (pa_cons (pe_op op_sub (pv 4) (pe_op op_pow pe_int pe_int)) pa_nil)))) pss_nil)))))
    (pss_one (ps_ret (pe_lst (pa_cons (pv 2) (pa_cons pe_int (pa_cons (pv 1) (pa_cons pe_int pa_nil)))))))))), ?_⟩
    refine ⟨Nat.zero_le _, fun g ng => ?_⟩
    refine ⟨.ref a, rfl, a, rfl, ⟨_, (same_new ng).seq hS⟩, ?_⟩
    refine for_it (walk_list (xs := ns.map V.int)) (fun i σ H2 => ∃ (c : Int) (gs : List Int) (y3 y4 : Option V), σ = [some (.ref a), some (.int c), some (.ref g), y3, y4] ∧ Same H H2 ∧ H2 g = some (.lst (gs.map V.int)) ∧ (∀ x ∈ gs, 0 ≤ x) ∧ gs.length ≤ i ∧ 0 ≤ c ∧ c < 2305843009213693951)
      ⟨314159265358979, [], none, none, rfl, same_new ng, upd_same, fun x h => absurd h (by simp), Nat.le_refl _, by decide, by decide⟩ (fun i σ H2 _ hW => ?_) (fun i x σ H2 H3 hi hW hY => ?_) (fun σ H2 hW => ?_)
    · obtain ⟨_, _, _, _, _, sm, _⟩ := hW
      exact sm.seq hS
    · obtain ⟨c, gs, y3, y4, rfl, sm, eg, hp, hgl, c0, c1⟩ := hW
      obtain ⟨rfl, hx⟩ := hY
      obtain ⟨n, hx', rfl⟩ := ints_at hx
      have hil : i < 63 := by
        rw [List.length_map] at hi
        omega
      -- fold = (fold * 1000003 + cell) % (2 ** 61 - 1)
      refine ⟨.int c, rfl, _, _, rfl, rfl, .inl ⟨by omega, by omega⟩, .int n, rfl, _, _, rfl, rfl, _, _, rfl, rfl, ⟨by decide, by decide, by decide⟩, _, _, rfl, rfl, _, _, rfl, rfl, (by show (0 : Int) < 2 ^ 61 - 1; decide), ?_⟩
      -- much = max(cell, 0 - cell)
      refine ⟨.int n, rfl, .int n, rfl, _, _, rfl, rfl, _, _, rfl, ?_⟩
      have m0 : 0 ≤ (if 0 - n > n then 0 - n else n) := by split <;> omega
      revert m0
      generalize (if 0 - n > n then 0 - n else n) = m
      intro m0
      have em : (2 : Int) ^ 61 - 1 = 2305843009213693951 := by decide
      have f0 : 0 ≤ (c * 1000003 + n) % (2 ^ 61 - 1) := Int.emod_nonneg _ (by decide)
      have f1 : (c * 1000003 + n) % (2 ^ 61 - 1) < 2305843009213693951 := by
        have := Int.emod_lt_of_pos (c * 1000003 + n) (show (0 : Int) < 2 ^ 61 - 1 by decide)
        omega
      -- if much >= 10 ** 18
      refine ⟨.int m, rfl, _, _, rfl, rfl, ⟨by decide, by decide, by decide⟩, _, _, rfl, rfl, _, rfl, ite2 (fun e => ?_) (fun e => ?_)⟩
      · have e : (10 : Int) ^ (18 : Int).toNat ≤ m := of_decide_eq_true e
        refine ⟨.ref g, rfl, .inl ⟨rfl, _, SqL.of eg⟩, .int m, rfl, _, _, rfl, rfl, ⟨by decide, by decide, by decide⟩, _, _, rfl, rfl, g, _, _, rfl, rfl, eg, ils (by rw [List.length_map]; omega), ?_⟩
        refine ⟨_, gs ++ [m - 10 ^ (18 : Int).toNat], _, _, rfl, Same.mut sm ng, by rw [upd_same, List.map_append]; rfl, fun x hx => ?_, by rw [List.length_append, List.length_singleton]; omega, f0, f1⟩
        rcases List.mem_append.mp hx with hx | hx
        · exact hp x hx
        · rw [List.mem_singleton.mp hx]
          omega
      · exact ⟨_, gs, _, _, rfl, sm, eg, hp, Nat.le_succ_of_le hgl, f0, f1⟩
    · obtain ⟨c, gs, y3, y4, rfl, sm, eg, hp, hgl, c0, c1⟩ := hW
      rw [List.length_map] at hgl
      refine ⟨.ref g, rfl, .int c, rfl, (by show 4 ≤ sizeLine; decide), fun t nt => ?_⟩
      have ntg : g ≠ t := ne_of_none eg nt
      exact q _ t g (sm.trans (same_new nt)) (sm.free nt) ng ⟨ntg.symm, gs, 0, c, 0, upd_same, by rw [upd_ne ntg]; exact eg, hp, by omega, by decide, c0, c1, by decide, by decide⟩
end
end El
namespace El
open PySem PySem.Spec PyProof.Rows L2
section
variable {P : Program} {w : World} {K : PySem.W.Frag} {mg : Str → Option Value} {base : Heap}
abbrev s__law_draw : Stmt := topS 16
abbrev N__law_draw : List Str := ["tray", "many", "found", "mixed"]
abbrev P__law_draw : List Str := ["tray", "many"]
theorem sc__law_draw : FnScope N__law_draw P__law_draw (defScope s__law_draw) := ⟨rfl, rfl, rfl, by decide +kernel, rfl, by decide +kernel, by decide +kernel⟩
def sp__law_draw : Sp := fun vs H Q _ => ∃ (t g : Addr) (n : Nat) (m : Int), vs = [.ref t, .int m] ∧ Tray H t g n ∧ n ≤ 1000000000 ∧ 0 < m ∧ m < 2 ^ 200 ∧
  ∀ H' r, Kp (Off t g) H H' → Tray H' t g (n + 1) → 0 ≤ r → r < m → Q (.int r) H'
theorem ok__law_draw (A : At K mg "_law_draw" P__law_draw s__law_draw) (B : Bi mg) : Df P w K mg base 1 "_law_draw" P__law_draw s__law_draw sp__law_draw := by
  refine A.df fun f fd F => F.ok sc__law_draw (fun vs H Q E h => ?_) (fun cdv AA outer s H vs Q E hr h => ?_)
  · obtain ⟨_, _, _, _, rfl, _⟩ := h
    rfl
  · obtain ⟨t, g, n, m, rfl, hT, hn, m0, m1, q⟩ := h
    have nd := sc__law_draw.nd
    refine ⟨_, (pss_cons (ps_while PassesOwn.never (PW.pt (pw_and (pt_cmpR op_lt (pe_ix ix_list (pv 0) pe_int (fun _ _ => rfl)) pe_int (nomark _)) (pw_and1 (pt_cmpR (op_neD hr.units) (pe_ix ix_list (pv 0) pe_int (fun _ _ => rfl)) (pe_lst pa_nil) (nomark _))))) (pss_one (ps_asg (pe_bm PySem.F.plainAttrs_list PySem.F.slot_list_pop PySem.F.type_list_pop mt_popAt (pe_ix ix_list (pv 0) pe_int (fun _ _ => rfl)) (pa_cons pe_int pa_nil)) (pg_sub (pv 0) pe_int set_list))))
    (pss_cons (ps_if (pt_cmpR op_ge (pe_ix ix_list (pv 0) pe_int (fun _ _ => rfl)) pe_int (nomark _)) (pss_cons (ps_set (i := 2) nd rfl (.inl rfl) (pe_op op_mod (pe_ix ix_list (pv 0) pe_int (fun _ _ => rfl)) (pv 1))) (pss_cons (ps_asg (pe_op op_fdivW (pe_ix ix_list (pv 0) pe_int (fun _ _ => rfl)) (pv 1)) (pg_sub (pv 0) pe_int set_list)) (pss_one (ps_ret (pv 2))))) pss_nil)
    (pss_cons (ps_asg (pe_op op_add (pe_ix ix_list (pv 0) pe_int (fun _ _ => rfl)) pe_int) (pg_sub (pv 0) pe_int set_list))
    (pss_cons (ps_set (i := 3) nd rfl (.inl rfl) (pe_op op_mod (pe_op op_add (pe_op op_mul (pe_op op_add (pe_ix ix_list (pv 0) pe_int (fun _ _ => rfl)) pe_int) (pe_op op_pow (pe_op op_add (pe_ix ix_list (pv 0) pe_int (fun _ _ => rfl)) pe_int) pe_int)) (pe_op op_mul pe_int (pe_ix ix_list (pv 0) pe_int (fun _ _ => rfl)))) (pe_op op_sub (pe_op op_pow pe_int pe_int) pe_int)))
    (pss_one (ps_ret (pe_op op_mod (pe_op op_fdivW (pe_op op_mod (pe_op op_pow (pv 3) pe_int) (pe_op op_add (pe_op op_pow pe_int pe_int) pe_int)) pe_int) (pv 1)))))))), ?_⟩
    have ne := hT.ne
    obtain ⟨gs0, a0, c0, d0, i1, i2, i3, i4, i5, i6, i7, i8, i9⟩ := hT.ex
    refine seq_to (fun σ H2 => σ = [some (.ref t), some (.int m), none, none] ∧ Kp (Off t g) H H2 ∧ Tray H2 t g n) (fun X hX => ?_) (fun σ H2 hE => ?_)
    · -- the while
      refine while_to (fun k σ H2 => σ = [some (.ref t), some (.int m), none, none] ∧ Kp (Off t g) H H2 ∧ ∃ (gs : List Int) (a c d : Int), H2 t = some (.lst [.ref g, .int a, .int c, .int d]) ∧ H2 g = some (.lst (gs.map V.int)) ∧ (∀ x ∈ gs, 0 ≤ x) ∧ gs.length ≤ 63 ∧ 0 ≤ a ∧ 0 ≤ c ∧ c < 2305843009213693951 ∧ 0 ≤ d ∧ d ≤ n ∧ k = gs.length)
        (fun σ H2 => σ = [some (.ref t), some (.int m), none, none] ∧ Kp (Off t g) H H2 ∧ Tray H2 t g n) ⟨gs0.length, rfl, Kp.refl, gs0, a0, c0, d0, i1, i2, i3, i4, i5, i6, i7, i8, i9, rfl⟩ hX (fun X hX k σ H2 hW => ?_)
      obtain ⟨rfl, kp, gs, a, c, d, j1, j2, j3, j4, j5, j6, j7, j8, j9, rfl⟩ := hW
      refine ⟨.ref t, rfl, t, _, 1, .int a, rfl, rfl, SqL.of j1, atI_nat (j := 1) rfl, _, _, rfl, rfl, _, rfl, ite2 (fun ea => ?_) (fun ea => ?_)⟩
      · refine ⟨.ref t, rfl, t, _, 0, .ref g, rfl, rfl, SqL.of j1, atI_nat (j := 0) rfl, Nat.zero_le _, fun u nu => ?_⟩
        have s1 : Same H2 (upd H2 u (.lst [])) := same_new nu
        refine ⟨dInts gs, dInts [], Dp.ints (s1 _ _ j2), Dp.ints upd_same, (Oks.ints _).shaped, (Oks.ints _).shaped, _, rfl, ?_⟩
        rw [eqv_nil]
        cases gs with
        | nil => exact iteF (hX _ _ ⟨rfl, kp.trans (.of s1), ne, [], a, c, d, s1 _ _ j1, s1 _ _ j2, j3, j4, j5, j6, j7, j8, j9⟩)
        | cons x r =>
          refine iteT ⟨fun σ' H' => σ' = [some (.ref t), some (.int m), none, none] ∧ Kp (Off t g) H H' ∧ ∃ (gs : List Int) (a c d : Int), H' t = some (.lst [.ref g, .int a, .int c, .int d]) ∧ H' g = some (.lst (gs.map V.int)) ∧ (∀ x ∈ gs, 0 ≤ x) ∧ gs.length ≤ 63 ∧ 0 ≤ a ∧ 0 ≤ c ∧ c < 2305843009213693951 ∧ 0 ≤ d ∧ d ≤ n ∧ r.length = gs.length, fun σ' H' h => ⟨r.length, Nat.lt_succ_self _, h⟩, ?_⟩
          refine ⟨.ref t, rfl, t, _, 0, .ref g, rfl, rfl, SqL.of (s1 _ _ j1), atI_nat (j := 0) rfl, .inl ⟨rfl, _, SqL.of (s1 _ _ j2)⟩, g, _, 0, 0, .int x, rfl, rfl, s1 _ _ j2, by decide, by decide, seq_ix (j := 0) (by simp), rfl, ?_⟩
          refine ⟨.ref t, rfl, t, _, 1, 1, rfl, rfl, (by rw [upd_ne ne]; exact s1 _ _ j1), rfl, ?_⟩
          refine ⟨rfl, (Kp.off (Kp.off (kp.trans (.of s1)) (.inr rfl)) (.inl rfl)), r, x, c, d, by rw [upd_same]; rfl, by rw [upd_ne ne.symm, upd_same]; rfl, fun y hy => j3 y (List.mem_cons_of_mem _ hy), Nat.le_of_succ_le j4, j3 x List.mem_cons_self, j6, j7, j8, j9, rfl⟩
      · exact iteF (hX _ _ ⟨rfl, kp, ne, gs, a, c, d, j1, j2, j3, j4, j5, j6, j7, j8, j9⟩)
    · obtain ⟨rfl, kp, hT2⟩ := hE
      obtain ⟨gs, a, c, d, j1, j2, j3, j4, j5, j6, j7, j8, j9⟩ := hT2.ex
      have g1 : CDivW a m := ⟨m0, Nat.lt_trans (log_lt m0 m1) (by decide)⟩
      -- if tray[1] >= 2
      refine ⟨.ref t, rfl, t, _, 1, .int a, rfl, rfl, SqL.of j1, atI_nat (j := 1) rfl, _, _, rfl, rfl, _, rfl, ite2 (fun ea => ?_) (fun ea => ?_)⟩
      · refine ⟨.ref t, rfl, t, _, 1, .int a, rfl, rfl, SqL.of j1, atI_nat (j := 1) rfl, .int m, rfl, _, _, rfl, rfl, m0, ?_⟩
        refine ⟨.ref t, rfl, t, _, 1, .int a, rfl, rfl, SqL.of j1, atI_nat (j := 1) rfl, .int m, rfl, _, _, rfl, rfl, g1, ?_⟩
        refine ⟨.ref t, rfl, t, _, 1, 1, rfl, rfl, j1, rfl, _, rfl, ?_⟩
        exact q _ _ (Kp.off kp (.inl rfl)) ⟨ne, gs, a / m, c, d, by rw [upd_same]; rfl, by rw [upd_ne ne.symm]; exact j2, j3, j4, Int.ediv_nonneg j5 (by omega), j6, j7, j8, by omega⟩ (Int.emod_nonneg _ (by omega)) (Int.emod_lt_of_pos _ m0)
      · -- tray[3] = tray[3] + 1
        refine ⟨.ref t, rfl, t, _, 3, .int d, rfl, rfl, SqL.of j1, atI_nat (j := 3) rfl, _, _, rfl, rfl, ?_⟩
        refine ⟨.ref t, rfl, t, _, 3, 3, rfl, rfl, j1, rfl, ?_⟩
        have e1 : upd H2 t (.lst ([V.ref g, .int a, .int c, .int d].set 3 (.int (d + 1)))) t = some (.lst [.ref g, .int a, .int c, .int (d + 1)]) := by rw [upd_same]; rfl
        have hT3 : Tray (upd H2 t (.lst ([V.ref g, .int a, .int c, .int d].set 3 (.int (d + 1))))) t g (n + 1) := ⟨ne, gs, a, c, d + 1, e1, by rw [upd_ne ne.symm]; exact j2, j3, j4, j5, j6, j7, by omega, by omega⟩
        have k3 : Kp (Off t g) H (upd H2 t (.lst ([V.ref g, .int a, .int c, .int d].set 3 (.int (d + 1))))) := Kp.off kp (.inl rfl)
        revert e1 hT3 k3
        generalize upd H2 t (.lst ([V.ref g, .int a, .int c, .int d].set 3 (.int (d + 1)))) = H3
        intro e1 hT3 k3
        -- mixed
        refine ⟨.ref t, rfl, t, _, 2, .int c, rfl, rfl, SqL.of e1, atI_nat (j := 2) rfl, _, _, rfl, rfl, .ref t, rfl, t, _, 3, .int (d + 1), rfl, rfl, SqL.of e1, atI_nat (j := 3) rfl, _, _, rfl, rfl, _, _, rfl, rfl, ⟨by decide, by decide, ?_⟩, _, _, rfl, rfl, .inl ⟨by omega, by omega⟩,
          .ref t, rfl, t, _, 3, .int (d + 1), rfl, rfl, SqL.of e1, atI_nat (j := 3) rfl, _, _, rfl, rfl, .inl ⟨by decide, by decide⟩, _, _, rfl, rfl, _, _, rfl, rfl, ⟨by decide, by decide, by decide⟩, _, _, rfl, rfl, _, _, rfl, rfl, (by show (0 : Int) < 2 ^ 61 - 1; decide), ?_⟩
        · show (d + 1 + 2).natAbs < 2 ^ 64
          omega
        · have f0 : 0 ≤ ((c + 5) * (d + 1 + 2) ^ (3 : Int).toNat + 1000003 * (d + 1)) % (2 ^ (61 : Int).toNat - 1) := Int.emod_nonneg _ (by decide)
          have f1 : ((c + 5) * (d + 1 + 2) ^ (3 : Int).toNat + 1000003 * (d + 1)) % (2 ^ (61 : Int).toNat - 1) < 2 ^ 61 - 1 := Int.emod_lt_of_pos _ (show (0 : Int) < 2 ^ 61 - 1 by decide)
          refine ⟨_, rfl, _, _, rfl, rfl, ⟨by decide, by decide, ?_⟩, _, _, rfl, rfl, ⟨by decide, by decide, by decide⟩, _, _, rfl, rfl, _, _, rfl, rfl, (by show (0 : Int) < 10 ^ 18 + 9; decide), _, _, rfl, rfl, ⟨by decide, by decide⟩, .int m, rfl, _, _, rfl, rfl, m0, ?_⟩
          · show (((c + 5) * (d + 1 + 2) ^ (3 : Int).toNat + 1000003 * (d + 1)) % (2 ^ (61 : Int).toNat - 1)).natAbs < 2 ^ 64
            omega
          · exact q _ _ k3 hT3 (Int.emod_nonneg _ (by omega)) (Int.emod_lt_of_pos _ m0)
end
end El
namespace El
open PySem PySem.Spec PyProof.Rows L2
section
variable {P : Program} {w : World} {K : PySem.W.Frag} {mg : Str → Option Value} {base : Heap}
abbrev s__law_crowds : Stmt := topS 18
abbrev N__law_crowds : List Str := ["tray", "most", "found", "k", "far"]
abbrev P__law_crowds : List Str := ["tray", "most"]
theorem sc__law_crowds : FnScope N__law_crowds P__law_crowds (defScope s__law_crowds) := ⟨rfl, rfl, rfl, by decide +kernel, rfl, by decide +kernel, by decide +kernel⟩
def sp__law_crowds : Sp := fun vs H Q _ => ∃ (b g : Addr) (n most : Nat), vs = [.ref b, .int (most : Int)] ∧ Tray H b g n ∧ most ≤ 60 ∧ n ≤ 800000000 ∧
  ∀ H' o ts cs, Kp (Off b g) H H' → Tray H' b g (n + 500) → GsAt H' (fun b => H b = none) o ts cs → o ∉ ts → Crw cs → cs.length ≤ most → Sms cs → Q (.ref o) H'
theorem sm_of {i : Int} (h0 : 0 ≤ i) (h1 : i < 10 ^ 30) : Sm i := by
  have e30 : (10 : Int) ^ 30 = 1000000000000000000000000000000 := by decide
  have e31 : (10 : Nat) ^ 30 = 1000000000000000000000000000000 := by decide
  unfold Sm
  rw [e30] at h1
  rw [e31]
  omega
theorem ok__law_crowds (A : At K mg "_law_crowds" P__law_crowds s__law_crowds) (B : Bi mg) (D__law_draw : Df P w K mg base 1 "_law_draw" P__law_draw s__law_draw sp__law_draw) : Df P w K mg base 2 "_law_crowds" P__law_crowds s__law_crowds sp__law_crowds := by
  refine A.df fun f fd F => F.ok sc__law_crowds (fun vs H Q E h => ?_) (fun cdv AA outer s H vs Q E hr h => ?_)
  · obtain ⟨_, _, _, _, rfl, _⟩ := h
    rfl
  · obtain ⟨b, g, n, most, rfl, hT, hm, hn, q⟩ := h
    have nd := sc__law_crowds.nd
    refine ⟨_, (pss_cons (ps_set (i := 2) nd rfl (.inl rfl) (pe_lst pa_nil))
    (pss_cons (ps_for PassesOwn.never rfl (pi_range1 (by rfl) B.range (pa_cons (pe_df D__law_draw (hr.mono (by decide)) (by rfl) (pa_cons (pv 0) (pa_cons (pe_op op_add (pv 1) pe_int) pa_nil))) pa_nil)) (pg_name (i := 3) nd rfl (.inl rfl)) (pss_cons (ps_set (i := 4) nd rfl (.inl rfl) (pe_ix ix_list (pe_lst (pa_cons pe_int (pa_cons pe_int (pa_cons (pe_op op_sub (pe_op op_pow pe_int pe_int) pe_int) pa_nil)))) (pe_df D__law_draw (hr.mono (by decide)) (by rfl) (pa_cons (pv 0) (pa_cons pe_int pa_nil))) (fun _ _ => rfl))) (pss_one (ps_expr (pe_bm PySem.F.plainAttrs_list PySem.F.slot_list_append PySem.F.type_list_append mt_append (pv 2) (pa_cons (pe_tup (pa_cons (pe_op op_add pe_int (pe_df D__law_draw (hr.mono (by decide)) (by rfl) (pa_cons (pv 0) (pa_cons (pv 4) pa_nil)))) (pa_cons (pe_df D__law_draw (hr.mono (by decide)) (by rfl) (pa_cons (pv 0) (pa_cons (pe_ix ix_list (pe_lst (pa_cons pe_int (pa_cons pe_int (pa_cons (pe_op op_pow pe_int pe_int) pa_nil)))) (pe_df D__law_draw (hr.mono (by decide)) (by rfl) (pa_cons (pv 0) (pa_cons pe_int pa_nil))) (fun _ _ => rfl)) pa_nil))) pa_nil))) pa_nil))))))
    (pss_one (ps_ret (pv 2))))), ?_⟩
    refine ⟨Nat.zero_le _, fun o no => ?_⟩
    have oo : Off b g o := hT.off no
    have e30 : (10 : Int) ^ Int.toNat 30 = 1000000000000000000000000000000 := by decide
    have e30' : (10 : Int) ^ 30 = 1000000000000000000000000000000 := by decide
    refine ⟨.ref b, rfl, .int (most : Int), rfl, _, _, rfl, rfl, b, g, n, _, rfl, hT.mut oo, by omega, by omega, ?_, fun H2 r2 k2 T2 a2 b2 => ?_⟩
    · exact Int.lt_of_le_of_lt (show (most : Int) + 1 ≤ 61 by omega) (by decide)
    refine ⟨_, rfl, by omega, by omega, ?_⟩
    have offD : ∀ z, H z = none → Off b g z := fun z hz => hT.off hz
    have kA : Kp (Off b g) H H2 := (Kp.of (same_new no)).trans k2
    refine for_it walk_range (fun i σ H5 => ∃ ts cs y3 y4, σ = [some (.ref b), some (.int (most : Int)), some (.ref o), y3, y4] ∧ Kp (Off b g) H H5 ∧ Tray H5 b g (n + 1 + 4 * i) ∧ GsAt H5 (fun b => H b = none) o ts cs ∧ o ∉ ts ∧ cs.length = i ∧ Crw cs ∧ Sms cs)
      ⟨[], [], none, none, rfl, kA, T2, ⟨k2 _ _ oo upd_same, no, rfl, fun i t g e _ => by simp at e, fun t m => by simp at m⟩, by simp, rfl, fun c m => by simp at m, fun c m => by simp at m⟩ (fun _ _ _ _ _ => trivial) (fun i x σ H5 H6 hi hW hY => ?_) (fun σ H5 hW => ?_)
    · obtain ⟨ts, cs, y3, y4, rfl, kp, T5, hG, hno, hcl, hC, hb⟩ := hW
      obtain ⟨rfl, rfl⟩ := hY
      have hi60 : i < 61 := by omega
      refine ⟨_, _, rfl, rfl, ⟨by decide, by decide, by decide⟩, _, _, rfl, rfl, (by show 3 ≤ sizeLine; decide), fun p np => ?_⟩
      have op : Off b g p := T5.off np
      refine ⟨.ref b, rfl, b, g, _, 3, rfl, T5.mut op, by omega, by decide, by decide, fun H7 s1 k7 T7 a7 b7 => ?_⟩
      obtain ⟨far, hv, t0, t1⟩ := pick3 (P := fun x => 0 < x ∧ x < 10 ^ 30) (a := 3) (b := 40) (c := 10 ^ Int.toNat 30 - 1) a7 b7 ⟨by decide, by decide⟩ ⟨by decide, by decide⟩ ⟨by decide, by decide⟩
      rw [e30'] at t1
      refine ⟨p, _, _, _, rfl, rfl, SqL.of (k7 _ _ op upd_same), hv, ?_⟩
      have kp7 : Kp (Off b g) H H7 := (kp.new np).trans k7
      have hG7 : GsAt H7 (fun b => H b = none) o ts cs := (hG.same (same_new np)).keep (fun z x hz e => k7 z x (offD z hz) e)
      refine ⟨.ref o, rfl, .inl ⟨rfl, _, hG7.seq⟩, ?_⟩
      refine ⟨.ref b, rfl, .int far, rfl, b, g, _, far, rfl, T7, by omega, t0, ?_, fun H8 s2 k8 T8 a8 b8 => ⟨_, _, rfl, rfl, ?_⟩⟩
      · exact Int.lt_trans t1 (by decide)
      refine ⟨.ref b, rfl, _, _, rfl, rfl, ⟨by decide, by decide, by decide⟩, (by show 3 ≤ sizeLine; decide), fun u nu => ?_⟩
      have ou : Off b g u := T8.off nu
      refine ⟨.ref b, rfl, b, g, _, 3, rfl, T8.mut ou, by omega, by decide, by decide, fun H9 s3 k9 T9 a9 b9 => ?_⟩
      obtain ⟨top, hv2, p0, p1⟩ := pick3 (P := fun x => 0 < x ∧ x ≤ 10 ^ 30) (a := 4) (b := 60) (c := 10 ^ Int.toNat 30) a9 b9 ⟨by decide, by decide⟩ ⟨by decide, by decide⟩ ⟨by decide, by decide⟩
      rw [e30'] at p1
      refine ⟨u, _, _, _, rfl, rfl, SqL.of (k9 _ _ ou upd_same), hv2, b, g, _, top, rfl, T9, by omega, p0, ?_, fun H10 s4 k10 T10 a10 b10 => ?_⟩
      · exact Int.lt_of_le_of_lt p1 (by decide)
      refine ⟨(by show 2 ≤ sizeLine; decide), fun v nv => ?_⟩
      have ov : Off b g v := T10.off nv
      have k6 : Kp (Off b g) H7 H10 := ((k8.trans (Kp.of (same_new nu))).trans k9).trans k10
      have kp10 : Kp (Off b g) H H10 := kp7.trans k6
      have nv0 : H v = none := kp10.none ov nv
      have hG10 : GsAt H10 (fun b => H b = none) o ts cs := hG7.keep (fun z x hz e => k6 z x (offD z hz) e)
      have hG11 := hG10.same (same_new (o := .tup [.int (1 + s2), .int s4]) nv)
      refine ⟨o, _, _, rfl, rfl, hG11.top, ils (by rw [List.length_map, hG.len]; omega), ?_⟩
      have hP := hG11.push hno (q := v) (g := (1 + s2, s4)) upd_same nv0
      refine ⟨ts ++ [v], cs ++ [(1 + s2, s4)], _, _, rfl, (kp10.new nv).mutF no, ((T10.mut ov).mut oo).more (by omega), hP, ?_, ?_, ?_, ?_⟩
      · intro m
        rcases List.mem_append.mp m with m | m
        · exact hno m
        · rw [List.mem_singleton.mp m] at hG10
          have z := hG10.top
          rw [nv] at z
          cases z
      · rw [List.length_append, hcl]
        rfl
      · intro c m
        rcases List.mem_append.mp m with m | m
        · exact hC c m
        · rw [List.mem_singleton.mp m]
          exact ⟨by show 1 ≤ 1 + s2; omega, a10⟩
      · intro c m
        rcases List.mem_append.mp m with m | m
        · exact hb c m
        · rw [List.mem_singleton.mp m]
          exact ⟨sm_of (by show 0 ≤ 1 + s2; omega) (by rw [e30']; show 1 + s2 < _; omega), sm_of a10 (by rw [e30']; show s4 < _; omega)⟩
    · obtain ⟨ts, cs, y3, y4, rfl, kp, T5, hG, hno, hcl, hC, hb⟩ := hW
      exact ⟨_, rfl, q H5 o ts cs kp (T5.more (by omega)) hG hno hC (by omega) hb⟩
end
end El
namespace El
open PySem PySem.Spec PyProof.Rows L2 SX
section
variable {P : Program} {w : World} {K : PySem.W.Frag} {mg : Str → Option Value} {base : Heap}
abbrev s__law_crowds_written : Stmt := topS 19
abbrev N__law_crowds_written : List Str := ["folk", "many", "bears"]
abbrev P__law_crowds_written : List Str := ["folk"]
theorem sc__law_crowds_written : FnScope N__law_crowds_written P__law_crowds_written (defScope s__law_crowds_written) := ⟨rfl, rfl, rfl, by decide +kernel, rfl, by decide +kernel, by decide +kernel⟩
def sp__law_crowds_written : Sp := fun vs H Q _ => ∃ (BB : Addr → Prop) (a : Addr) (ts : List Addr) (gs : List (Int × Int)), vs = [.ref a] ∧ GsAt H BB a ts gs ∧ Sms gs ∧ gs.length ≤ 1000 ∧ ∀ H', Same H H' → Q (.str (S (textOf 120 gs))) H'
theorem eqv_gs_nil {gs : List (Int × Int)} (h : gs ≠ []) : PyData.eqv (dGs gs) (dGs []) = false := by
  cases gs with
  | nil => exact absurd rfl h
  | cons g gs => rfl
theorem ok__law_crowds_written (A : At K mg "_law_crowds_written" P__law_crowds_written s__law_crowds_written) (B : Bi mg) : Df P w K mg base 1 "_law_crowds_written" P__law_crowds_written s__law_crowds_written sp__law_crowds_written := by
  refine A.df fun f fd F => F.ok sc__law_crowds_written (fun vs H Q E h => ?_) (fun cdv AA outer s H vs Q E hr h => ?_)
  · obtain ⟨_, _, _, _, rfl, _⟩ := h
    rfl
  · obtain ⟨BB, a, ts, gs, rfl, hG, hs, hl, q⟩ := h
    have nd := sc__law_crowds_written.nd
    refine ⟨_, (pss_one (ps_ret (pe_ifExp (pt_cmpR (op_neD hr.units) (pv 0) (pe_lst pa_nil) (nomark _)) (pe_bm PySem.F.plainAttrs_str PySem.F.slot_str_join PySem.F.type_str_join mt_join pe_str (pa_cons (pe_lc (own := [("many", 1), ("bears", 2)]) (tt := tYes) rfl nd (pi_list (pv 0)) (blkOk_by (N := N__law_crowds_written) (sc := defScope s__law_crowds_written) (by decide +kernel)) (fun _ _ _ _ _ => (pgTupK K 2 (by rfl) (pgs_cons (pg_name (i := 1) nd rfl (.inl rfl)) (pgs_cons (pg_name (i := 2) nd rfl (.inl rfl)) pgs_nil)))) (fun _ _ _ _ _ => pts_nil) (fun _ _ _ _ _ => (pe_op op_add_str (pe_op op_add_str (pe_callTy call_str_int (by rfl) B.str_ (by decide +kernel) (pa_cons (pv 1) pa_nil)) pe_str) (pe_callTy call_str_int (by rfl) B.str_ (by decide +kernel) (pa_cons (pv 2) pa_nil))))) pa_nil)) pe_str))), ?_⟩
    refine ⟨.ref a, rfl, Nat.zero_le _, fun e ne => ?_⟩
    have s1 : Same H (upd H e (.lst [])) := same_new ne
    have ee : (upd H e (.lst [])) e = some (.lst []) := upd_same
    generalize upd H e (.lst []) = H1 at s1 ee ⊢
    have hG1 := hG.same s1
    refine ⟨dGs gs, dGs [], hG1.dp, ?_, (Oks.gs _).shaped, (Oks.gs _).shaped, _, rfl, ?_⟩
    · exact GsAt.dp (B := fun _ => True) (ts := []) ⟨ee, trivial, rfl, fun i t g e _ => by simp at e, fun t m => by simp at m⟩
    by_cases hn : gs = []
    · subst hn
      rw [(Oks.gs []).eqv]
      refine iteX rfl ?_
      have q' := q _ s1
      unfold textOf at q'
      rw [if_pos rfl, ← none_S] at q'
      exact q'
    · rw [eqv_gs_nil hn]
      refine iteTx rfl ?_
      refine ⟨rfl, .ref a, rfl, a, rfl, ⟨_, hG1.seq⟩, fun D nD => ?_⟩
      refine lc_it (walk_list (xs := ts.map V.ref)) (fun k H2 => Same H1 H2 ∧ H2 D = some (.lst (((gs.take k).map fun g => S (twoW 120 g)).map V.str))) ⟨same_new nD, upd_same⟩ (fun k H2 _ hW => ?_) (fun k x H2 H3 hk hW hY => ?_) (fun H2 hW => ?_)
      · exact (hG1.same hW.1).seq
      · obtain ⟨sm, e⟩ := hW
        obtain ⟨rfl, hx⟩ := hY
        obtain ⟨t, g, rfl, eg, et⟩ := (hG1.same sm).get hx
        obtain ⟨h1, h2⟩ := hs g (List.mem_of_getElem? eg)
        have l1 := text_small h1
        have l2 := text_small h2
        have lx : (Str.ofString "x").length = 1 := rfl
        refine ⟨t, _, rfl, SqT.of et, rfl, .int g.1, _, rfl, .int g.2, _, rfl, rfl, rfl, ?_⟩
        refine ⟨.int g.1, rfl, g.1, rfl, h1.log, _, _, rfl, rfl, ile (by rw [lx]; omega), .int g.2, rfl, g.2, rfl, h2.log, _, _, rfl, rfl, ile (by rw [PySem.Str.length_append, lx]; omega), ?_⟩
        refine ⟨_, e, ils (by rw [List.length_map, List.length_map, List.length_take]; omega), Same.mut sm nD, ?_⟩
        rw [upd_same, take_snoc eg, List.map_append, List.map_append]
        show some (HO.lst (_ ++ [V.str (Str.ofString (toString g.1) ++ ("x" : Str) ++ Str.ofString (toString g.2))])) = _
        rw [fs_two' _ _ 120 _ one_S.1]
        rfl
      · obtain ⟨sm, e⟩ := hW
        rw [List.length_map, hG1.len, take_full] at e
        have hsz : ∀ w ∈ gs.map (fun g => S (twoW 120 g)), w.length ≤ 63 := fun w m => by
          obtain ⟨g, mg', rfl⟩ := List.mem_map.mp m
          rw [S_len]
          exact twoW_len (hs g mg')
        refine ⟨_, D, gs.map (fun g => S (twoW 120 g)), rfl, rfl, .inl (SqL.of e), ?_, ?_⟩
        · have := sum_lens hsz
          rw [List.length_map] at this ⊢
          rw [one_S.2.2.1, S_len]
          show _ + gs.length * 1 ≤ _
          omega
        · have hj : Txt.join " " (gs.map fun g => S (twoW 120 g)) = S (TL.joinL [32] (gs.map (twoW 120))) := by
            rw [one_S.2.2.1, ← join_S, List.map_map]
            rfl
          rw [hj]
          have q' := q H2 (s1.trans sm)
          unfold textOf at q'
          rw [if_neg hn] at q'
          exact q'
end
end El
namespace El
open PySem PySem.Spec PyProof.Rows L2 SX
section
variable {P : Program} {w : World} {K : PySem.W.Frag} {mg : Str → Option Value} {base : Heap}
abbrev s_law : Stmt := topS 20
abbrev N_law : List Str := ["script", "tray", "k", "folk", "held", "due", "told"]
abbrev P_law : List Str := ["script"]
theorem sc_law : FnScope N_law P_law (defScope s_law) := ⟨rfl, rfl, rfl, by decide +kernel, rfl, by decide +kernel, by decide +kernel⟩
theorem Alk.sca {H : Hp} {n : Nat} {x : V} (h : Sca x = true) : Alk H n x x := by
  cases n with
  | zero => exact ⟨h, rfl⟩
  | succ n => exact .inl ⟨h, rfl⟩
theorem Alk.prs {H : Hp} {n : Nat} {B B' : Addr → Prop} {a b : Addr} {ts us : List Addr} {gs : List (Int × Int)} (h1 : GsAt H B a ts gs) (h2 : GsAt H B' b us gs) (hl : gs.length ≤ 100000) : Alk H (n + 2) (.ref a) (.ref b) :=
  .inr ⟨a, b, _, _, rfl, rfl, .inl ⟨h1.top, h2.top⟩, by rw [List.length_map, List.length_map, h1.len, h2.len], by rw [List.length_map, h2.len]; exact hl, fun i u v e f => by
    obtain ⟨t, r, rfl, er, et⟩ := h1.get e
    obtain ⟨t', r', rfl, er', et'⟩ := h2.get f
    obtain rfl : r = r' := Option.some.inj (er.symm.trans er')
    exact .inr ⟨t, t', _, _, rfl, rfl, .inr ⟨et, et'⟩, rfl, by show 2 ≤ 100000; decide, fun j u v e f => by
      obtain rfl : u = v := Option.some.inj (e.symm.trans f)
      rcases List.mem_cons.mp (List.mem_of_getElem? e) with rfl | m
      · exact Alk.int
      · rw [List.mem_singleton.mp m]
        exact Alk.int⟩⟩
def sp_law (K : PySem.W.Frag) : Sp := fun vs H Q _ => ∃ (a : Addr) (ns : List Int), vs = [.ref a] ∧ SqL K H a (ns.map V.int) ∧ ns.length ≤ 63 ∧ ∀ H', Q (.bl true) H'
theorem ok_law (A : At K mg "law" P_law s_law) (B : Bi mg)
    (D__law_tray : Df P w K mg base 1 "_law_tray" P__law_tray s__law_tray (sp__law_tray K)) (D__law_draw : Df P w K mg base 1 "_law_draw" P__law_draw s__law_draw sp__law_draw)
    (D__law_crowds : Df P w K mg base 2 "_law_crowds" P__law_crowds s__law_crowds sp__law_crowds) (D__law_crowds_written : Df P w K mg base 1 "_law_crowds_written" P__law_crowds_written s__law_crowds_written sp__law_crowds_written)
    (D_show_crowds : Df P w K mg base 1 "show_crowds" P_show_crowds s_show_crowds sp_show_crowds) (D_read_crowds : Df P w K mg base 4 "read_crowds" P_read_crowds s_read_crowds sp_read_crowds)
    (D__law_alike : Df P w K mg base 4 "_law_alike" P__law_alike s__law_alike (sp__law_alike 3)) : Df P w K mg base 5 "law" P_law s_law (sp_law K) := by
  refine A.df fun f fd F => F.ok sc_law (fun vs H Q E h => ?_) (fun cdv AA outer s H vs Q E hr h => ?_)
  · obtain ⟨a, _, rfl, _⟩ := h
    rfl
  · obtain ⟨a, ns, rfl, hS, hl, q⟩ := h
    have nd := sc_law.nd
    refine ⟨_, (pss_cons (ps_set (i := 1) nd rfl (.inl rfl) (pe_df D__law_tray (hr.mono (by decide)) (by rfl) (pa_cons (pv 0) pa_nil)))
    (pss_cons (ps_for PassesOwn.never rfl (pi_range1 (by rfl) B.range (pa_cons (pe_op op_add pe_int (pe_op op_mul pe_int (pe_callB call_len_seq (by rfl) B.len PySem.boot_len (pa_cons (pe_slice sl_list (pv 0) po_none (po_some pe_int)) pa_nil)))) pa_nil)) (pg_name (i := 2) nd rfl (.inl rfl)) (pss_cons (ps_set (i := 3) nd rfl (.inl rfl) (pe_df D__law_crowds (hr.mono (by decide)) (by rfl) (pa_cons (pv 1) (pa_cons (pe_ix ix_list (pe_lst (pa_cons pe_int (pa_cons pe_int pa_nil))) (pe_df D__law_draw (hr.mono (by decide)) (by rfl) (pa_cons (pv 1) (pa_cons pe_int pa_nil))) (fun _ _ => rfl)) pa_nil)))) (pss_cons (ps_set (i := 4) nd rfl (.inl rfl) (pe_callTy call_list_of (by rfl) B.list_ (by decide +kernel) (pa_cons (pv 3) pa_nil))) (pss_cons (ps_set (i := 5) nd rfl (.inl rfl) (pe_df D__law_crowds_written (hr.mono (by decide)) (by rfl) (pa_cons (pv 3) pa_nil))) (pss_cons (ps_if (pt_not (pt_val (pe_df D__law_alike (hr.mono (by decide)) (by rfl) (pa_cons (pe_lst (pa_cons (pe_df D_show_crowds (hr.mono (by decide)) (by rfl) (pa_cons (pv 3) pa_nil)) (pa_cons (pe_dfK D_show_crowds ["crowds"] (fun l => l) (hr.mono (by decide)) (by rfl) (pk_cons (pv 3) pk_nil) (fun _ _ _ _ _ _ ws hl => match ws, hl with | [_], _ => rfl) (fun r => r)) pa_nil))) (pa_cons (pe_lst (pa_cons (pv 5) (pa_cons (pv 5) pa_nil))) pa_nil))))) (pss_one (ps_ret pe_bl)) pss_nil) (pss_cons (ps_set (i := 6) nd rfl (.inl rfl) (pe_df D_read_crowds (hr.mono (by decide)) (by rfl) (pa_cons (pv 5) pa_nil))) (pss_cons (ps_if (pt_not (pt_val (pe_df D__law_alike (hr.mono (by decide)) (by rfl) (pa_cons (pv 6) (pa_cons (pv 4) pa_nil))))) (pss_one (ps_ret pe_bl)) pss_nil) (pss_cons (ps_expr (pe_bm PySem.F.plainAttrs_list PySem.F.slot_list_append PySem.F.type_list_append mt_append (pv 6) (pa_cons (pe_tup (pa_cons pe_int (pa_cons pe_int pa_nil))) pa_nil))) (pss_one (ps_if (pt_not (pt_val (pe_df D__law_alike (hr.mono (by decide)) (by rfl) (pa_cons (pe_lst (pa_cons (pe_dfK D_read_crowds ["text"] (fun l => l) (hr.mono (by decide)) (by rfl) (pk_cons (pv 5) pk_nil) (fun _ _ _ _ _ _ ws hl => match ws, hl with | [_], _ => rfl) (fun r => r)) (pa_cons (pv 3) pa_nil))) (pa_cons (pe_lst (pa_cons (pv 4) (pa_cons (pv 4) pa_nil))) pa_nil))))) (pss_one (ps_ret pe_bl)) pss_nil))))))))))
    (pss_one (ps_ret pe_bl)))), ?_⟩
    -- tray
    refine ⟨.ref a, rfl, a, ns, rfl, hS, hl, fun H1 t g s1 nt ng hT => ?_⟩
    refine ⟨.ref a, rfl, 12, rfl, a, _, rfl, s1.seq hS, fun c nc => ?_⟩
    rw [show cutV (ns.map V.int) none (some 12) = (ns.map V.int).take 12 from cut_to _ 12, ← List.map_take]
    have hT2 : Tray (upd H1 c (.lst ((ns.take 12).map V.int))) t g 0 := hT.keep (same_new nc)
    refine ⟨c, _, rfl, .inl (SqL.of upd_same), _, _, rfl, rfl, .inr (by rw [List.length_map, List.length_take]; omega), _, _, rfl, rfl, _, rfl, by omega, by rw [List.length_map, List.length_take]; omega, ?_⟩
    have hlaps : ((5 : Int) + 3 * (((ns.take 12).map V.int).length : Int)).toNat ≤ 41 := by
      rw [List.length_map, List.length_take]
      omega
    generalize upd H1 c (.lst ((ns.take 12).map V.int)) = H2 at hT2 ⊢
    refine for_it walk_range (fun i σ H2 => ∃ y2 y3 y4 y5 y6, σ = [some (.ref a), some (.ref t), y2, y3, y4, y5, y6] ∧ Tray H2 t g (1000 * i)) ⟨_, _, _, _, _, rfl, hT2⟩ (fun _ _ _ _ _ => trivial) (fun i x σ H3 H4 hi hW hY => ?_) (fun σ H2 hW => ?_)
    · obtain ⟨y2, y3, y4, y5, y6, rfl, T3⟩ := hW
      obtain ⟨rfl, rfl⟩ := hY
      have hi41 : i ≤ 40 := by omega
      -- folk
      refine ⟨.ref t, rfl, (by show 2 ≤ sizeLine; decide), fun p np => ?_⟩
      have op : Off t g p := T3.off np
      refine ⟨.ref t, rfl, t, g, 1000 * i, 2, rfl, T3.mut op, by omega, by decide, by decide, fun H5 r5 k5 T5 a5 b5 => ?_⟩
      obtain ⟨most, hv, hm0, hm1⟩ := pick2 (P := fun x => 0 < x ∧ x ≤ 40) (a := 3) (b := 40) a5 b5 ⟨by decide, by decide⟩ ⟨by decide, by decide⟩
      obtain ⟨m, rfl⟩ : ∃ m : Nat, most = (m : Int) := ⟨most.toNat, by omega⟩
      refine ⟨p, _, _, _, rfl, rfl, SqL.of (k5 _ _ op upd_same), hv, t, g, _, m, rfl, T5, by omega, by omega, fun H6 o ts cs k6 T6 hG6 hno hC hcl hb => ?_⟩
      have hG6 : GsAt H6 (Off t g) o ts cs := hG6.weaken fun b hb => T5.off hb
      have hg : cs.length ≤ 1000 := by omega
      -- held = list(folk)
      refine ⟨.ref o, rfl, o, _, rfl, .inl hG6.seq, fun hd nhd => ?_⟩
      have s7 : Same H6 (upd H6 hd (.lst (ts.map V.ref))) := same_new nhd
      have ohd : Off t g hd := T6.off nhd
      have hG7 := hG6.same s7
      have hH7 : GsAt (upd H6 hd (.lst (ts.map V.ref))) (Off t g) hd ts cs := ⟨upd_same, ohd, hG6.len, hG7.at', hG6.b⟩
      have T7 := T6.keep s7
      generalize upd H6 hd (.lst (ts.map V.ref)) = H7 at hG7 hH7 T7 ⊢
      -- due
      refine ⟨.ref o, rfl, _, o, ts, cs, rfl, hG7, hb, hg, fun H8 s8 => ?_⟩
      have hG8 := hG7.same s8
      have hH8 := hH7.same s8
      have T8 := T7.keep s8
      -- show_crowds
      refine ⟨.ref o, rfl, _, o, ts, cs, rfl, hG8, hb, hg, fun H9 s9 => ?_⟩
      refine ⟨.ref o, rfl, rfl, _, o, ts, cs, rfl, hG8.same s9, hb, hg, fun H10 s10 => ?_⟩
      refine ⟨(by show 2 ≤ sizeLine; decide), fun u nu => ?_⟩
      refine ⟨_, rfl, _, rfl, (by show 2 ≤ sizeLine; decide), fun u2 nu2 => ?_⟩
      have eu := upd_same (H := H10) (a := u) (o := .lst [.str (S (textOf 120 cs)), .str (S (textOf 120 cs))])
      have su := same_new (o := .lst [.str (S (textOf 120 cs)), .str (S (textOf 120 cs))]) nu
      have su2 := same_new (o := .lst [.str (S (textOf 120 cs)), .str (S (textOf 120 cs))]) nu2
      refine ⟨.ref u, .ref u2, rfl, Alk.two (su2 _ _ eu) upd_same (Alk.sca rfl) (Alk.sca rfl), fun H11 s11 => ⟨_, rfl, iteF ?_⟩⟩
      have s811 : Same H8 H11 := s9.trans (s10.trans (su.trans (su2.trans s11)))
      -- read_crowds
      refine ⟨_, rfl, cs, rfl, hC, hb, hg, fun H12 tl us s12 hR hni => ?_⟩
      have s812 := s811.trans s12
      refine ⟨.ref tl, rfl, .ref hd, rfl, _, _, rfl, Alk.prs hR (hH8.same s812) (by omega), fun H13 s13 => ⟨_, rfl, iteF ?_⟩⟩
      have hR13 := hR.same s13
      have nt8 : H8 tl = none := by
        cases e2 : H8 tl with
        | none => rfl
        | some x => exact absurd (s811 _ _ e2) (by rw [hR.ba]; simp)
      -- told.append((1, 0))
      refine ⟨.ref tl, rfl, .inl ⟨rfl, _, hR13.seq⟩, (by show 2 ≤ sizeLine; decide), fun v nv => ?_⟩
      have sv := same_new (o := .tup [.int 1, .int 0]) nv
      refine ⟨tl, _, _, rfl, rfl, (hR13.same sv).top, ils (by rw [List.length_map, hR.len]; omega), ?_⟩
      have kL : Kp (Liv H8 (Off t g)) H8 (upd (upd H13 v (.tup [.int 1, .int 0])) tl (.lst (us.map V.ref ++ [.ref v]))) := (Kp.of (s812.trans (s13.trans sv))).mut (Liv.no nt8)
      have T14 : Tray (upd (upd H13 v (.tup [.int 1, .int 0])) tl (.lst (us.map V.ref ++ [.ref v]))) t g (1000 * i + 501) := (((T8.keep s812).keep (s13.trans sv)).mut (T8.off nt8)).more (by omega)
      generalize upd (upd H13 v (.tup [.int 1, .int 0])) tl (.lst (us.map V.ref ++ [.ref v])) = H14 at kL T14 ⊢
      have hGL := hG8.liv
      have hHL := hH8.liv
      refine ⟨_, rfl, rfl, cs, rfl, hC, hb, hg, fun H15 tl2 us2 s15 hR2 hni2 => ?_⟩
      have k15 := kL.trans (.of s15)
      refine ⟨.ref o, rfl, (by show 2 ≤ sizeLine; decide), fun u3 nu3 => ?_⟩
      refine ⟨.ref hd, rfl, .ref hd, rfl, (by show 2 ≤ sizeLine; decide), fun u4 nu4 => ?_⟩
      have su3 := same_new (o := .lst [.ref tl2, .ref o]) nu3
      have su4 := same_new (o := .lst [.ref hd, .ref hd]) nu4
      have k16 := k15.trans (.of (su3.trans su4))
      refine ⟨.ref u3, .ref u4, rfl, Alk.two (su4 _ _ upd_same) upd_same (Alk.prs (hR2.same (su3.trans su4)) (hHL.keep k16) (by omega)) (Alk.prs (hGL.keep k16) (hHL.keep k16) (by omega)), fun H17 s17 => ⟨_, rfl, iteF ?_⟩⟩
      exact ⟨_, _, _, _, _, rfl, ((T14.keep s15).keep (su3.trans (su4.trans s17))).more (by omega)⟩
    · exact q _
end
end El
namespace El
open PySem PySem.Spec PyProof.Rows L2
theorem all_mk {l : PySem.W.OpenLaw} {w : World} {K : PySem.W.Frag} {h : Heap} {mg : Str → Option Value} {fa f1 f2 f3 f4 f5 f6 f7 f8 f9 f10 f11 f12 f13 : Addr} (X : K.In h) (G : h.Ns mainGlobals mg) (hfa : mg "law" = some (.ref fa))
    {od1 an1 od2 an2 od3 an3 od4 an4 od5 an5 od6 an6 od7 an7 od8 an8 od9 an9 od10 an10 od11 an11 od12 an12 od13 an13 : Option Addr} {sl1 sl2 sl3 sl4 sl5 sl6 sl7 sl8 sl9 sl10 sl11 sl12 sl13 : Array (Option Value)} {oc1 kV1 dc1 pm1 cd1 ct1 oc2 kV2 dc2 pm2 cd2 ct2 oc3 kV3 dc3 pm3 cd3 ct3 oc4 kV4 dc4 pm4 cd4 ct4 oc5 kV5 dc5 pm5 cd5 ct5 oc6 kV6 dc6 pm6 cd6 ct6 oc7 kV7 dc7 pm7 cd7 ct7 oc8 kV8 dc8 pm8 cd8 ct8 oc9 kV9 dc9 pm9 cd9 ct9 oc10 kV10 dc10 pm10 cd10 ct10 oc11 kV11 dc11 pm11 cd11 ct11 oc12 kV12 dc12 pm12 cd12 ct12 oc13 kV13 dc13 pm13 cd13 ct13 : Value}
    (a1 : PySem.W.nsIn K mainGlobals "show_crowds" = some (some (.ref f1))) (l1 : K.lookup f1 = some ⟨oc1, od1, .func (PySem.W.fnOf "show_crowds" "show_crowds" (defArgs s_show_crowds) (defBody s_show_crowds) (defScope s_show_crowds) .none kV1 dc1 pm1 an1 cd1 ct1), sl1⟩) (c1 : PySem.W.codeIn K cd1 "show_crowds" = true) (k1 : PySem.W.keepIn K (.ref f1) = true)
    (a2 : PySem.W.nsIn K mainGlobals "is_crowd" = some (some (.ref f2))) (l2 : K.lookup f2 = some ⟨oc2, od2, .func (PySem.W.fnOf "is_crowd" "is_crowd" (defArgs s_is_crowd) (defBody s_is_crowd) (defScope s_is_crowd) .none kV2 dc2 pm2 an2 cd2 ct2), sl2⟩) (c2 : PySem.W.codeIn K cd2 "is_crowd" = true) (k2 : PySem.W.keepIn K (.ref f2) = true)
    (a3 : PySem.W.nsIn K mainGlobals "is_number" = some (some (.ref f3))) (l3 : K.lookup f3 = some ⟨oc3, od3, .func (PySem.W.fnOf "is_number" "is_number" (defArgs s_is_number) (defBody s_is_number) (defScope s_is_number) .none kV3 dc3 pm3 an3 cd3 ct3), sl3⟩) (c3 : PySem.W.codeIn K cd3 "is_number" = true) (k3 : PySem.W.keepIn K (.ref f3) = true)
    (a4 : PySem.W.nsIn K mainGlobals "read_numbers" = some (some (.ref f4))) (l4 : K.lookup f4 = some ⟨oc4, od4, .func (PySem.W.fnOf "read_numbers" "read_numbers" (defArgs s_read_numbers) (defBody s_read_numbers) (defScope s_read_numbers) .none kV4 dc4 pm4 an4 cd4 ct4), sl4⟩) (c4 : PySem.W.codeIn K cd4 "read_numbers" = true) (k4 : PySem.W.keepIn K (.ref f4) = true)
    (a5 : PySem.W.nsIn K mainGlobals "parts_of" = some (some (.ref f5))) (l5 : K.lookup f5 = some ⟨oc5, od5, .func (PySem.W.fnOf "parts_of" "parts_of" (defArgs s_parts_of) (defBody s_parts_of) (defScope s_parts_of) .none kV5 dc5 pm5 an5 cd5 ct5), sl5⟩) (c5 : PySem.W.codeIn K cd5 "parts_of" = true) (k5 : PySem.W.keepIn K (.ref f5) = true)
    (a6 : PySem.W.nsIn K mainGlobals "read_twos" = some (some (.ref f6))) (l6 : K.lookup f6 = some ⟨oc6, od6, .func (PySem.W.fnOf "read_twos" "read_twos" (defArgs s_read_twos) (defBody s_read_twos) (defScope s_read_twos) .none kV6 dc6 pm6 an6 cd6 ct6), sl6⟩) (c6 : PySem.W.codeIn K cd6 "read_twos" = true) (k6 : PySem.W.keepIn K (.ref f6) = true)
    (a7 : PySem.W.nsIn K mainGlobals "read_crowds" = some (some (.ref f7))) (l7 : K.lookup f7 = some ⟨oc7, od7, .func (PySem.W.fnOf "read_crowds" "read_crowds" (defArgs s_read_crowds) (defBody s_read_crowds) (defScope s_read_crowds) .none kV7 dc7 pm7 an7 cd7 ct7), sl7⟩) (c7 : PySem.W.codeIn K cd7 "read_crowds" = true) (k7 : PySem.W.keepIn K (.ref f7) = true)
    (a8 : PySem.W.nsIn K mainGlobals "_law_tray" = some (some (.ref f8))) (l8 : K.lookup f8 = some ⟨oc8, od8, .func (PySem.W.fnOf "_law_tray" "_law_tray" (defArgs s__law_tray) (defBody s__law_tray) (defScope s__law_tray) .none kV8 dc8 pm8 an8 cd8 ct8), sl8⟩) (c8 : PySem.W.codeIn K cd8 "_law_tray" = true) (k8 : PySem.W.keepIn K (.ref f8) = true)
    (a9 : PySem.W.nsIn K mainGlobals "_law_draw" = some (some (.ref f9))) (l9 : K.lookup f9 = some ⟨oc9, od9, .func (PySem.W.fnOf "_law_draw" "_law_draw" (defArgs s__law_draw) (defBody s__law_draw) (defScope s__law_draw) .none kV9 dc9 pm9 an9 cd9 ct9), sl9⟩) (c9 : PySem.W.codeIn K cd9 "_law_draw" = true) (k9 : PySem.W.keepIn K (.ref f9) = true)
    (a10 : PySem.W.nsIn K mainGlobals "_law_alike" = some (some (.ref f10))) (l10 : K.lookup f10 = some ⟨oc10, od10, .func (PySem.W.fnOf "_law_alike" "_law_alike" (defArgs s__law_alike) (defBody s__law_alike) (defScope s__law_alike) .none kV10 dc10 pm10 an10 cd10 ct10), sl10⟩) (c10 : PySem.W.codeIn K cd10 "_law_alike" = true) (k10 : PySem.W.keepIn K (.ref f10) = true)
    (a11 : PySem.W.nsIn K mainGlobals "_law_crowds" = some (some (.ref f11))) (l11 : K.lookup f11 = some ⟨oc11, od11, .func (PySem.W.fnOf "_law_crowds" "_law_crowds" (defArgs s__law_crowds) (defBody s__law_crowds) (defScope s__law_crowds) .none kV11 dc11 pm11 an11 cd11 ct11), sl11⟩) (c11 : PySem.W.codeIn K cd11 "_law_crowds" = true) (k11 : PySem.W.keepIn K (.ref f11) = true)
    (a12 : PySem.W.nsIn K mainGlobals "_law_crowds_written" = some (some (.ref f12))) (l12 : K.lookup f12 = some ⟨oc12, od12, .func (PySem.W.fnOf "_law_crowds_written" "_law_crowds_written" (defArgs s__law_crowds_written) (defBody s__law_crowds_written) (defScope s__law_crowds_written) .none kV12 dc12 pm12 an12 cd12 ct12), sl12⟩) (c12 : PySem.W.codeIn K cd12 "_law_crowds_written" = true) (k12 : PySem.W.keepIn K (.ref f12) = true)
    (a13 : PySem.W.nsIn K mainGlobals "law" = some (some (.ref f13))) (l13 : K.lookup f13 = some ⟨oc13, od13, .func (PySem.W.fnOf "law" "law" (defArgs s_law) (defBody s_law) (defScope s_law) .none kV13 dc13 pm13 an13 cd13 ct13), sl13⟩) (c13 : PySem.W.codeIn K cd13 "law" = true) (k13 : PySem.W.keepIn K (.ref f13) = true)
    {tMF : Tok}
    (gMF : PySem.W.nsIn K mainGlobals "MOST_FIGURES" = some (some (.int 30 tMF)))
    (z1 : PySem.W.nsIn K mainGlobals "len" = some none) (z2 : PySem.W.nsIn K mainGlobals "range" = some none) (z3 : PySem.W.nsIn K mainGlobals "enumerate" = some none) (z4 : PySem.W.nsIn K mainGlobals "sorted" = some none) (z5 : PySem.W.nsIn K mainGlobals "sum" = some none) (z6 : PySem.W.nsIn K mainGlobals "min" = some none) (z7 : PySem.W.nsIn K mainGlobals "max" = some none) (z8 : PySem.W.nsIn K mainGlobals "isinstance" = some none) (z9 : PySem.W.nsIn K mainGlobals "zip" = some none) (z10 : PySem.W.nsIn K mainGlobals "list" = some none) (z11 : PySem.W.nsIn K mainGlobals "tuple" = some none) (z12 : PySem.W.nsIn K mainGlobals "int" = some none) (z13 : PySem.W.nsIn K mainGlobals "bool" = some none) (z14 : PySem.W.nsIn K mainGlobals "str" = some none) (z15 : PySem.W.nsIn K mainGlobals "abs" = some none) (z16 : PySem.W.nsIn K mainGlobals "repr" = some none) (z17 : PySem.W.nsIn K mainGlobals "dict" = some none) (z18 : PySem.W.nsIn K mainGlobals "any" = some none) (z19 : PySem.W.nsIn K mainGlobals "all" = some none) (z20 : PySem.W.nsIn K mainGlobals "set" = some none) (z21 : PySem.W.nsIn K mainGlobals "reversed" = some none) (z22 : PySem.W.nsIn K mainGlobals "ValueError" = some none) (z23 : PySem.W.nsIn K mainGlobals "divmod" = some none) :
    ∃ fd : FuncData, (∀ (s : Shared) (v : Value), BindsTo s fd ⟨[v], []⟩ [("script", v)]) ∧ ∀ base : Heap, K.In base → base.Ns mainGlobals mg → FnOk l.prog w K mg base CX0 5 fa fd ["script"] (sp_law K) := by
  obtain rfl : f13 = fa := by
    have e := (PySem.W.mg_of X G a13).symm.trans hfa
    injection e with e
    injection e
  have B : Bi mg := ⟨PySem.W.mg_none_of X G z1, PySem.W.mg_none_of X G z2, PySem.W.mg_none_of X G z3, PySem.W.mg_none_of X G z4, PySem.W.mg_none_of X G z5, PySem.W.mg_none_of X G z6, PySem.W.mg_none_of X G z7, PySem.W.mg_none_of X G z8, PySem.W.mg_none_of X G z9, PySem.W.mg_none_of X G z10, PySem.W.mg_none_of X G z11, PySem.W.mg_none_of X G z12, PySem.W.mg_none_of X G z13, PySem.W.mg_none_of X G z14, PySem.W.mg_none_of X G z15, PySem.W.mg_none_of X G z16, PySem.W.mg_none_of X G z17, PySem.W.mg_none_of X G z18, PySem.W.mg_none_of X G z19, PySem.W.mg_none_of X G z20, PySem.W.mg_none_of X G z21, PySem.W.mg_none_of X G z22, PySem.W.mg_none_of X G z23⟩
  have A1 : At K mg "show_crowds" P_show_crowds s_show_crowds := .mk' X G a1 l1 c1 k1 fun _ _ _ _ _ _ us hl => match us, hl with | [_], _ => rfl
  have A2 : At K mg "is_crowd" P_is_crowd s_is_crowd := .mk' X G a2 l2 c2 k2 fun _ _ _ _ _ _ us hl => match us, hl with | [_, _], _ => rfl
  have A3 : At K mg "is_number" P_is_number s_is_number := .mk' X G a3 l3 c3 k3 fun _ _ _ _ _ _ us hl => match us, hl with | [_], _ => rfl
  have A4 : At K mg "read_numbers" P_read_numbers s_read_numbers := .mk' X G a4 l4 c4 k4 fun _ _ _ _ _ _ us hl => match us, hl with | [_, _, _], _ => rfl
  have A5 : At K mg "parts_of" P_parts_of s_parts_of := .mk' X G a5 l5 c5 k5 fun _ _ _ _ _ _ us hl => match us, hl with | [_, _], _ => rfl
  have A6 : At K mg "read_twos" P_read_twos s_read_twos := .mk' X G a6 l6 c6 k6 fun _ _ _ _ _ _ us hl => match us, hl with | [_, _], _ => rfl
  have A7 : At K mg "read_crowds" P_read_crowds s_read_crowds := .mk' X G a7 l7 c7 k7 fun _ _ _ _ _ _ us hl => match us, hl with | [_], _ => rfl
  have A8 : At K mg "_law_tray" P__law_tray s__law_tray := .mk' X G a8 l8 c8 k8 fun _ _ _ _ _ _ us hl => match us, hl with | [_], _ => rfl
  have A9 : At K mg "_law_draw" P__law_draw s__law_draw := .mk' X G a9 l9 c9 k9 fun _ _ _ _ _ _ us hl => match us, hl with | [_, _], _ => rfl
  have A10 : At K mg "_law_alike" P__law_alike s__law_alike := .mk' X G a10 l10 c10 k10 fun _ _ _ _ _ _ us hl => match us, hl with | [_, _], _ => rfl
  have A11 : At K mg "_law_crowds" P__law_crowds s__law_crowds := .mk' X G a11 l11 c11 k11 fun _ _ _ _ _ _ us hl => match us, hl with | [_, _], _ => rfl
  have A12 : At K mg "_law_crowds_written" P__law_crowds_written s__law_crowds_written := .mk' X G a12 l12 c12 k12 fun _ _ _ _ _ _ us hl => match us, hl with | [_], _ => rfl
  have A13 : At K mg "law" P_law s_law := .mk' X G a13 l13 c13 k13 fun _ _ _ _ _ _ us hl => match us, hl with | [_], _ => rfl
  refine ⟨PySem.W.fnOf "law" "law" (defArgs s_law) (defBody s_law) (defScope s_law) .none kV13 dc13 pm13 an13 cd13 ct13, fun s v => .of_eq rfl, fun base _ _ => ?_⟩
  have G_MOST_FIGURES := PySem.W.mg_of X G gMF
  have D_show_crowds := ok_show_crowds (P := l.prog) (w := w) (base := base) A1 B
  have D_is_crowd := ok_is_crowd (P := l.prog) (w := w) (base := base) A2 
  have D_is_number := ok_is_number (P := l.prog) (w := w) (base := base) A3 B G_MOST_FIGURES
  have D_read_numbers := ok_read_numbers (P := l.prog) (w := w) (base := base) A4 B D_is_number
  have D_parts_of := ok_parts_of (P := l.prog) (w := w) (base := base) A5 B
  have D_read_twos := ok_read_twos (P := l.prog) (w := w) (base := base) A6 B D_parts_of D_read_numbers
  have D_read_crowds := ok_read_crowds (P := l.prog) (w := w) (base := base) A7 B D_read_twos D_is_crowd
  have D__law_tray := ok__law_tray (P := l.prog) (w := w) (base := base) A8 B
  have D__law_draw := ok__law_draw (P := l.prog) (w := w) (base := base) A9 B
  have D__law_alike := ok__law_alike (P := l.prog) (w := w) (base := base) A10 B 3
  have D__law_crowds := ok__law_crowds (P := l.prog) (w := w) (base := base) A11 B D__law_draw
  have D__law_crowds_written := ok__law_crowds_written (P := l.prog) (w := w) (base := base) A12 B
  have D_law := ok_law (P := l.prog) (w := w) (base := base) A13 B D__law_tray D__law_draw D__law_crowds D__law_crowds_written D_show_crowds D_read_crowds D__law_alike
  exact D_law.at hfa l13
end El
open PySem PySem.W PyProof.Rows
set_option maxRecDepth 100000 in
set_option maxHeartbeats 0 in
theorem PySem.Challenge.cw_elderinn_k51_crowds_written_holds : PySem.Challenge.rw_elderinn_k51_crowds_written.Holds := by
  w_on; o_law; k_head; (case hw => w_witness2)
  k_fill
  refine L2.walk_of (l := PySem.Challenge.rw_elderinn_k51_crowds_written) (n := 63) (k := 5) (x := "script") (CX := fun _ => L2.CX0) (sp := fun w => El.sp_law _) rfl (by decide) rfl ⟨rfl, by decide, by decide⟩ (fun w h Y => PySem.W.kIn_of Y) ?F (fun _ _ a ns hl _ hS => ⟨a, ns, rfl, hS, hl, fun _ => rfl⟩) (fun _ _ _ _ _ h => h)
  case F =>
    intro w mg fa h KX G hmg
    refine' El.all_mk KX G hmg ?a1 ?l1 ?c1 ?k1 ?a2 ?l2 ?c2 ?k2 ?a3 ?l3 ?c3 ?k3 ?a4 ?l4 ?c4 ?k4 ?a5 ?l5 ?c5 ?k5 ?a6 ?l6 ?c6 ?k6 ?a7 ?l7 ?c7 ?k7 ?a8 ?l8 ?c8 ?k8 ?a9 ?l9 ?c9 ?k9 ?a10 ?l10 ?c10 ?k10 ?a11 ?l11 ?c11 ?k11 ?a12 ?l12 ?c12 ?k12 ?a13 ?l13 ?c13 ?k13 ?gMF ?z1 ?z2 ?z3 ?z4 ?z5 ?z6 ?z7 ?z8 ?z9 ?z10 ?z11 ?z12 ?z13 ?z14 ?z15 ?z16 ?z17 ?z18 ?z19 ?z20 ?z21 ?z22 ?z23
    (case a1 => k_is)
    (case l1 => k_is)
    (case c1 => k_is)
    (case k1 => k_is)
    (case a2 => k_is)
    (case l2 => k_is)
    (case c2 => k_is)
    (case k2 => k_is)
    (case a3 => k_is)
    (case l3 => k_is)
    (case c3 => k_is)
    (case k3 => k_is)
    (case a4 => k_is)
    (case l4 => k_is)
    (case c4 => k_is)
    (case k4 => k_is)
    (case a5 => k_is)
    (case l5 => k_is)
    (case c5 => k_is)
    (case k5 => k_is)
    (case a6 => k_is)
    (case l6 => k_is)
    (case c6 => k_is)
    (case k6 => k_is)
    (case a7 => k_is)
    (case l7 => k_is)
    (case c7 => k_is)
    (case k7 => k_is)
    (case a8 => k_is)
    (case l8 => k_is)
    (case c8 => k_is)
    (case k8 => k_is)
    (case a9 => k_is)
    (case l9 => k_is)
    (case c9 => k_is)
    (case k9 => k_is)
    (case a10 => k_is)
    (case l10 => k_is)
    (case c10 => k_is)
    (case k10 => k_is)
    (case a11 => k_is)
    (case l11 => k_is)
    (case c11 => k_is)
    (case k11 => k_is)
    (case a12 => k_is)
    (case l12 => k_is)
    (case c12 => k_is)
    (case k12 => k_is)
    (case a13 => k_is)
    (case l13 => k_is)
    (case c13 => k_is)
    (case k13 => k_is)
    (case gMF => k_is)
    (case z1 => k_is)
    (case z2 => k_is)
    (case z3 => k_is)
    (case z4 => k_is)
    (case z5 => k_is)
    (case z6 => k_is)
    (case z7 => k_is)
    (case z8 => k_is)
    (case z9 => k_is)
    (case z10 => k_is)
    (case z11 => k_is)
    (case z12 => k_is)
    (case z13 => k_is)
    (case z14 => k_is)
    (case z15 => k_is)
    (case z16 => k_is)
    (case z17 => k_is)
    (case z18 => k_is)
    (case z19 => k_is)
    (case z20 => k_is)
    (case z21 => k_is)
    (case z22 => k_is)
    (case z23 => k_is)
