import PyProof.Rows.All
import Wide.All
import OpenK.AllK
import Wide.FinOn
import HandS.ForMost
import HandS.AnyAll
import HandS.GenOver
import HandS.Wide
import HandS.IsInst
import HandS.ExcOwn
import HandS.Style
import HandS.SortInts
import KE.KExcStr
import HandS.EndTab
import PySem.Challenge.RW_holeslides_k03_pieces
set_option Elab.async false
set_option linter.all false
set_option maxRecDepth 100000
set_option maxHeartbeats 4000000
/-! GenE: any, all, sum of a generator expression over anything that PI serves; tests and element any pure expression of the layer. -/
namespace XG
open PySem PySem.Spec PyProof.Rows L2 GxR
open Sem (wp)

/-! ### who draws -/
/-- n items are drawn: St i stands ahead of the i-th; Dn: what is left in any case -/
structure Pull (prog : Program) (w : World) (A : Around) (I : Addr) (n : Nat) (P : Nat → Value → Prop) (St : Nat → Shared → Prop) (Dn : Shared → Prop) : Prop where
  item : ∀ i (s : Shared) (Q : Option Value → Shared → Prop) (E : Value → Shared → Prop), i < n → St i s → (∀ v s', P i v → St (i + 1) s' → Q (some v) s') → wpAny (model prog w) A (pyNext (.ref I)) Q E s
  done : ∀ (s : Shared) (Q : Option Value → Shared → Prop) (E : Value → Shared → Prop), St n s → (∀ s', Dn s' → Q none s') → wpAny (model prog w) A (pyNext (.ref I)) Q E s
  out : ∀ i s, St i s → Dn s
  self : ∀ i (s : Shared) (Q : Value → Shared → Prop) (E : Value → Shared → Prop), St i s → Q (.ref I) s → wpAny (model prog w) A (pyIter (.ref I)) Q E s

section
variable {prog : Program} {w : World} {A : Around} {R : Result → Shared → Prop} {I : Addr} {n : Nat} {P : Nat → Value → Prop} {St : Nat → Shared → Prop} {Dn : Shared → Prop} {E : Value → Shared → Prop} {s : Shared}

theorem any_loop (W : Pull prog w A.in1 I n P St Dn) (tr : Nat → Bool) (htr : ∀ i v, P i v → v = .bool (tr i)) : ∀ (k i : Nat) (s : Shared), n - i = k → i ≤ n → St i s →
    (∀ s', Dn s' → R (.ok (.ret (.bool (((List.range n).drop i).any tr)))) s') → codeAny (model prog w) A (.builtin "any.loop" ⟨[.ref I], []⟩) R s := by
  intro k
  induction k with
  | zero =>
    intro i s hk hi hst hR
    have hin : i = n := by omega
    subst hin
    refine codeAny_builtin F.entry_any_loop ?_
    rw [Around.under_plainId F.plain_any_loop _]
    show wpAny _ A.in1 (pyNext (.ref I) >>= _) _ _ s
    refine wpAny_bind (W.done s _ _ hst fun s' hm => ?_)
    refine wpAny_bind (wpAny_rule (wpAny_pure ?_))
    have := hR s' hm
    rw [List.drop_of_length_le (by simp)] at this
    exact this
  | succ k ih =>
    intro i s hk hi hst hR
    have hlt : i < n := by omega
    have hd : (List.range n).drop i = i :: (List.range n).drop (i + 1) := by
      rw [List.drop_eq_getElem_cons (by simpa using hlt)]; simp
    refine codeAny_builtin F.entry_any_loop ?_
    rw [Around.under_plainId F.plain_any_loop _]
    show wpAny _ A.in1 (pyNext (.ref I) >>= _) _ _ s
    refine wpAny_bind (W.item i s _ _ hlt hst fun v s' hP hst' => ?_)
    have hv := htr i v hP
    subst hv
    refine wpAny_bind (wpAny_holding (wpAny_truthy_bool ?_))
    refine wpAny_bind (wpAny_letGo ?_)
    cases hb : tr i with
    | false =>
      simp only [Bool.false_eq_true, if_false]
      refine wpAny_pure ⟨plainId_quiet F.plain_any_loop _, ih (i + 1) _ (by omega) hlt hst' fun s'' hm' => ?_⟩
      have := hR s'' hm'
      rw [hd, List.any_cons, hb, Bool.false_or] at this
      exact this
    | true =>
      simp only [if_true]
      refine wpAny_bind (wpAny_rule (wpAny_pure ?_))
      have := hR s' (W.out _ _ hst')
      rw [hd, List.any_cons, hb, Bool.true_or] at this
      exact this
theorem all_loop (W : Pull prog w A.in1 I n P St Dn) (tr : Nat → Bool) (htr : ∀ i v, P i v → v = .bool (tr i)) : ∀ (k i : Nat) (s : Shared), n - i = k → i ≤ n → St i s →
    (∀ s', Dn s' → R (.ok (.ret (.bool (((List.range n).drop i).all tr)))) s') → codeAny (model prog w) A (.builtin "all.loop" ⟨[.ref I], []⟩) R s := by
  intro k
  induction k with
  | zero =>
    intro i s hk hi hst hR
    have hin : i = n := by omega
    subst hin
    refine codeAny_builtin F.entry_all_loop ?_
    rw [Around.under_plainId F.plain_all_loop _]
    show wpAny _ A.in1 (pyNext (.ref I) >>= _) _ _ s
    refine wpAny_bind (W.done s _ _ hst fun s' hm => ?_)
    refine wpAny_bind (wpAny_rule (wpAny_pure ?_))
    have := hR s' hm
    rw [List.drop_of_length_le (by simp)] at this
    exact this
  | succ k ih =>
    intro i s hk hi hst hR
    have hlt : i < n := by omega
    have hd : (List.range n).drop i = i :: (List.range n).drop (i + 1) := by
      rw [List.drop_eq_getElem_cons (by simpa using hlt)]; simp
    refine codeAny_builtin F.entry_all_loop ?_
    rw [Around.under_plainId F.plain_all_loop _]
    show wpAny _ A.in1 (pyNext (.ref I) >>= _) _ _ s
    refine wpAny_bind (W.item i s _ _ hlt hst fun v s' hP hst' => ?_)
    have hv := htr i v hP
    subst hv
    refine wpAny_bind (wpAny_holding (wpAny_truthy_bool ?_))
    refine wpAny_bind (wpAny_letGo ?_)
    cases hb : tr i with
    | true =>
      simp only [if_true]
      refine wpAny_pure ⟨plainId_quiet F.plain_all_loop _, ih (i + 1) _ (by omega) hlt hst' fun s'' hm' => ?_⟩
      have := hR s'' hm'
      rw [hd, List.all_cons, hb, Bool.true_and] at this
      exact this
    | false =>
      simp only [Bool.false_eq_true, if_false]
      refine wpAny_bind (wpAny_rule (wpAny_pure ?_))
      have := hR s' (W.out _ _ hst')
      rw [hd, List.all_cons, hb, Bool.false_and] at this
      exact this
theorem call_any {x : Value} {Q : Value → Shared → Prop} (tr : Nat → Bool) (htr : ∀ i v, P i v → v = .bool (tr i)) (W : Pull prog w A.in1 I n P St Dn) (hst : St 0 s) (hQ : ∀ s', Dn s' → Q (.bool ((List.range n).any tr)) s') :
    wpAny (model prog w) A (call (.builtin "any") [.ref I]) Q E s := by
  refine call_function_tree F.kind_any F.plain_any F.entry_any (F.args_any1 _) ?_
  unfold Builtin.«any»
  refine wpAny_bind (m := oneArg "any" _) (wpAny_pure ?_)
  refine wpAny_bind (W.self 0 _ _ _ hst ?_)
  exact wpAny_pure ⟨plainId_quiet F.plain_any_loop _, any_loop W tr htr n 0 s rfl (Nat.zero_le _) hst fun s' hm => by simpa using hQ s' hm⟩
theorem call_all {x : Value} {Q : Value → Shared → Prop} (tr : Nat → Bool) (htr : ∀ i v, P i v → v = .bool (tr i)) (W : Pull prog w A.in1 I n P St Dn) (hst : St 0 s) (hQ : ∀ s', Dn s' → Q (.bool ((List.range n).all tr)) s') :
    wpAny (model prog w) A (call (.builtin "all") [.ref I]) Q E s := by
  refine call_function_tree F.kind_all F.plain_all F.entry_all (F.args_all1 _) ?_
  unfold Builtin.«all»
  refine wpAny_bind (m := oneArg "all" _) (wpAny_pure ?_)
  refine wpAny_bind (W.self 0 _ _ _ hst ?_)
  exact wpAny_pure ⟨plainId_quiet F.plain_all_loop _, all_loop W tr htr n 0 s rfl (Nat.zero_le _) hst fun s' hm => by simpa using hQ s' hm⟩


/-- the object in which sum keeps what it has -/
abbrev sumObj (i : Int) (t : Tok) (c : Nat) : Obj := { cls := .type "list", dict := none, data := .seq #[.int i t] c, slots := #[] }
theorem sum_loop {S : Addr} {T : Int → Tok → Nat → Nat → Shared → Prop} (W : ∀ z t c, Pull prog w A.in1 I n P (T z t c) Dn)
    (hS : ∀ z t c i s, T z t c i s → s.heap.get? S = some (sumObj z t c))
    (hu : ∀ z t c i (s : Shared) z' t' c' h' tk, T z t c i s → (∀ b, b ≠ S → h'.get? b = s.heap.get? b) → h'.get? S = some (sumObj z' t' c') → T z' t' c' i { s with heap := h', toks := tk })
    (val : Nat → Int) (hval : ∀ i v, P i v → ∃ t, v = .int (val i) t) (hfit : ∀ j, j < n → InLong (val j) ∧ InLong (preSum val (j + 1))) :
    ∀ (k i : Nat) (s : Shared) (tA : Tok) (c : Nat), n - i = k → i ≤ n → T (preSum val i) tA c i s →
    (∀ s' t', Dn s' → R (.ok (.ret (.int (preSum val n) t'))) s') → codeAny (model prog w) A (.builtin "sum.loop" ⟨[.ref I, .ref S, rawInt 0, rawInt 0], []⟩) R s := by
  intro k
  induction k with
  | zero =>
    intro i s tA c hk hi hst hR
    have hin : i = n := by omega
    subst hin
    refine codeAny_builtin F.entry_sum_loop ?_
    rw [Around.under_plainId F.plain_sum_loop _]
    show wpAny _ A.in1 (seqItems? (.ref S) >>= _) _ _ s
    refine wpAny_bind (wpAny_seqItems (hS _ _ _ _ _ hst) rfl ?_)
    show wpAny _ A.in1 (tryCatch (pyNext (.ref I)) _ >>= _) _ _ s
    refine wpAny_bind (wpAny_tryCatch ((W _ _ _).done s _ _ hst fun s' hm => ?_))
    exact wpAny_pure (hR s' tA hm)
  | succ k ih =>
    intro i s tA c hk hi hst hR
    have hlt : i < n := by omega
    refine codeAny_builtin F.entry_sum_loop ?_
    rw [Around.under_plainId F.plain_sum_loop _]
    show wpAny _ A.in1 (seqItems? (.ref S) >>= _) _ _ s
    refine wpAny_bind (wpAny_seqItems (hS _ _ _ _ _ hst) rfl ?_)
    show wpAny _ A.in1 (tryCatch (pyNext (.ref I)) _ >>= _) _ _ s
    refine wpAny_bind (wpAny_tryCatch ((W _ _ _).item i s _ _ hlt hst fun v s' hP hst' => ?_))
    obtain ⟨t, rfl⟩ := hval i v hP
    have hS' := hS _ _ _ _ _ hst'
    obtain ⟨⟨f1, f2⟩, f3, f4⟩ := hfit i hlt
    have hc : ((decide (-(2 ^ 63) ≤ val i) && decide (val i < 2 ^ 63)) && (decide (-(2 ^ 63) ≤ preSum val i + val i) && decide (preSum val i + val i < 2 ^ 63))) = true := by
      simp only [preSum] at f3 f4
      simp only [Bool.and_eq_true, decide_eq_true_eq]
      exact ⟨⟨f1, f2⟩, f3, f4⟩
    show wpAny _ A.in1 (if (_ : Bool) = true then (mkInt (preSum val i + val i) >>= _) else _) _ _ _
    split
    · refine wpAny_bind (wpAny_mkInt ?_)
      show wpAny _ A.in1 (updateSeq S (fun _ => #[.int (preSum val i + val i) s'.toks]) >>= _) _ _ _
      refine wpAny_bind ?_
      refine wpAny_updateSeq hS' rfl (wpAny_pure ⟨plainId_quiet F.plain_sum_loop _, ih (i + 1) _ s'.toks _ (by omega) hlt
        (hu _ _ _ _ s' _ _ _ _ _ hst' (fun b hb => Heap.get?_update_other _ _ (fun h : S = b => hb h.symm)) (Heap.get?_update_self _ hS' rfl)) hR⟩)
    · rename_i hneg
      exact absurd hc hneg
theorem call_sum {Q : Value → Shared → Prop} {T : Int → Tok → Nat → Nat → Shared → Prop} (W : ∀ z t c, Pull prog w A.in1 I n P (T z t c) Dn)
    (hself : ∀ (Q : Value → Shared → Prop) (E : Value → Shared → Prop), Q (.ref I) s → wpAny (model prog w) A.in1 (pyIter (.ref I)) Q E s)
    (hS : ∀ z t c i s', T z t c i s' → s'.heap.get? s.heap.objs.size = some (sumObj z t c))
    (hu : ∀ z t c i (s' : Shared) z' t' c' h' tk, T z t c i s' → (∀ b, b ≠ s.heap.objs.size → h'.get? b = s'.heap.get? b) → h'.get? s.heap.objs.size = some (sumObj z' t' c') → T z' t' c' i { s' with heap := h', toks := tk })
    (h0 : ∀ c tk t, T 0 t c 0 { s with heap := s.heap.push (sumObj 0 t c), toks := tk })
    (val : Nat → Int) (hval : ∀ i v, P i v → ∃ t, v = .int (val i) t) (hfit : ∀ j, j < n → InLong (val j) ∧ InLong (preSum val (j + 1)))
    (hQ : ∀ s' t', Dn s' → Q (.int (preSum val n) t') s') :
    wpAny (model prog w) A (call (.builtin "sum") [.ref I]) Q E s := by
  refine call_function_tree F.kind_sum F.plain_sum F.entry_sum (F.args_sum1 _) ?_
  unfold Builtin.«sum»
  simp only [List.length_cons, List.length_nil]
  rw [if_neg (by decide)]
  refine wpAny_bind (wpAny_of_eq (show Builtin.Builtins.bindParams "sum" ["start"] 0 { } = pure [none] from rfl) ?_)
  refine wpAny_bind (hself _ _ ?_)
  refine wpAny_bind (wpAny_mkInt ?_)
  refine wpAny_bind (wpAny_pure ?_)
  simp only [List.forIn_cons, List.forIn_nil]
  refine wpAny_bind (wpAny_bind (wpAny_bind (wpAny_isInstance (T := "int") (b := false) (typeIs_int _ _ _) PySem.sub_int_str ?_)))
  simp only [Bool.false_eq_true, if_false]
  refine wpAny_pure (wpAny_bind (wpAny_bind (wpAny_isInstance (T := "int") (b := false) (typeIs_int _ _ _) PySem.sub_int_bytes ?_)))
  simp only [Bool.false_eq_true, if_false]
  refine wpAny_pure (wpAny_bind (wpAny_bind (wpAny_isInstance (T := "int") (b := false) (typeIs_int _ _ _) PySem.sub_int_bytearray ?_)))
  simp only [Bool.false_eq_true, if_false]
  refine wpAny_pure (wpAny_pure ?_)
  refine wpAny_bind (wpAny_newObj_type ?_)
  exact wpAny_pure ⟨plainId_quiet F.plain_sum_loop _, sum_loop W hS hu val hval hfit n 0 _ s.toks 0 rfl (Nat.zero_le _) (h0 _ _ _) hQ⟩
end

/-! ### heaps whose tables may grow -/
def TabEq (H H' : Hp) : Prop := ∀ b, H' b = H b ∨ ∃ ps ps' : Array Value, H b = some (.tbl ps) ∧ H' b = some (.tbl ps') ∧ (TriplesOk ps.toList → TriplesOk ps'.toList)
/-- all that was tracked is as it was, but for tables -/
def Gr (H H' : Hp) : Prop := ∀ b o, H b = some o → H' b = some o ∨ ∃ ps ps' : Array Value, o = .tbl ps ∧ H' b = some (.tbl ps') ∧ (TriplesOk ps.toList → TriplesOk ps'.toList)
theorem Gr.refl (H : Hp) : Gr H H := fun _ _ e => .inl e
theorem Gr.trans {H H1 H2 : Hp} (a : Gr H H1) (b : Gr H1 H2) : Gr H H2 := fun c o e => by
  rcases a c o e with h | ⟨ps, ps', rfl, h, t⟩
  · exact b c o h
  · rcases b c _ h with h2 | ⟨qs, qs', e2, h2, t2⟩
    · exact .inr ⟨ps, ps', rfl, h2, t⟩
    · cases e2
      exact .inr ⟨ps, qs', rfl, h2, fun x => t2 (t x)⟩
theorem Gr.same {H H' : Hp} (h : Same H H') : Gr H H' := fun b o e => .inl (h b o e)
theorem TabEq.refl (H : Hp) : TabEq H H := fun _ => .inl rfl
theorem TabEq.gr {H H' : Hp} (h : TabEq H H') : Gr H H' := fun b o e => by
  rcases h b with q | ⟨ps, ps', h1, h2, t⟩
  · exact .inl (q.trans e)
  · rw [h1] at e; cases e
    exact .inr ⟨ps, ps', rfl, h2, t⟩
theorem TabEq.trans {H H1 H2 : Hp} (a : TabEq H H1) (b : TabEq H1 H2) : TabEq H H2 := fun c => by
  rcases a c with h | ⟨ps, ps', h0, h, t⟩
  · rcases b c with g | ⟨qs, qs', g0, g, u⟩
    · exact .inl (g.trans h)
    · exact .inr ⟨qs, qs', h ▸ g0, g, u⟩
  · rcases b c with g | ⟨qs, qs', g0, g, u⟩
    · exact .inr ⟨ps, ps', h0, g.trans h, t⟩
    · rw [h] at g0; cases g0
      exact .inr ⟨ps, qs', h0, g, fun x => u (t x)⟩
theorem TabEq.of_tabbed {P : Addr} {H H' : Hp} (hT : TabG H P) (h : Tabbed P H H') : TabEq H H' := fun b => by
  by_cases e : b = P
  · subst e
    obtain ⟨ps, h1, _⟩ := hT
    obtain ⟨⟨ps', h2, t⟩, _⟩ := h
    exact .inr ⟨ps, ps', h1, h2, fun _ => t⟩
  · exact .inl (h.2 b e)
theorem Gr.tab {H H' : Hp} {P : Addr} (h : Gr H H') (t : TabG H P) : TabG H' P := by
  obtain ⟨ps, e, t⟩ := t
  rcases h P _ e with q | ⟨qs, qs', e2, q, u⟩
  · exact ⟨ps, q, t⟩
  · cases e2; exact ⟨qs', q, u t⟩
theorem Gr.free {H H' : Hp} (h : Gr H H') {b : Addr} (e : H' b = none) : H b = none := by
  cases q : H b with
  | none => rfl
  | some o =>
    rcases h b o q with z | ⟨_, _, _, z, _⟩ <;> rw [e] at z <;> cases z
/-- no dict with tuples as keys -/
def plainO : HO → Bool
  | .dT _ => false
  | .frz _ u => plainO u
  | _ => true
def NoT (H : Hp) : Prop := ∀ b o, H b = some o → plainO o = true
/-- H' cut to what H has -/
def cutH (H H' : Hp) : Hp := fun b => if (H b).isSome then H' b else none
theorem cut_eq {H H' : Hp} {b : Addr} {o : HO} (h : H b = some o) : cutH H H' b = H' b := by unfold cutH; rw [h]; rfl
theorem cut_none {H H' : Hp} {b : Addr} (h : H b = none) : cutH H H' b = none := by unfold cutH; rw [h]; rfl
theorem cut_tab {H Hi H' : Hp} (a : TabEq H Hi) (g : Gr Hi H') : TabEq H (cutH H H') := fun b => by
  cases q : H b with
  | none => exact .inl (cut_none q)
  | some o =>
    rw [cut_eq q]
    rcases (a.gr.trans g) b o q with z | ⟨ps, ps', rfl, z, t⟩
    · exact .inl z
    · exact .inr ⟨ps, ps', rfl, z, t⟩
theorem TabEq.noT {H H' : Hp} (a : TabEq H H') (n : NoT H) : NoT H' := fun b o e => by
  rcases a b with q | ⟨ps, ps', _, h2, _⟩
  · exact n b o (q ▸ e)
  · rw [e] at h2; cases h2; rfl

section
variable {P : Program} {w : World} {H H' : Hp} {h0 h1 : Heap} {a : Addr}
theorem obj_cut {G : Hp} (gi : ∀ b x, H b = some (.own x) → G b = some (.own x)) : ∀ {o : HO}, plainO o = true → ObjOk P w H h0 a o → ObjOk P w H' h1 a o → ObjOk P w G h1 a o
  | .lst _, _, _, y => y
  | .tup _, _, _, y => y
  | .dK _, _, _, y => y
  | .dT _, p, _, _ => by cases p
  | .set _ _, _, _, y => y
  | .ins _ _ _, _, x, y => ⟨gi _ _ x.1, y.2⟩
  | .own _, _, _, y => y
  | .xd _, _, _, y => y
  | .rng _ _, _, _, y => y
  | .frz _ u, p, x, y => ⟨y.1, obj_cut gi (o := u) p x.2 y.2⟩
  | .tbl _, _, _, y => y
  | .met _ _, _, _, y => y
  | .ext _, _, _, y => y
end
section
variable {X : Cx} {p0 pins : List (Addr × Obj)} {σ0 σ : L2.St} {H Hi H4 : Hp} {s0 s1 : Shared}
/-- what came on the way is forgotten -/
theorem forget (I0 : Inv X p0 σ0 Hi s0) (I1 : Inv X pins σ H4 s1) (e : TabEq H Hi) (g : Gr Hi H4) (nt : NoT H) : Inv X pins σ (cutH H H4) s1 := by
  have hs : ∀ b o, Hi b = some o → ∃ o', H b = some o' := fun b o q => by
    rcases e b with z | ⟨ps, _, z, _, _⟩
    · exact ⟨o, z ▸ q⟩
    · exact ⟨_, z⟩
  have hn : ∀ b, H4 b = none → cutH H H4 b = none := fun b q => by
    unfold cutH
    split
    · exact q
    · rfl
  have hn0 : ∀ b, Hi b = none → cutH H H4 b = none := fun b q => by
    cases z : H b with
    | none => exact cut_none z
    | some o =>
      rcases e.gr b o z with y | ⟨_, _, _, y, _⟩ <;> rw [q] at y <;> cases y
  have hk : ∀ b o, (∀ ps, o ≠ .tbl ps) → Hi b = some o → cutH H H4 b = some o := fun b o nt' q => by
    obtain ⟨o', z⟩ := hs b o q
    rw [cut_eq z]
    rcases g b o q with y | ⟨ps, _, y, _⟩
    · exact y
    · exact absurd y (nt' ps)
  refine ⟨I1.ok, I1.os, I1.bare, ⟨I1.base.keep, I1.base.slot, fun b o q n hx => hn b (I1.base.free b o q n hx), I1.base.there, fun b xs q => hk b _ (fun _ z => by cases z) (I0.base.tups b xs q), fun b o u q => hk b _ (fun _ z => by cases z) (I0.base.frzs b o u q), fun b ps q => ?_⟩,
    I1.loc, I1.cell, hn _ I1.free, fun x c q => hn _ (I1.freeC x c q), fun p hp => ?_, fun b o q => ?_, I1.len⟩
  · obtain ⟨m, z⟩ := I0.base.tbls b ps q
    obtain ⟨o', z'⟩ := hs b _ z
    obtain ⟨m', y⟩ := I1.base.tbls b ps q
    exact ⟨m', (cut_eq z').trans y⟩
  · obtain ⟨h1, h2, h3, h4, h5⟩ := I1.pin p hp
    exact ⟨h1, hn _ h2, h3, h4, h5⟩
  · have : ∃ o', H b = some o' := by
      cases z : H b with
      | none => rw [cut_none z] at q; cases q
      | some o' => exact ⟨o', rfl⟩
    obtain ⟨o', z⟩ := this
    rw [cut_eq z] at q
    have y1 := I1.hok b o q
    rcases e.gr b o' z with y | ⟨ps, ps', rfl, y, _⟩
    · rcases g b o' y with u | ⟨ps, ps', rfl, u, _⟩
      · rw [q] at u; cases u
        exact obj_cut (fun c x v => hk c _ (fun _ z => by cases z) v) (nt b o z) (I0.hok b o y) y1
      · rw [q] at u; cases u; exact y1
    · rcases g b _ y with u | ⟨_, _, _, u, _⟩
      · rw [q] at u; cases u; exact y1
      · rw [q] at u; cases u; exact y1
/-- only the table of generators differs -/
theorem inv_gens {g' : Array GenState} {t' : Nat} (I : Inv X pins σ H s1) (hg : AllBare g') : Inv X pins σ H { s1 with gens := g', toks := t' } :=
  ⟨I.ok, I.os, hg, I.base, I.loc, I.cell, I.free, I.freeC, I.pin, I.hok, I.len⟩
end
end XG

set_option Elab.async false
set_option linter.all false
set_option maxRecDepth 100000
set_option maxHeartbeats 4000000
namespace XG
open PySem PySem.Spec PyProof.Rows L2 GxR
open Sem (wp)

/-- the context of a generator expression's frame: made at s with H; its iterator's objects at fp -/
abbrev gcx (X : Cx) (s : Shared) (H : Hp) (cenv : Env) (fp : List Addr) (A : Around) : Cx :=
  { X with A := A, s_0 := s, H_0 := H, env := cenv, outer := X.stack, stack := cenv :: X.stack, ex := fp, fn := fun _ => false, pn := [], xe := fun _ _ => False }
/-- its names: own ones (with their places in N), captured ones -/
structure GBlk (N : List Str) (sc scope : Scope) (own : List (Str × Nat)) : Prop where
  kind : scope.kind = .function
  co : scope.isCoroutine = false
  cell : ∀ y ∈ scope.names, y.2 ≠ .cell
  dot : scope.names.lookup (".0" : Str) = some NameKind.local
  uniq : ∀ y ∈ scope.names, scope.names.lookup y.1 = some y.2
  ix : ∀ p ∈ own, N[p.2]? = some p.1
  free : ∀ y ∈ scope.names, y.2 = .free → sc.names.lookup y.1 = some .cell ∨ sc.names.lookup y.1 = some .free
  own : ∀ y ∈ scope.names, y.2 = .local ∨ y.2 = .cell → y.1 ∈ own.map (·.1) ∨ y.1 ∉ N

section
variable {X : Cx} {pins : List (Addr × Obj)} {σ : L2.St} {H : Hp} {s : Shared}
theorem gen_start {scope : Scope} {own : List (Str × Nat)} {fp : List Addr} {A' : Around} {code : Value} {s5 : Shared} {m5 : Str → Option Value} (I : Inv X pins σ H s) (ok : GBlk X.N X.env.scope scope own) (hN : X.N.Nodup)
    (hfp : ∀ b ∈ fp, FpOk X pins H b ∧ b < s.heap.objs.size)
    (hA : A'.frames = some (genEnv scope (cloFrom X.env.cells scope.names []) s.heap.objs.size code builtinsNs X.env :: X.stack)) (hh : A'.handled = none)
    (hos : s5.os = s.os) (hb5 : AllBare s5.gens) (kp : ∀ b o, s.heap.get? b = some o → s5.heap.get? b = some o) (hn5 : s5.heap.Ns s.heap.objs.size m5) :
    Inv (gcx X s H (genEnv scope (cloFrom X.env.cells scope.names []) s.heap.objs.size code builtinsNs X.env) fp A') [] (wipe σ (own.map (·.2))) H s5 := by
  have hfree : ∀ y ∈ scope.names, y.2 = .free → ∃ c, X.env.cells.lookup y.1 = some c := fun y hy e => by
    rcases ok.free y hy e with k | k
    · exact I.ok.has _ (.inl k)
    · exact I.ok.has _ (.inr k)
  have cm : ∀ {y c}, (y, c) ∈ cloFrom X.env.cells scope.names [] → X.env.cells.lookup y = some c ∧ c < s.heap.objs.size := fun {y c} hm => by
    rcases cloFrom_mem hm with hm | ⟨h1, rfl⟩
    · cases hm
    · obtain ⟨c, hc⟩ := hfree _ h1 rfl
      rw [hc]
      obtain ⟨w, z⟩ := I.cell _ _ hc
      exact ⟨rfl, z.lt⟩
  generalize hcenv : genEnv scope (cloFrom X.env.cells scope.names []) s.heap.objs.size code builtinsNs X.env = cenv at *
  have hL : cenv.locals = s.heap.objs.size := by rw [← hcenv]; rfl
  have hcl : cenv.cells = cloFrom X.env.cells scope.names [] := by rw [← hcenv]; rfl
  have hsc : cenv.scope = scope := by rw [← hcenv]; rfl
  have mem : ∀ {y c}, cenv.cells.lookup y = some c → X.env.cells.lookup y = some c ∧ c < s.heap.objs.size := fun {y c} e => by
    rw [hcl] at e
    exact cm (PySem.mem_of_lookup e)
  have look : ∀ {y}, scope.names.lookup y = some .free → ∃ c, cenv.cells.lookup y = some c ∧ X.env.cells.lookup y = some c := fun {y} hl => by
    have hy : (y, NameKind.free) ∈ scope.names := PySem.mem_of_lookup hl
    obtain ⟨c', e'⟩ := mem_lookup (cloFrom_has (cells := X.env.cells) (acc := []) hy)
    rw [← hcl] at e'
    exact ⟨c', e', (mem e').1⟩
  have okB : (gcx X s H cenv fp A').Ok := by
    refine ⟨I.ok.mod, by show cenv.scope.kind = _; rw [hsc]; exact ok.kind, by show cenv.globals = _; rw [← hcenv]; exact I.ok.glob, by show cenv.builtins = _; rw [← hcenv]; rfl, by show s.heap.objs.size ≤ cenv.locals; rw [hL]; exact Nat.le_refl _,
      fun y z c e1 e2 => I.ok.inj y z c (mem e1).1 (mem e2).1, fun y hy => ?_, fun y c z e => (by cases z), fun _ => hh, hA, .inr ⟨rfl, by show cenv.frame = some cenv.locals; rw [← hcenv]; rfl⟩, fun b hb => ⟨?_, fun y c e z => ?_⟩, I.bs, Nat.le_trans I.ok.bsz I.sz, fun b o e hb => ?_, fun b hb z => ?_, I.stack, I.stkFree⟩
    · show ∃ c, cenv.cells.lookup y = some c
      have hy : scope.names.lookup y = some .cell ∨ scope.names.lookup y = some .free := by
        unfold Env.kindOf at hy
        rw [show (gcx X s H cenv fp A').env.scope = scope from hsc] at hy
        exact hy
      rcases hy with hy | hy
      · exact absurd rfl (ok.cell _ (PySem.mem_of_lookup hy))
      · obtain ⟨c, h1, _⟩ := look hy
        exact ⟨c, h1⟩
    · show b ≠ cenv.locals
      rw [hL]; exact Nat.ne_of_lt (hfp b hb).2
    · exact (hfp b hb).1.2.2.2.2.1 y c (mem e).1 z
    · rcases (hfp b hb).1.2.2.2.1 with z | z
      · exact I.ok.noex b o e z
      · exact absurd (Nat.lt_of_lt_of_le (Heap.lt_size e) (Nat.le_trans I.ok.bsz z)) (Nat.lt_irrefl _)
    · rcases List.mem_cons.mp (I.stkSub b z) with z | z
      · exact (hfp b hb).1.2.1 z
      · exact (hfp b hb).1.2.2.1 z
  refine ⟨okB, hos, hb5, Un.kept kp, ⟨m5, ?_, fun i y av e1 e2 e3 => ?_⟩, fun y c e => ?_, ?_, fun y c e => ?_, fun p hp => ?_, I.hok.kept kp, by rw [wipe_length]; exact I.len⟩
  · show Heap.Ns _ cenv.locals _
    rw [hL]
    exact hn5
  · obtain ⟨e2, hne⟩ := wipe_some e2
    have hfr : scope.names.lookup y = some .free := by
      have no : ∀ k, scope.names.lookup y = some k → k = .local ∨ k = .cell → False := fun k e hh => by
        rcases ok.own _ (PySem.mem_of_lookup e) hh with e' | e'
        · obtain ⟨p, hp, hpy⟩ := List.mem_map.mp e'
          have e3 := ok.ix p hp
          have : p.1 = y := hpy
          rw [this] at e3
          exact hne (List.mem_map.mpr ⟨p, hp, nodup_ix hN e3 e1⟩)
        · exact e' (List.mem_of_getElem? e1)
      have e3 : Vis cenv.scope y := e3
      rw [hsc] at e3
      rcases e3 with e3 | e3 | e3
      · exact (no _ e3 (.inl rfl)).elim
      · exact (no _ e3 (.inr rfl)).elim
      · exact e3
    obtain ⟨m, hn, hl⟩ := I.loc
    have hvis : Vis X.env.scope y := (ok.free _ (PySem.mem_of_lookup hfr) rfl).elim (fun k => .inr (.inl k)) (fun k => .inr (.inr k))
    obtain ⟨w, r, q⟩ := hl i y av e1 e2 hvis
    refine ⟨w, r, .inr ⟨.inr (by show cenv.scope.names.lookup y = _; rw [hsc]; exact hfr), ?_⟩⟩
    obtain ⟨c, h1, h2⟩ := look hfr
    rcases q with ⟨k, _⟩ | ⟨_, c', e', z⟩
    · have k : X.env.scope.names.lookup y = some .local := k
      rcases ok.free _ (PySem.mem_of_lookup hfr) rfl with k' | k' <;> rw [show X.env.scope.names.lookup y = _ from k'] at k <;> cases k
    · rw [h2] at e'; cases e'
      exact ⟨c, h1, z.keeps kp⟩
  · obtain ⟨w, z⟩ := I.cell y c (mem e).1
    exact ⟨w, z.keeps kp⟩
  · show H cenv.locals = none
    rw [hL]; exact I.hok.fresh (Nat.le_refl _)
  · exact I.freeC y c (mem e).1
  · exact absurd (show p ∈ ([] : List (Addr × Obj)) ++ [] from hp) (by simp)
/-- what is left behind the generator -/
theorem gen_left {cenv : Env} {fp : List Addr} {A' : Around} {pg : List (Addr × Obj)} {σg : L2.St} {H' : Hp} {s' : Shared} (I : Inv X pins σ H s) (hfp : ∀ b ∈ fp, FpOk X pins H b ∧ b < s.heap.objs.size) (J : Inv (gcx X s H cenv fp A') pg σg H' s') : Inv X pins σ H' s' :=
  I.call' J.os J.base J.hok J.bare fun b hb => by
    obtain ⟨f0, f1, f2, f3, f4, f5⟩ := (hfp b hb).1
    refine ⟨f3.imp id fun z => z, f1, f4, f5⟩
end

/-! ### the turns -/
/-- for the i-th item: the tests' answer, the element's value -/
def GenTurns (n : Nat) (pz : Nat → Bool) (F : Nat → V) (J : It) (g : TG) (tt : TT) (te : TE) (σg : L2.St) (H : Hp) : Prop :=
  (∀ i, i < n → J.go i H ∧ ∀ x H', J.yld i H x H' → Gr H H' ∧ g x σg H' fun σ2 H2 => (∀ (j : Nat) v, σg[j]? = some (some v) → σ2[j]? = some (some v)) ∧ Gr H H2 ∧
    tt σ2 H2 fun b H3 => b = pz i ∧ (b = false → Gr H H3) ∧ (b = true → te σ2 H3 fun v H4 => v = F i ∧ Gr H H4)) ∧ J.stop n H

section
variable {X : Cx} {H : Hp} {s4 : Shared} {cenv : Env} {fp : List Addr} {A : Around} {it : Addr} {J : It} {tn : Nat → Heap → Prop} {g : TG} {tt : TT} {te : TE} {σg : L2.St} {n : Nat} {pz : Nat → Bool} {F : Nat → V} {tg elt iter : Expr} {ifs : List Expr} {scope : Scope} {pos : Pos}

/-- the protocol: SS are the addresses that the consumer wants kept -/
def GInv (Xg : Cx) (SS : List Addr) (σg : L2.St) (H : Hp) (s : Shared) : Prop := ∃ Hi, TabEq H Hi ∧ Inv Xg (pinsAt SS s.heap) σg Hi s ∧ ∀ b ∈ SS, ∃ o, s.heap.get? b = some o
def GPr (Xg : Cx) (SS fp : List Addr) (σg : L2.St) (H : Hp) (tn : Nat → Heap → Prop) (n : Nat) (pz : Nat → Bool) (F : Nat → V) : Protocol := fun m s₀ v s kap =>
  ∃ i, (passing pz n 0)[(passing pz n 0).length - 1 - m]? = some i ∧ RelV (F i) v ∧ tn (i + 1) s.heap ∧ s₀.gens.size ≤ s.gens.size ∧ (∃ Hi, TabEq H Hi ∧ Inv Xg (pinsAt SS s₀.heap) σg Hi s) ∧
    ∀ s'' : Shared, GInv Xg SS σg H s'' → tn (i + 1) s''.heap → kap (.send .none) s''
def GEn (Xg : Cx) (SS : List Addr) (σg : L2.St) (H : Hp) : GenEnd := fun n s₀ r s₁ => r = .ok .next ∧ n = 0 ∧ s₀.gens.size ≤ s₁.gens.size ∧ ∃ Hi, TabEq H Hi ∧ Inv Xg (pinsAt SS s₀.heap) σg Hi s₁


theorem pins_stay {SS : List Addr} {Xg : Cx} {σ : L2.St} {H : Hp} {s₀ s : Shared} (he : ∀ b ∈ SS, ∃ o, s₀.heap.get? b = some o) {more : List (Addr × Obj)} (I : Inv Xg (pinsAt SS s₀.heap ++ more) σ H s) :
    pinsAt SS s.heap = pinsAt SS s₀.heap ∧ ∀ b ∈ SS, ∃ o, s.heap.get? b = some o := by
  have k : ∀ b ∈ SS, s.heap.get? b = s₀.heap.get? b := fun b hb => by
    obtain ⟨o, e⟩ := he b hb
    rw [e]
    exact (I.pin (b, o) (List.mem_append_right _ (List.mem_append_left _ (mem_pinsAt hb e)))).1
  refine ⟨?_, fun b hb => ?_⟩
  · unfold pinsAt
    have go : ∀ l : List Addr, (∀ b ∈ l, s.heap.get? b = s₀.heap.get? b) → l.filterMap (fun b => (s.heap.get? b).map fun o => (b, o)) = l.filterMap (fun b => (s₀.heap.get? b).map fun o => (b, o)) := by
      intro l
      induction l with
      | nil => intro _; rfl
      | cons a r ih =>
        intro h
        rw [List.filterMap_cons, List.filterMap_cons, h a List.mem_cons_self, ih fun b hb => h b (List.mem_cons_of_mem _ hb)]
    exact go SS k
  · obtain ⟨o, e⟩ := he b hb
    exact ⟨o, (k b hb).trans e⟩

theorem gen_loop (SS : List Addr) (hcalm : X.calm = true) (hco : cenv.scope.isCoroutine = false) (T : Turn X.prog X.w X.K tg J fp it tn) (hfp : ∀ Hi (s : Shared) pg, TabEq H Hi → Inv (gcx X s4 H cenv fp A) pg σg Hi s → (∀ p ∈ pg, p.1 ∈ SS) → ∀ b ∈ fp, FpOk (gcx X s4 H cenv fp A) pg Hi b)
    {A₀ : Around} (hA : A₀.over (.compLoop (.GeneratorExp elt [⟨tg, iter, ifs, 0⟩] scope pos) 0 (.ref it) .none cenv) [] = A)
    (hg : PG (gcx X s4 H cenv fp A) tg g) (ht : PTs (gcx X s4 H cenv fp A) ifs tt) (hel : PE (gcx X s4 H cenv fp A) elt te) (nt : NoT H)
    (turn : ∀ Hi, TabEq H Hi → GenTurns n pz F J g tt te σg Hi) :
    ∀ (k i : Nat) (s₀ s : Shared), n - i = k → i ≤ n → (∀ b ∈ SS, ∃ o, s₀.heap.get? b = some o) → (∃ Hi, TabEq H Hi ∧ Inv (gcx X s4 H cenv fp A) (pinsAt SS s₀.heap) σg Hi s) → tn i s.heap → s₀.gens.size ≤ s.gens.size →
      Seg (model X.prog X.w) A₀ (GEn (gcx X s4 H cenv fp A) SS σg H) (GPr (gcx X s4 H cenv fp A) SS fp σg H tn n pz F) (passing pz n i).length s₀
        (.compLoop (.GeneratorExp elt [⟨tg, iter, ifs, 0⟩] scope pos) 0 (.ref it) .none cenv)
        ((model X.prog X.w).den (.compLoop (.GeneratorExp elt [⟨tg, iter, ifs, 0⟩] scope pos) 0 (.ref it) .none cenv)) [] s := by
  have pgs : ∀ s₀ : Shared, ∀ p ∈ pinsAt SS s₀.heap, p.1 ∈ SS := fun s₀ p hp => (of_pinsAt hp).1
  intro k
  induction k with
  | zero =>
    intro i s₀ s hk hi he hI htn hgs
    have hin : i = n := by omega
    subst hin
    obtain ⟨Hi, hte, I⟩ := hI
    show Seg _ A₀ _ _ _ s₀ _ ((compTurn (.GeneratorExp elt [⟨tg, iter, ifs, 0⟩] scope pos) 0 (.ref it) .none cenv).onRaise (leaving cenv)) [] s
    rw [compTurn_gen, Sem.onRaise_eq_wrap]
    refine seg_bind_wrap (wpAny_standAt ?_)
    refine seg_bind_wrap ?_
    rw [hA]
    refine GenW.wpAny_gsz hgs (wpAny_mono (T.done (gcx X s4 H cenv fp A) rfl rfl rfl hcalm i _ s σg Hi (fun _ _ => False) I (hfp Hi s _ hte I (pgs s₀)) htn (turn Hi hte).2) (fun r s1 hr => ?_) fun _ _ z => z.elim)
    obtain ⟨rfl, I1⟩ := hr
    intro hgs1
    exact seg_end (.ok .next) ⟨rfl, by rw [passing_end]; rfl, hgs1, Hi, hte, I1⟩
  | succ k ih =>
    intro i s₀ s hk hi he hI htn hgs
    have hlt : i < n := by omega
    obtain ⟨Hi, hte, I⟩ := hI
    obtain ⟨go, step⟩ := (turn Hi hte).1 i hlt
    show Seg _ A₀ _ _ _ s₀ _ ((compTurn (.GeneratorExp elt [⟨tg, iter, ifs, 0⟩] scope pos) 0 (.ref it) .none cenv).onRaise (leaving cenv)) [] s
    rw [compTurn_gen, Sem.onRaise_eq_wrap]
    refine seg_bind_wrap (wpAny_standAt ?_)
    refine seg_bind_wrap ?_
    rw [hA]
    have hfpi := hfp Hi s _ hte I (pgs s₀)
    refine GenW.wpAny_gsz hgs (wpAny_mono (T.item (gcx X s4 H cenv fp A) rfl rfl rfl hcalm i _ s σg Hi (fun _ _ => False) I hfpi htn go) (fun r s1 hr => ?_) fun _ _ z => z.elim)
    obtain ⟨u, rfl, h1⟩ := hr
    intro hgs1
    refine seg_bind_wrap ?_
    rw [hA]
    refine GenW.wpAny_gsz hgs1 (wpAny_mono h1 (fun _ s2 h2 => ?_) fun _ _ z => z.elim)
    obtain ⟨x, H2, I2, rx, y2, tn2, fr2⟩ := h2
    intro hgs2
    obtain ⟨gr2, step⟩ := step x H2 y2
    have fpo2 : ∀ b ∈ fp, FpOk (gcx X s4 H cenv fp A) (pinsAt SS s₀.heap) H2 b := fun b hb => ⟨fr2 b hb, (hfpi b hb).2⟩
    have I2' := I2.pinned fpo2 (T.obj _ _ tn2)
    refine seg_bind_wrap ?_
    rw [hA]
    refine GenW.wpAny_gsz hgs2 (wpAny_mono (hg.run _ s2 σg H2 x u _ I2' rx step) (fun _ s3 h3 => ?_) fun _ _ z => z.elim)
    obtain ⟨σ3, H3, I3, keep3, gr3, q3⟩ := h3
    intro hgs3
    refine seg_bind_wrap ?_
    rw [hA]
    refine GenW.wpAny_gsz hgs3 (wpAny_mono (ht.run _ s3 σ3 H3 _ I3 q3) (fun ok s4' h4 => ?_) fun _ _ z => z.elim)
    obtain ⟨H4, I4, rfl, q4f, q4t⟩ := h4
    intro hgs4
    have back : ∀ {σ' : L2.St} {H' : Hp} {s' : Shared}, (∀ (j : Nat) v, σg[j]? = some (some v) → σ'[j]? = some (some v)) → Gr Hi H' → Inv (gcx X s4 H cenv fp A) (pinsAt SS s₀.heap ++ pinsAt fp s2.heap) σ' H' s' →
        Inv (gcx X s4 H cenv fp A) (pinsAt SS s₀.heap) σg (cutH H H') s' ∧ TabEq H (cutH H H') ∧ tn (i + 1) s'.heap ∧ pinsAt SS s'.heap = pinsAt SS s₀.heap ∧ ∀ b ∈ SS, ∃ o, s'.heap.get? b = some o := fun {σ' H' s'} kp gr J => by
      have J2 := (forget I J hte gr nt)
      have tn' : tn (i + 1) s'.heap := T.keep _ _ _ tn2 fun b hb o e => (J2.pin (b, o) (List.mem_append_right _ (List.mem_append_right _ (mem_pinsAt hb e)))).1
      obtain ⟨ps1, ps2⟩ := pins_stay he J2
      exact ⟨(J2.weak (I.len.trans J.len.symm) kp).unpinned, cut_tab hte gr, tn', ps1, ps2⟩
    cases hpz : pz i with
    | false =>
      rw [passing_false hlt hpz]
      obtain ⟨J, te', tn', ps1, ps2⟩ := back keep3 (q4f hpz) I4
      simp only [Bool.false_eq_true, if_false]
      exact seg_again rfl (ih (i + 1) s₀ _ (by omega) hlt he ⟨_, te', J⟩ tn' hgs4)
    | true =>
      rw [PySem.passing_true hlt hpz, List.length_cons]
      simp only [if_true]
      have hy : ∀ v, yieldOut cenv v = yieldValue v := fun v => by simp only [yieldOut, hco, Bool.false_eq_true, if_false]
      simp only [hy]
      rw [Sem.bind_eq_wrap', Sem.bind_eq_wrap', Sem.wrap_wrap, Sem.wrap_wrap]
      refine seg_wrap ?_
      rw [hA]
      refine GenW.wpAny_gsz hgs4 (wpAny_mono (hel.run _ s4' σ3 H4 _ I4 (q4t hpz)) (fun y s5 h5 => ?_) fun _ _ z => z.elim)
      obtain ⟨v5, H5, I5, r5, rfl, gr5⟩ := h5
      intro hgs5
      obtain ⟨J, te', tn', ps1, ps2⟩ := back keep3 gr5 I5
      refine seg_at (seg_yield rfl rfl rfl ⟨i, passing_here hlt hpz, r5, tn', hgs5, ⟨_, te', J⟩, fun s'' hG htn'' => ?_⟩)
      obtain ⟨Hj, tej, Ij, ej⟩ := hG
      exact seg_again rfl (ih (i + 1) s'' s'' (by omega) hlt ej ⟨Hj, tej, Ij⟩ htn'' (Nat.le_refl _))
end
end XG

set_option Elab.async false
set_option linter.all false
set_option maxRecDepth 100000
set_option maxHeartbeats 4000000
namespace XG
open PySem PySem.Spec PyProof.Rows L2 GxR
open Sem (wp)

theorem bare_set {s : Shared} {g : Nat} {x : GenState} (h : AllBare s.gens) (hx : x.bare = true) : AllBare (s.setGen g x).gens := by
  intro y hy
  obtain ⟨i, hi, rfl⟩ := Array.mem_iff_getElem.mp hy
  have e : (s.setGen g x).gens[i]? = some ((s.setGen g x).gens[i]) := Array.getElem?_eq_getElem hi
  by_cases hig : i = g
  · subst hig
    have hlt : i < s.gens.size := by rw [GenW.setGen_size] at hi; exact hi
    have e2 : (s.setGen i x).gens[i]? = some x := setGen_self (Array.getElem?_eq_getElem hlt)
    rw [e] at e2
    have e3 : (s.setGen i x).gens[i] = x := Option.some.inj e2
    rw [e3]
    exact hx
  · have e2 : (s.setGen g x).gens[i]? = s.gens[i]? := (GenOnly.setGen s g x).2 i hig
    rw [e] at e2
    obtain ⟨h1, h2⟩ := Array.getElem?_eq_some_iff.mp e2.symm
    rw [← h2]
    exact h _ (Array.getElem_mem h1)

section
variable {X : Cx} {H : Hp} {s4 : Shared} {cenv : Env} {fp : List Addr} {A₀ : Around} {it : Addr} {J : It} {tn : Nat → Heap → Prop} {g : TG} {tt : TT} {te : TE} {σg : L2.St} {n : Nat} {pz : Nat → Bool} {F : Nat → V} {tg elt iter : Expr} {ifs : List Expr} {scope : Scope} {pos : Pos}

/-- all that a generator expression's frame needs -/
structure GenOk (X : Cx) (s4 : Shared) (H : Hp) (cenv : Env) (fp : List Addr) (A₀ A : Around) (it : Addr) (J : It) (tn : Nat → Heap → Prop) (g : TG) (tt : TT) (te : TE) (σg : L2.St) (n : Nat) (pz : Nat → Bool) (F : Nat → V) (tg elt iter : Expr) (ifs : List Expr) (scope : Scope) (pos : Pos) : Prop where
  calm : X.calm = true
  co : cenv.scope.isCoroutine = false
  T : Turn X.prog X.w X.K tg J fp it tn
  fpa : ∀ b ∈ fp, H b = none ∧ b ≠ cenv.locals ∧ b ∉ frs X.stack ∧ b < s4.heap.objs.size ∧ ∀ x c, cenv.cells.lookup x = some c → c ≠ b
  hA : A₀.over (.compLoop (.GeneratorExp elt [⟨tg, iter, ifs, 0⟩] scope pos) 0 (.ref it) .none cenv) [] = A
  hg : PG (gcx X s4 H cenv fp A) tg g
  ht : PTs (gcx X s4 H cenv fp A) ifs tt
  hel : PE (gcx X s4 H cenv fp A) elt te
  nt : NoT H
  turn : ∀ Hi, TabEq H Hi → GenTurns n pz F J g tt te σg Hi
variable {A : Around}

theorem GenOk.fpOk (K : GenOk X s4 H cenv fp A₀ A it J tn g tt te σg n pz F tg elt iter ifs scope pos) {SS : List Addr} (hSS : ∀ b ∈ SS, s4.heap.objs.size ≤ b) (Hi : Hp) (s : Shared) (pg : List (Addr × Obj)) (hte : TabEq H Hi) (hp : ∀ p ∈ pg, p.1 ∈ SS) :
    ∀ b ∈ fp, FpOk (gcx X s4 H cenv fp A) pg Hi b := fun b hb => by
  obtain ⟨h1, h2, h3, h4, h5⟩ := K.fpa b hb
  refine ⟨?_, h2, h3, .inl hb, h5, fun p hpp => ?_⟩
  · rcases hte b with z | ⟨_, _, z, _⟩
    · exact z.trans h1
    · rw [h1] at z; cases z
  · have hpp : p ∈ pg := by simpa using hpp
    exact fun z => Nat.lt_irrefl _ (Nat.lt_of_lt_of_le h4 (z ▸ hSS _ (hp p hpp)))

theorem GenOk.begin (K : GenOk X s4 H cenv fp A₀ A it J tn g tt te σg n pz F tg elt iter ifs scope pos) {SS : List Addr} (hSS : ∀ b ∈ SS, s4.heap.objs.size ≤ b) {s : Shared} (hI : GInv (gcx X s4 H cenv fp A) SS σg H s) (htn : tn 0 s.heap) :
    Seg (model X.prog X.w) A₀ (GEn (gcx X s4 H cenv fp A) SS σg H) (GPr (gcx X s4 H cenv fp A) SS fp σg H tn n pz F) (passing pz n 0).length s
      (.compStart (.GeneratorExp elt [⟨tg, iter, ifs, 0⟩] scope pos) 0 (.ref it) .none cenv)
      ((model X.prog X.w).den (.compStart (.GeneratorExp elt [⟨tg, iter, ifs, 0⟩] scope pos) 0 (.ref it) .none cenv)) [] s := by
  obtain ⟨Hi, hte, I, he⟩ := hI
  have loop := gen_loop (iter := iter) (scope := scope) (pos := pos) (A := A) (A₀ := A₀) SS K.calm K.co K.T (fun Hi s pg h1 _ h3 => K.fpOk hSS Hi s pg h1 h3) K.hA K.hg K.ht K.hel K.nt K.turn n 0 s s (Nat.sub_zero _) (Nat.zero_le _) he ⟨Hi, hte, I⟩ htn (Nat.le_refl _)
  show Seg _ A₀ _ _ _ s _ ((compStart (.GeneratorExp elt [⟨tg, iter, ifs, 0⟩] scope pos) 0 (.ref it) .none cenv).onRaise (leaving cenv)) [] s
  unfold compStart
  rw [Sem.onRaise_eq_wrap]
  show Seg _ A₀ _ _ _ s _ ((ask >>= _).wrap _ _ _ _) [] s
  refine seg_bind_wrap (wpAny_askSetting ?_)
  split
  · exact seg_again rfl loop
  · first
      | exact seg_bind_wrap (wpAny_rule (seg_bind_wrap (wpAny_standAt (seg_bind_wrap (K.T.self _ 0 s _ _ htn (seg_again rfl loop))))))
      | (refine seg_bind_wrap (wpAny_rule ?_); show Seg _ A₀ _ _ _ s _ ((standAt iter.pos >>= _).wrap _ _ _ _) [] s; exact seg_bind_wrap (wpAny_standAt (seg_bind_wrap (K.T.self _ 0 s _ _ htn (seg_again rfl loop)))))

/-- ahead of the j-th thing that comes out -/
def GSt (Xg : Cx) (SS fp : List Addr) (σg : L2.St) (H : Hp) (tn : Nat → Heap → Prop) (A₀ : Around) (a : Addr) (gi : Nat) (n : Nat) (pz : Nat → Bool) (F : Nat → V) (pl : List (Addr × Obj)) (j : Nat) (s : Shared) : Prop :=
  pinsAt SS s.heap = pl ∧ s.heap.IsGen a gi ∧ GInv Xg SS σg H s ∧ ∃ gs, s.gens[gi]? = some gs ∧ ∀ s'' : Shared, GInv Xg SS σg H s'' → (∀ b ∈ fp, ∀ o, s.heap.get? b = some o → s''.heap.get? b = some o) →
    gs.Goes (model Xg.prog Xg.w) A₀ (GEn Xg SS σg H) (GPr Xg SS fp σg H tn n pz F) ((passing pz n 0).length - j) (.send .none) s''
def GDn (Xg : Cx) (σg : L2.St) (H : Hp) (s : Shared) : Prop := ∃ Hi pg, TabEq H Hi ∧ Inv Xg pg σg Hi s

theorem ginv_set {Xg : Cx} {SS : List Addr} {s : Shared} {gi : Nat} {x : GenState} (h : GInv Xg SS σg H s) (hx : x.bare = true) : GInv Xg SS σg H (s.setGen gi x) := by
  obtain ⟨Hi, h1, I, he⟩ := h
  exact ⟨Hi, h1, inv_gens (t' := s.toks) I (bare_set I.bare hx), he⟩

theorem GenOk.pull (K : GenOk X s4 H cenv fp A₀ A it J tn g tt te σg n pz F tg elt iter ifs scope pos) {SS : List Addr} (hSS : ∀ b ∈ SS, s4.heap.objs.size ≤ b) {a : Addr} {gi : Nat} (ha : a ∈ SS) {A1 : Around} {pl : List (Addr × Obj)} (hA1 : A₀ = A1.in1) (hh : A1.handled = none) (hroom : A1.depth < recursionLimit) :
    Pull X.prog X.w A1 a (passing pz n 0).length (fun j v => ∃ i, (passing pz n 0)[j]? = some i ∧ RelV (F i) v) (GSt (gcx X s4 H cenv fp A) SS fp σg H tn A₀ a gi n pz F pl) (GDn (gcx X s4 H cenv fp A) σg H) where
  item := fun j s Q E hj st hQ => by
    obtain ⟨hpl, hg, hI, gs, hgs, hgo⟩ := st
    obtain ⟨m, hm⟩ : ∃ m, (passing pz n 0).length - j = m + 1 := ⟨(passing pz n 0).length - j - 1, by omega⟩
    rw [hm] at hgo
    obtain ⟨Hi, hte, I, he⟩ := id hI
    have hlt : gi < s.gens.size := by
      rcases Nat.lt_or_ge gi s.gens.size with h' | h'
      · exact h'
      · rw [Array.getElem?_eq_none h'] at hgs; cases hgs
    subst hA1
    refine wpAny_pyNext_genexpQ (P := fun n s₀ s₁ => n = 0 ∧ s₀.gens.size ≤ s₁.gens.size ∧ ∃ Hi, TabEq H Hi ∧ Inv (gcx X s4 H cenv fp A) (pinsAt SS s₀.heap) σg Hi s₁) hh I.nolimit hroom hg hgs (hgo _ (ginv_set hI rfl) fun _ _ _ e => e) (fun v s₁ gs' hb hv => ?_) (fun s₁ hp h' hk => ?_)
    · obtain ⟨i, hi, hF, htn, hsz, ⟨Hj, tej, Ij⟩, hkap⟩ := hv
      have hidx : (passing pz n 0).length - 1 - (m + 1 - 1) = j := by omega
      rw [hidx] at hi
      have hsz : s.gens.size ≤ s₁.gens.size := by rw [GenW.setGen_size] at hsz; exact hsz
      obtain ⟨ps1, ps2⟩ := pins_stay (more := []) he (show Inv _ (pinsAt SS s.heap ++ []) σg Hj s₁ by rw [List.append_nil]; exact Ij)
      have Ij' : Inv (gcx X s4 H cenv fp A) (pinsAt SS s₁.heap) σg Hj s₁ := by rw [ps1]; exact Ij
      refine hQ v _ ⟨i, hi, hF⟩ ⟨ps1.trans hpl, ?_, ginv_set ⟨Hj, tej, Ij', ps2⟩ hb, gs', ?_, fun s'' hG hfk => ?_⟩
      · obtain ⟨o, nm, qn, ho, r⟩ := hg
        exact ⟨o, nm, qn, (Ij.pin (a, o) (List.mem_append_right _ (mem_pinsAt ha ho))).1, r⟩
      · exact setGen_self (Array.getElem?_eq_getElem (Nat.lt_of_lt_of_le hlt hsz))
      · have e : (passing pz n 0).length - (j + 1) = m := by omega
        rw [e]
        refine hkap s'' hG (K.T.keep _ _ _ htn fun b hb o e => hfk b hb o e)
    · exact absurd hp.1 (Nat.succ_ne_zero m)
  done := fun s Q E st hQ => by
    obtain ⟨hpl, hg, hI, gs, hgs, hgo⟩ := st
    rw [Nat.sub_self] at hgo
    obtain ⟨Hi, hte, I, he⟩ := id hI
    subst hA1
    refine wpAny_pyNext_genexpQ (P := fun n s₀ s₁ => n = 0 ∧ s₀.gens.size ≤ s₁.gens.size ∧ ∃ Hi, TabEq H Hi ∧ Inv (gcx X s4 H cenv fp A) (pinsAt SS s₀.heap) σg Hi s₁) hh I.nolimit hroom hg hgs (hgo _ (ginv_set hI rfl) fun _ _ _ e => e) (fun v s₁ gs' hb hv => ?_) (fun s₁ hp h' hk => ?_)
    · obtain ⟨i, hi, hF, htn, hsz, ⟨Hj, tej, Ij⟩, hkap⟩ := hv
      obtain ⟨ps1, ps2⟩ := pins_stay (more := []) he (show Inv _ (pinsAt SS s.heap ++ []) σg Hj s₁ by rw [List.append_nil]; exact Ij)
      have Ij' : Inv (gcx X s4 H cenv fp A) (pinsAt SS s₁.heap) σg Hj s₁ := by rw [ps1]; exact Ij
      exact False.elim (hkap s₁ ⟨Hj, tej, Ij', ps2⟩ htn)
    · obtain ⟨_, _, Hj, tej, Ij⟩ := hp
      have I1 := inv_gens (t' := s₁.toks) Ij (bare_set (g := gi) (x := .finished) Ij.bare rfl)
      exact hQ _ ⟨Hj, pinsAt SS s.heap, tej, I1.kept (h' := h') (t' := s₁.toks) hk⟩
  out := fun i s st => by
    obtain ⟨Hi, hte, I, he⟩ := st.2.2.1
    exact ⟨Hi, _, hte, I⟩
  self := fun _ _ _ _ st hQ => wpAny_pyIter_gen st.2.1 hQ

theorem GenOk.first (K : GenOk X s4 H cenv fp A₀ A it J tn g tt te σg n pz F tg elt iter ifs scope pos) {SS : List Addr} (hSS : ∀ b ∈ SS, s4.heap.objs.size ≤ b) {a : Addr} {gi : Nat} {s : Shared} (hg : s.heap.IsGen a gi)
    (hgs : s.gens[gi]? = some (.fresh (.compStart (.GeneratorExp elt [⟨tg, iter, ifs, 0⟩] scope pos) 0 (.ref it) .none cenv))) (hI : GInv (gcx X s4 H cenv fp A) SS σg H s) (htn : tn 0 s.heap) : GSt (gcx X s4 H cenv fp A) SS fp σg H tn A₀ a gi n pz F (pinsAt SS s.heap) 0 s :=
  ⟨rfl, hg, hI, _, hgs, fun s'' hG hk => ⟨rfl, K.begin hSS hG (K.T.keep _ _ _ htn fun b hb o e => hk b hb o e)⟩⟩
end
end XG

set_option Elab.async false
set_option linter.all false
set_option maxRecDepth 100000
set_option maxHeartbeats 4000000
namespace XG
open PySem PySem.Spec PyProof.Rows L2 GxR
open Sem (wp)

section
variable {X : Cx} {pins : List (Addr × Obj)} {σ : L2.St} {H : Hp} {s : Shared} {tg elt iter : Expr} {ifs : List Expr} {scope : Scope} {pos gpos : Pos} {own : List (Str × Nat)}

/-- the around of a generator expression's frame that a built-in function of X's wakes -/
abbrev gA (X : Cx) (cenv : Env) : Around := ⟨X.A.handled, X.A.depth + 1, X.A.frames.map fun l => cenv :: l, X.A.guards, X.A.units + 5⟩
theorem over_gen {it : Addr} {cenv : Env} : (X.A.in1.in1).over (.compLoop (.GeneratorExp elt [⟨tg, iter, ifs, 0⟩] scope pos) 0 (.ref it) .none cenv) [] = gA X cenv := by
  first
    | rfl
    | (obtain ⟨a, b, c, d, e⟩ := X.A
       simp [Around.over, marksOver, frameCount, unitsOf, envsOf, guardsOf, pushEnvs, pushGuards, Code.envs, Code.env?, Code.isFrame, Code.guards, Code.isGuard, Code.weight, Code.frames, Code.isCreation, Code.isCaller, Code.cUnits, Around.in1])
theorem gA_room {k : Nat} {cenv : Env} (hr : Room (k + 1) X.A) : Room k (gA X cenv) :=
  ⟨hr.hd, by have := hr.dp; show X.A.depth + 1 + 3 * k + 5 < _; omega, by have := hr.un; show X.A.units + 5 + 16 * k + 200 < _; omega⟩

theorem gen_expr {c P : Addr} {wi : TI} {k : Nat} {Q' : Value → Shared → Prop} {R : It → Hp → Prop}
    (hr : Room (k + 1) X.A) (TB : TabB X.base X.mg c P) (hcode : X.env.code = .ref c) (gb : GBlk X.N X.env.scope scope own) (hN : X.N.Nodup) (hcalm : X.calm = true) (hi : PI X tg iter wi) (hs : ∀ v, genFold iter X.env v = pure v)
    (I : Inv X pins σ H s) (h : wi σ H fun J H1 => TabG H1 P ∧ NoT H1 ∧ R J H1)
    (hQ : ∀ (J : It) (H1 H2 : Hp) (s4 s5 : Shared) (cl : List (Str × Addr)) (code : Value) (C : Addr) (fp : List Addr) (it : Addr) (tn : Nat → Heap → Prop) (a : Addr) (gi : Nat), R J H1 → TabEq H1 H2 → NoT H2 →
      Turn X.prog X.w X.K tg J fp it tn → (∀ b ∈ fp, H2 b = none ∧ b ≠ C ∧ b ∉ frs X.stack ∧ b < s4.heap.objs.size ∧ ∀ x c, cl.lookup x = some c → c ≠ b) →
      Inv (gcx X s4 H2 (genEnv scope cl C code builtinsNs X.env) fp (gA X (genEnv scope cl C code builtinsNs X.env))) [] (wipe σ (own.map (·.2))) H2 s5 → s5.heap.IsGen a gi →
      s5.gens[gi]? = some (.fresh (.compStart (.GeneratorExp elt [⟨tg, iter, ifs, 0⟩] scope gpos) 0 (.ref it) .none (genEnv scope cl C code builtinsNs X.env))) → tn 0 s5.heap → s4.heap.objs.size ≤ a → a < s5.heap.objs.size → H2 a = none → a ≠ C → a ∉ frs X.stack →
      (∃ o, s5.heap.get? a = some o ∧ ∀ v, o.data ≠ .cell v) → s4.heap.objs.size ≤ s5.heap.objs.size →
      (∀ H' pg σg s', Inv (gcx X s4 H2 (genEnv scope cl C code builtinsNs X.env) fp (gA X (genEnv scope cl C code builtinsNs X.env))) pg σg H' s' → Inv X pins σ H' s') → Q' (.ref a) s5) :
    wpAny (model X.prog X.w) X.A (eval (.GeneratorExp elt [⟨tg, iter, ifs, 0⟩] scope gpos) X.env) Q' X.xe s := by
  have hfree : ∀ y ∈ scope.names, y.2 = .free → ∃ c, X.env.cells.lookup y.1 = some c := fun y hy e => by
    rcases gb.free y hy e with k | k
    · exact I.ok.has _ (.inl k)
    · exact I.ok.has _ (.inr k)
  refine wpAny_GeneratorExp_make gb.co (closure_ok hfree) gb.cell gb.dot gb.kind (by have := hr.dp; omega) ?_ hs
  refine thn (hi.run pins s σ H _ I h) fun xv s1 h1 => thn h1 fun itv s2 h2 => ?_
  obtain ⟨it, fp, tn, J, H1, rfl, I2, T, tn2, fp2, ⟨ps, hP, htr⟩, nt, r⟩ := h2
  refine ⟨I2.nolimit, ?_⟩
  have hPs : s2.heap.get? P = some { cls := .none, data := .fields ps } := I2.hok P _ hP
  have cd : PySem.W.CodeHd s2.heap c P := TB.code.keeps fun b u e => I2.bk b u e
  have cont : ∀ (code : Value) (h3 : Heap) (tk : Nat) (ps' : Array Value), Heap.ExtBut P s2.heap h3 → h3.get? P = some { cls := .none, data := .fields ps' } → (∃ more, ps' = ps ++ more) → TriplesOk ps'.toList →
      wpAny (model X.prog X.w) X.A (builtinsFor X.env.globals X.env.builtins) (fun bi s₄ =>
        ∀ h', h'.Ns s₄.heap.objs.size (fun y => if y = ".0" then some (Value.ref it) else none) → Heap.SameBut s₄.heap.objs.size (s₄.heap.push { cls := .type "frame", data := .dict #[] }) h' →
          Q' (.ref h'.objs.size) { s₄ with
            gens := s₄.gens.push (.fresh (.compStart (.GeneratorExp elt [⟨tg, iter, ifs, 0⟩] scope gpos) 0 (.ref it) .none (genEnv scope (cloFrom X.env.cells scope.names []) s₄.heap.objs.size code bi X.env))),
            toks := s₄.toks + 1 + 1 + 1,
            heap := h'.push { cls := .type "generator", data := .fields #[.int s₄.gens.size 0, .str "<genexpr>" (s₄.toks + 1), .str (X.env.qual ++ "<genexpr>") (s₄.toks + 1 + 1)] } }) X.xe { s2 with heap := h3, toks := tk } := by
    intro code h3 tk ps' hx hP3 hmore ht3
    obtain ⟨bm, ob, e1, e2, e3, e4, e5, e6, e7, e8⟩ := TB.bm
    obtain ⟨more, em⟩ := hmore
    have keep3 : ∀ b u, b ≠ P → s2.heap.get? b = some u → h3.get? b = some u := fun b u hb e => hx b u hb e
    have I3 := inv_tab (more := more) (h' := h3) (g' := s2.gens) (d' := s2.drawn) (t' := tk) I2 hP keep3 (by rw [← em]; exact hP3) I2.bare
    have hfP : ∀ b ∈ fp, b ≠ P := fun b hb z => by
      have := (fp2 b hb).1
      rw [z, hP] at this; cases this
    have tn3 : tn 0 h3 := T.keep _ _ _ tn2 fun b hb o e => keep3 b o (hfP b hb) e
    have fp3 : ∀ b ∈ fp, FpOk X pins (upd H1 P (.tbl (ps ++ more))) b := fun b hb => ⟨by rw [upd_ne (hfP b hb)]; exact (fp2 b hb).1, (fp2 b hb).2⟩
    have lt3 : ∀ b ∈ fp, b < h3.objs.size := fun b hb => by
      obtain ⟨o, e, _⟩ := T.obj _ _ tn3 b hb
      exact Heap.lt_size e
    have te : TabEq H1 (upd H1 P (.tbl (ps ++ more))) := fun b => by
      by_cases hb : b = P
      · subst hb
        exact .inr ⟨ps, ps ++ more, hP, upd_same, fun _ => by rw [← em]; exact ht3⟩
      · exact .inl (upd_ne hb)
    refine wpAny_builtinsFor (m := X.mg) (by rw [I2.ok.glob]; exact (I2.mod.glob.keeps I2.bk).extBut hx TB.gP) e1 e2 (keep3 _ _ e4 (I2.bk _ _ e5)) e6 e7 e8 ?_
    intro h' hn' hs'
    have hsz : h'.objs.size = h3.objs.size + 1 := by rw [hs'.1, Heap.size_push]
    have keep' : ∀ b o, h3.get? b = some o → h'.get? b = some o := fun b o e => hs'.extBut b o (Nat.ne_of_lt (Heap.lt_size e)) (Heap.get?_push_of_some _ e)
    have keep5 : ∀ b o, h3.get? b = some o → (h'.push { cls := .type "generator", data := .fields #[.int s2.gens.size 0, .str "<genexpr>" (tk + 1), .str (X.env.qual ++ "<genexpr>") (tk + 1 + 1)] }).get? b = some o :=
      fun b o e => Heap.get?_push_of_some _ (keep' b o e)
    have fpB : ∀ b ∈ fp, FpOk X pins (upd H1 P (.tbl (ps ++ more))) b ∧ b < h3.objs.size := fun b hb => ⟨fp3 b hb, lt3 b hb⟩
    have J5 := gen_start (s := { s2 with heap := h3, toks := tk }) (A' := gA X (genEnv scope (cloFrom X.env.cells scope.names []) h3.objs.size code builtinsNs X.env)) (code := code)
      (s5 := { s2 with heap := h'.push { cls := .type "generator", data := .fields #[.int s2.gens.size 0, .str "<genexpr>" (tk + 1), .str (X.env.qual ++ "<genexpr>") (tk + 1 + 1)] }, toks := tk + 1 + 1 + 1, gens := s2.gens.push (.fresh (.compStart (.GeneratorExp elt [⟨tg, iter, ifs, 0⟩] scope gpos) 0 (.ref it) .none (genEnv scope (cloFrom X.env.cells scope.names []) h3.objs.size code builtinsNs X.env))) })
      I3 gb hN fpB (by show X.A.frames.map _ = _; rw [I2.ok.frames]; rfl) hr.hd rfl (I2.bare.push rfl) keep5 (hn'.push _)
    have cmm : ∀ x c, (cloFrom X.env.cells scope.names []).lookup x = some c → X.env.cells.lookup x = some c := fun x c e => by
      rcases cloFrom_mem (PySem.mem_of_lookup e) with hm | ⟨h1, rfl⟩
      · cases hm
      · obtain ⟨c, hc⟩ := hfree _ h1 rfl
        rw [hc]; rfl
    refine hQ J H1 _ { s2 with heap := h3, toks := tk } _ _ _ _ fp it tn _ s2.gens.size r te (te.noT nt) T (fun b hb => ⟨(fp3 b hb).1, Nat.ne_of_lt (lt3 b hb), fun z => ?_, lt3 b hb, fun x c e => (fp3 b hb).2.2.2.2.1 x c (cmm x c e)⟩) J5 ?_ ?_ (T.keep _ _ _ tn3 fun b hb o e => keep5 b o e) ?_ ?_ ?_ ?_ ?_ ?_ ?_ (fun H' pg σg s' z => gen_left I3 fpB z)
    · rcases List.mem_cons.mp (I3.stkSub b z) with z | z
      · exact (fp3 b hb).2.1 z
      · exact (fp3 b hb).2.2.1 z
    · exact ⟨_, _, _, Heap.get?_push_size _ rfl, rfl, rfl, rfl⟩
    · exact Array.getElem?_push_size ..
    · show h3.objs.size ≤ h'.objs.size
      rw [hsz]; exact Nat.le_succ _
    · show h'.objs.size < (h'.push _).objs.size
      rw [Heap.size_push]; exact Nat.lt_succ_self _
    · refine I3.hok.fresh ?_
      show h3.objs.size ≤ h'.objs.size
      rw [hsz]; exact Nat.le_succ _
    · show h'.objs.size ≠ h3.objs.size
      rw [hsz]; exact Nat.succ_ne_self _
    · intro z
      obtain ⟨_, o, ho, _⟩ := I3.stack.mem z
      have := Heap.lt_size ho
      have this : (h'.objs.size : Nat) < h3.objs.size := this
      rw [hsz] at this
      exact absurd (Nat.lt_of_succ_lt this) (Nat.lt_irrefl _)
    · exact ⟨_, Heap.get?_push_size _ rfl, fun v q => by cases q⟩
    · show h3.objs.size ≤ (h'.push _).objs.size
      rw [Heap.size_push, hsz]; exact Nat.le_succ_of_le (Nat.le_succ _)
  cases hf : codeAmong gpos ps.toList with
  | none =>
    refine wpAny_genexprCodeX hcode (cd.code hPs htr) (cd.tab hPs) hf fun c' h' tk hx hge hlt hco' _ htab' _ => ?_
    obtain ⟨o1, vs, f1, tf, fl, tg, inF, tx, tt, op, _, _, _, _, _, _, _, _, _, htr', _⟩ := hco'
    exact cont _ h' tk _ hx htab'.2 ⟨_, rfl⟩ htr'
  | some cv =>
    refine wpAny_genexprCode_hit hcode (cd.code hPs htr) hf ?_
    exact cont cv s2.heap s2.toks ps (Heap.ExtBut.refl _ _) hPs ⟨#[], by simp⟩ htr
end
end XG

set_option Elab.async false
set_option linter.all false
set_option maxRecDepth 100000
set_option maxHeartbeats 4000000
namespace XG
open PySem PySem.Spec PyProof.Rows L2 GxR
open Sem (wp)

theorem pass_any (n : Nat) (pz f : Nat → Bool) : (List.range (passing pz n 0).length).any (fun j => match (passing pz n 0)[j]? with | some i => f i | none => false) = (List.range n).any fun i => pz i && f i := by
  have e : ∀ l : List Nat, (List.range l.length).any (fun j => match l[j]? with | some i => f i | none => false) = l.any f := fun l => by
    rw [Bool.eq_iff_iff, List.any_eq_true, List.any_eq_true]
    constructor
    · intro ⟨j, hj, h⟩
      have hj' := List.mem_range.mp hj
      rw [List.getElem?_eq_getElem hj'] at h
      exact ⟨l[j], List.getElem_mem hj', h⟩
    · intro ⟨b, hb, h⟩
      obtain ⟨j, hj, e⟩ := List.getElem_of_mem hb
      refine ⟨j, List.mem_range.mpr hj, ?_⟩
      rw [List.getElem?_eq_getElem hj, e]
      exact h
  rw [e]
  unfold passing
  rw [List.drop_zero, List.any_filter]
theorem pass_all (n : Nat) (pz f : Nat → Bool) : (List.range (passing pz n 0).length).all (fun j => match (passing pz n 0)[j]? with | some i => f i | none => false) = (List.range n).all fun i => !pz i || f i := by
  have e : ∀ l : List Nat, (List.range l.length).all (fun j => match l[j]? with | some i => f i | none => false) = l.all f := fun l => by
    rw [Bool.eq_iff_iff, List.all_eq_true, List.all_eq_true]
    constructor
    · intro h b hb
      obtain ⟨j, hj, e⟩ := List.getElem_of_mem hb
      have q := h j (List.mem_range.mpr hj)
      rw [List.getElem?_eq_getElem hj, e] at q
      exact q
    · intro h j hj
      have hj' := List.mem_range.mp hj
      rw [List.getElem?_eq_getElem hj']
      exact h _ (List.getElem_mem hj')
  rw [e]
  unfold passing
  rw [List.drop_zero, List.all_filter]
/-- what sum has: the values at the places that pass -/
def passSum (n : Nat) (pz : Nat → Bool) (f : Nat → Int) : Int := (((List.range n).filter pz).map f).sum
theorem pre_sum (l : List Nat) (f : Nat → Int) : ∀ j, j ≤ l.length → preSum (fun j => match l[j]? with | some i => f i | none => 0) j = ((l.take j).map f).sum
  | 0, _ => by simp [preSum]
  | j + 1, h => by
    show preSum _ j + (match l[j]? with | some i => f i | none => 0) = _
    have h' : j < l.length := h
    rw [pre_sum l f j (Nat.le_of_lt h'), List.getElem?_eq_getElem h', List.take_add_one, List.getElem?_eq_getElem h', List.map_append, List.sum_append]
    simp
theorem sum_small {B : Nat} : ∀ (l : List Int), (∀ x ∈ l, x.natAbs ≤ B) → l.sum.natAbs ≤ l.length * B
  | [], _ => by simp
  | a :: r, h => by
    have ih := sum_small r fun x hx => h x (List.mem_cons_of_mem _ hx)
    have h1 := h a List.mem_cons_self
    rw [List.sum_cons, List.length_cons, Nat.add_mul, Nat.one_mul]
    omega

section
variable {X : Cx} {tg elt iter : Expr} {ifs : List Expr} {scope : Scope} {p pos gpos : Pos} {own : List (Str × Nat)} {c P : Addr} {wi : TI} {k : Nat} {g : TG} {tt : TT} {te : TE}

/-- the reading of any, all, sum over a generator expression -/
def tGen (P : Addr) (wi : TI) (g : TG) (tt : TT) (te : TE) (own : List Nat) (V : V → Prop) (R : Nat → (Nat → Bool) → (Nat → L2.V) → L2.V) (C : Nat → (Nat → Bool) → (Nat → L2.V) → Prop) : TE := fun σ H Q => wi σ H fun J H1 => TabG H1 P ∧ NoT H1 ∧
  ∃ (n : Nat) (pz : Nat → Bool) (F : Nat → L2.V), (∀ i, V (F i)) ∧ C n pz F ∧ (∀ H2, TabEq H1 H2 → GenTurns n pz F J g tt te (wipe σ own) H2) ∧ ∀ H2, TabEq H1 H2 → Q (R n pz F) H2
def isBl : L2.V → Prop := fun v => ∃ b, v = .bl b
def bOf : L2.V → Bool
  | .bl b => b
  | _ => false
def iOf : L2.V → Int
  | .int i => i
  | _ => 0
abbrev tAnyG (P : Addr) (wi : TI) (g : TG) (tt : TT) (te : TE) (own : List Nat) : TE := tGen P wi g tt te own isBl (fun n pz F => .bl ((List.range n).any fun i => pz i && bOf (F i))) (fun _ _ _ => True)
abbrev tAllG (P : Addr) (wi : TI) (g : TG) (tt : TT) (te : TE) (own : List Nat) : TE := tGen P wi g tt te own isBl (fun n pz F => .bl ((List.range n).all fun i => !pz i || bOf (F i))) (fun _ _ _ => True)
/-- the values small enough -/
abbrev tSumG (P : Addr) (wi : TI) (g : TG) (tt : TT) (te : TE) (own : List Nat) : TE := tGen P wi g tt te own (fun v => ∃ i, v = .int i) (fun n pz F => .int (passSum n pz fun i => iOf (F i))) (fun n pz F => n ≤ 100000 ∧ ∀ i, (iOf (F i)).natAbs ≤ 2 ^ 40)

theorem ginv_pin {Xg : Cx} {H : Hp} {σg : L2.St} {s5 : Shared} {l : List (Addr × Obj)} (J : Inv Xg [] σg H s5) (hl : ∀ q ∈ l, s5.heap.get? q.1 = some q.2 ∧ H q.1 = none ∧ q.1 ≠ Xg.env.locals ∧ q.1 ∉ Xg.fs ∧ ∀ v, q.2.data ≠ .cell v) : GInv Xg (l.map (·.1)) σg H s5 := by
  refine ⟨H, TabEq.refl H, J.pins_of fun q hq => ?_, fun b hb => ?_⟩
  · obtain ⟨h1, h2⟩ := of_pinsAt hq
    obtain ⟨q', hq', e⟩ := List.mem_map.mp h1
    obtain ⟨a1, a2, a3, a4, a5⟩ := hl q' hq'
    have e2 : q' = q := by
      obtain ⟨qa, qo⟩ := q
      obtain ⟨qa', qo'⟩ := q'
      simp only at e
      subst e
      rw [show s5.heap.get? qa' = some qo' from a1] at h2
      cases h2; rfl
    rw [← e2]
    exact ⟨a1, a2, a3, a4, a5⟩
  · obtain ⟨q', hq', rfl⟩ := List.mem_map.mp hb
    exact ⟨_, (hl q' hq').1⟩

variable (hr : Room (k + 1) X.A) (TB : TabB X.base X.mg c P) (hcode : X.env.code = .ref c) (gb : GBlk X.N X.env.scope scope own) (hN : X.N.Nodup) (hcalm : X.calm = true) (hi : PI X tg iter wi)
  (hg : ∀ s4 H4 cl C code fp, PG (gcx X s4 H4 (genEnv scope cl C code builtinsNs X.env) fp (gA X (genEnv scope cl C code builtinsNs X.env))) tg g)
  (ht : ∀ s4 H4 cl C code fp, PTs (gcx X s4 H4 (genEnv scope cl C code builtinsNs X.env) fp (gA X (genEnv scope cl C code builtinsNs X.env))) ifs tt)
  (hel : ∀ s4 H4 cl C code fp, Room k (gA X (genEnv scope cl C code builtinsNs X.env)) → PE (gcx X s4 H4 (genEnv scope cl C code builtinsNs X.env) fp (gA X (genEnv scope cl C code builtinsNs X.env))) elt te)
  (hs : ∀ v, genFold iter X.env v = pure v)
  (he : starEach [.GeneratorExp elt [⟨tg, iter, ifs, 0⟩] scope gpos] X.env = (false, eval (.GeneratorExp elt [⟨tg, iter, ifs, 0⟩] scope gpos) X.env) :: starEach [] X.env)
include hr TB hcode gb hN hcalm hi hg ht hel hs he

theorem pe_anyG (hgl : Gl X "any") (hm : X.mg "any" = none) : PE X (.Call (.Name "any" p) [.GeneratorExp elt [⟨tg, iter, ifs, 0⟩] scope gpos] [] pos) (tAnyG P wi g tt te (own.map (·.2))) := by
  refine ⟨fun pins s σ H Q I h => ?_⟩
  refine wpAny_Call_Name_kw (ld_blt I hgl hm boot_any ?_)
  refine PyProof.Rows.callWith_builtin1 ?_ he (by rfl)
  rw [he]
  show wpAny _ _ (spliced ((false, eval (.GeneratorExp elt [⟨tg, iter, ifs, 0⟩] scope gpos) X.env) :: backTo pos (starEach [] X.env))) _ _ s
  refine Calls.spliced_cons (gen_expr hr TB hcode gb hN hcalm hi hs I h fun J H1 H2 s4 s5 cl code C fp it tn a gi hR hte hnt T fpa J5 hg5 hgs5 tn5 ha1 ha2 ha3 ha4 ha5 ha6 hsz left => ?_)
  obtain ⟨n, pz, F, hF, -, turn, hQ⟩ := hR
  refine Calls.spliced_nil ?_
  have K : GenOk X s4 H2 (genEnv scope cl C code builtinsNs X.env) fp X.A.in1.in1 (gA X (genEnv scope cl C code builtinsNs X.env)) it J tn g tt te (wipe σ (own.map (·.2))) n pz F tg elt iter ifs scope gpos :=
    ⟨hcalm, gb.co, T, fpa, over_gen, hg _ _ _ _ _ _, ht _ _ _ _ _ _, hel _ _ _ _ _ _ (gA_room hr), hnt, fun Hi hi => turn Hi (hte.trans hi)⟩
  obtain ⟨ao, ae, ac⟩ := ha6
  have hSS : ∀ b ∈ [a], s4.heap.objs.size ≤ b := fun b hb => by rw [List.mem_singleton.mp hb]; exact ha1
  have GI := ginv_pin (l := [(a, ao)]) J5 fun q hq => by
    rw [List.mem_singleton.mp hq]
    exact ⟨ae, ha3, ha4, ha5, ac⟩
  have W := K.pull (SS := [a]) hSS (a := a) (gi := gi) List.mem_cons_self (pl := pinsAt [a] s5.heap) rfl hr.hd (show X.A.in1.depth < recursionLimit from by have := hr.dp; show X.A.depth < _; omega)
  refine call_any (x := .none) (fun j => match (passing pz n 0)[j]? with | some i => bOf (F i) | none => false) (fun j v hv => ?_) W (K.first hSS hg5 hgs5 GI tn5) fun s' hd => ?_
  · obtain ⟨i, hi, r⟩ := hv
    obtain ⟨b, eb⟩ := hF i
    rw [eb] at r
    cases r
    simp only [hi, eb, bOf]
  · obtain ⟨Hi, pg, hte', I'⟩ := hd
    refine ⟨.bl _, Hi, left _ _ _ _ I', rfl, ?_⟩
    rw [pass_any n pz fun i => bOf (F i)]
    exact hQ Hi (hte.trans hte')
theorem pe_allG (hgl : Gl X "all") (hm : X.mg "all" = none) (hb : bootBuiltins "all" = some (.builtin "all")) : PE X (.Call (.Name "all" p) [.GeneratorExp elt [⟨tg, iter, ifs, 0⟩] scope gpos] [] pos) (tAllG P wi g tt te (own.map (·.2))) := by
  refine ⟨fun pins s σ H Q I h => ?_⟩
  refine wpAny_Call_Name_kw (ld_blt I hgl hm hb ?_)
  refine PyProof.Rows.callWith_builtin1 ?_ he (by rfl)
  rw [he]
  show wpAny _ _ (spliced ((false, eval (.GeneratorExp elt [⟨tg, iter, ifs, 0⟩] scope gpos) X.env) :: backTo pos (starEach [] X.env))) _ _ s
  refine Calls.spliced_cons (gen_expr hr TB hcode gb hN hcalm hi hs I h fun J H1 H2 s4 s5 cl code C fp it tn a gi hR hte hnt T fpa J5 hg5 hgs5 tn5 ha1 ha2 ha3 ha4 ha5 ha6 hsz left => ?_)
  obtain ⟨n, pz, F, hF, -, turn, hQ⟩ := hR
  refine Calls.spliced_nil ?_
  have K : GenOk X s4 H2 (genEnv scope cl C code builtinsNs X.env) fp X.A.in1.in1 (gA X (genEnv scope cl C code builtinsNs X.env)) it J tn g tt te (wipe σ (own.map (·.2))) n pz F tg elt iter ifs scope gpos :=
    ⟨hcalm, gb.co, T, fpa, over_gen, hg _ _ _ _ _ _, ht _ _ _ _ _ _, hel _ _ _ _ _ _ (gA_room hr), hnt, fun Hi hi => turn Hi (hte.trans hi)⟩
  obtain ⟨ao, ae, ac⟩ := ha6
  have hSS : ∀ b ∈ [a], s4.heap.objs.size ≤ b := fun b hb => by rw [List.mem_singleton.mp hb]; exact ha1
  have GI := ginv_pin (l := [(a, ao)]) J5 fun q hq => by
    rw [List.mem_singleton.mp hq]
    exact ⟨ae, ha3, ha4, ha5, ac⟩
  have W := K.pull (SS := [a]) hSS (a := a) (gi := gi) List.mem_cons_self (pl := pinsAt [a] s5.heap) rfl hr.hd (show X.A.in1.depth < recursionLimit from by have := hr.dp; show X.A.depth < _; omega)
  refine call_all (x := .none) (fun j => match (passing pz n 0)[j]? with | some i => bOf (F i) | none => false) (fun j v hv => ?_) W (K.first hSS hg5 hgs5 GI tn5) fun s' hd => ?_
  · obtain ⟨i, hi, r⟩ := hv
    obtain ⟨b, eb⟩ := hF i
    rw [eb] at r
    cases r
    simp only [hi, eb, bOf]
  · obtain ⟨Hi, pg, hte', I'⟩ := hd
    refine ⟨.bl _, Hi, left _ _ _ _ I', rfl, ?_⟩
    rw [pass_all n pz fun i => bOf (F i)]
    exact hQ Hi (hte.trans hte')
theorem pe_sumG (hgl : Gl X "sum") (hm : X.mg "sum" = none) (hb : bootBuiltins "sum" = some (.builtin "sum")) : PE X (.Call (.Name "sum" p) [.GeneratorExp elt [⟨tg, iter, ifs, 0⟩] scope gpos] [] pos) (tSumG P wi g tt te (own.map (·.2))) := by
  refine ⟨fun pins s σ H Q I h => ?_⟩
  refine wpAny_Call_Name_kw (ld_blt I hgl hm hb ?_)
  refine PyProof.Rows.callWith_builtin1 ?_ he (by rfl)
  rw [he]
  show wpAny _ _ (spliced ((false, eval (.GeneratorExp elt [⟨tg, iter, ifs, 0⟩] scope gpos) X.env) :: backTo pos (starEach [] X.env))) _ _ s
  refine Calls.spliced_cons (gen_expr hr TB hcode gb hN hcalm hi hs I h fun J H1 H2 s4 s5 cl code C fp it tn a gi hR hte hnt T fpa J5 hg5 hgs5 tn5 ha1 ha2 ha3 ha4 ha5 ha6 hsz left => ?_)
  obtain ⟨n, pz, F, hF, ⟨hn, hsm⟩, turn, hQ⟩ := hR
  refine Calls.spliced_nil ?_
  have K : GenOk X s4 H2 (genEnv scope cl C code builtinsNs X.env) fp X.A.in1.in1 (gA X (genEnv scope cl C code builtinsNs X.env)) it J tn g tt te (wipe σ (own.map (·.2))) n pz F tg elt iter ifs scope gpos :=
    ⟨hcalm, gb.co, T, fpa, over_gen, hg _ _ _ _ _ _, ht _ _ _ _ _ _, hel _ _ _ _ _ _ (gA_room hr), hnt, fun Hi hi => turn Hi (hte.trans hi)⟩
  obtain ⟨ao, ae, ac⟩ := ha6
  have hS4 : s4.heap.objs.size ≤ s5.heap.objs.size := hsz
  have hSS : ∀ b ∈ [a, s5.heap.objs.size], s4.heap.objs.size ≤ b := fun b hb => by
    rcases List.mem_cons.mp hb with z | z
    · rw [z]; exact ha1
    · rw [List.mem_singleton.mp z]; exact hS4
  have haS : a ≠ s5.heap.objs.size := Nat.ne_of_lt ha2
  -- the object of sum's own: in the frame's and the heap's way nowhere
  have SL : s5.heap.objs.size ≠ (gcx X s4 H2 (genEnv scope cl C code builtinsNs X.env) fp (gA X (genEnv scope cl C code builtinsNs X.env))).env.locals := fun z => by
    have := J5.lt
    rw [← z] at this
    exact Nat.lt_irrefl _ this
  have SF : s5.heap.objs.size ∉ (gcx X s4 H2 (genEnv scope cl C code builtinsNs X.env) fp (gA X (genEnv scope cl C code builtinsNs X.env))).fs := J5.nofs (Nat.le_refl _)
  have SC : ∀ x c, (genEnv scope cl C code builtinsNs X.env).cells.lookup x = some c → c ≠ s5.heap.objs.size := fun x c e z => by
    obtain ⟨v, q⟩ := J5.cell x c e
    exact absurd (z ▸ q.lt) (Nat.lt_irrefl _)
  have SN : ∀ Hi, TabEq H2 Hi → Hi s5.heap.objs.size = none := fun Hi h => by
    rcases h s5.heap.objs.size with z | ⟨_, _, z, _⟩
    · exact z.trans (J5.hok.fresh (Nat.le_refl _))
    · rw [J5.hok.fresh (Nat.le_refl _)] at z; cases z
  have plS : ∀ {h : Heap} {z t c}, pinsAt [a, s5.heap.objs.size] h = [(a, ao), (s5.heap.objs.size, sumObj z t c)] → h.get? s5.heap.objs.size = some (sumObj z t c) := fun {h z t c} e =>
    (of_pinsAt (fp := [a, s5.heap.objs.size]) (h := h) (p := (s5.heap.objs.size, sumObj z t c)) (by rw [e]; exact List.mem_cons_of_mem _ List.mem_cons_self)).2
  have plA : ∀ {h : Heap} {z t c}, pinsAt [a, s5.heap.objs.size] h = [(a, ao), (s5.heap.objs.size, sumObj z t c)] → h.get? a = some ao := fun {h z t c} e =>
    (of_pinsAt (fp := [a, s5.heap.objs.size]) (h := h) (p := (a, ao)) (by rw [e]; exact List.mem_cons_self)).2
  have mkP : ∀ {h : Heap} {z t c}, h.get? a = some ao → h.get? s5.heap.objs.size = some (sumObj z t c) → pinsAt [a, s5.heap.objs.size] h = [(a, ao), (s5.heap.objs.size, sumObj z t c)] := fun {h z t c} e1 e2 => by
    unfold pinsAt
    simp only [List.filterMap_cons, e1, e2, Option.map_some, List.filterMap_nil]
  have W := fun z t c => K.pull (SS := [a, s5.heap.objs.size]) hSS (a := a) (gi := gi) List.mem_cons_self (pl := [(a, ao), (s5.heap.objs.size, sumObj z t c)]) (A1 := X.A.in1) rfl hr.hd (show X.A.in1.depth < recursionLimit from by have := hr.dp; show X.A.depth < _; omega)
  refine call_sum (T := fun z t c => GSt (gcx X s4 H2 (genEnv scope cl C code builtinsNs X.env) fp (gA X (genEnv scope cl C code builtinsNs X.env))) [a, s5.heap.objs.size] fp (wipe σ (own.map (·.2))) H2 tn X.A.in1.in1 a gi n pz F [(a, ao), (s5.heap.objs.size, sumObj z t c)])
    W (fun Q E hq => wpAny_pyIter_gen hg5 hq) (fun z t c i s' st => plS st.1) ?_ ?_ (fun j => match (passing pz n 0)[j]? with | some i => iOf (F i) | none => 0) (fun j v hv => ?_) ?_ fun s' t' hd => ?_
  · intro z t c i s' z' t' c' h' tk st hk hS'
    obtain ⟨hpl, hgi, ⟨Hi, hte', I', he'⟩, gs, hgs, hgo⟩ := st
    have e1 : h'.get? a = some ao := (hk a haS).trans (plA hpl)
    have hfpS : ∀ b ∈ fp, b ≠ s5.heap.objs.size := fun b hb => Nat.ne_of_lt (Nat.lt_of_lt_of_le (fpa b hb).2.2.2.1 hS4)
    have I1 : Inv (gcx X s4 H2 (genEnv scope cl C code builtinsNs X.env) fp (gA X (genEnv scope cl C code builtinsNs X.env))) [(a, ao)] (wipe σ (own.map (·.2))) Hi s' := I'.pins_of fun q hq => by
      rw [List.mem_singleton.mp hq]
      exact I'.pin (a, ao) (List.mem_append_right _ (by rw [hpl]; exact List.mem_cons_self))
    have I2 := I1.turned (h' := h') (t' := tk) (it := s5.heap.objs.size) (fun b o hb e => (hk b hb).trans e) (SN Hi hte') SL (.inr hS4) SC (fun q hq => by
      have hq : q ∈ [(a, ao)] := by simpa using hq
      rw [List.mem_singleton.mp hq]
      exact haS)
    refine ⟨mkP e1 hS', ?_, ⟨Hi, hte', I2.pins_of fun q hq => ?_, fun b hb => ?_⟩, gs, hgs, fun s'' hG hfk => hgo s'' hG fun b hb o e => hfk b hb o ((hk b (hfpS b hb)).trans e)⟩
    · obtain ⟨o, nm, qn, ho, r⟩ := hgi
      exact ⟨o, nm, qn, (hk a haS).trans ho, r⟩
    · rw [show pinsAt [a, s5.heap.objs.size] ({ s' with heap := h', toks := tk } : Shared).heap = [(a, ao), (s5.heap.objs.size, sumObj z' t' c')] from mkP e1 hS'] at hq
      rcases List.mem_cons.mp hq with hq | hq
      · rw [hq]
        exact I2.pin (a, ao) (List.mem_append_right _ List.mem_cons_self)
      · rw [List.mem_singleton.mp hq]
        exact ⟨hS', SN Hi hte', SL, SF, fun v y => by cases y⟩
    · rcases List.mem_cons.mp hb with y | y
      · rw [y]; exact ⟨_, e1⟩
      · rw [List.mem_singleton.mp y]; exact ⟨_, hS'⟩
  · intro c tk t
    have e1 : (s5.heap.push (sumObj 0 t c)).get? a = some ao := Heap.get?_push_of_some _ ae
    have e2 : (s5.heap.push (sumObj 0 t c)).get? s5.heap.objs.size = some (sumObj 0 t c) := Heap.get?_push_size _ rfl
    have J6 := J5.kept (h' := s5.heap.push (sumObj 0 t c)) (t' := tk) fun b o e => Heap.get?_push_of_some _ e
    have GI := ginv_pin (l := [(a, ao), (s5.heap.objs.size, sumObj 0 t c)]) J6 fun q hq => by
      rcases List.mem_cons.mp hq with hq | hq
      · rw [hq]; exact ⟨e1, ha3, ha4, ha5, ac⟩
      · rw [List.mem_singleton.mp hq]
        exact ⟨e2, J5.hok.fresh (Nat.le_refl _), SL, SF, fun v y => by cases y⟩
    have st := K.first (s := { s5 with heap := s5.heap.push (sumObj 0 t c), toks := tk }) hSS (hg5.push _) hgs5 GI (T.keep _ _ _ tn5 fun b hb o e => Heap.get?_push_of_some _ e)
    rw [show pinsAt [a, s5.heap.objs.size] ({ s5 with heap := s5.heap.push (sumObj 0 t c), toks := tk } : Shared).heap = [(a, ao), (s5.heap.objs.size, sumObj 0 t c)] from mkP e1 e2] at st
    exact st
  · obtain ⟨i, hi, r⟩ := hv
    obtain ⟨b, eb⟩ := hF i
    rw [eb] at r
    obtain ⟨t, rfl⟩ := r
    exact ⟨t, by simp only [hi, eb, iOf]⟩
  · intro j hj
    have hlen : (passing pz n 0).length ≤ n := by
      unfold passing
      rw [List.drop_zero]
      exact Nat.le_trans (List.length_filter_le _ _) (by simp)
    have b1 : (match (passing pz n 0)[j]? with | some i => iOf (F i) | none => 0).natAbs ≤ 2 ^ 40 := by
      cases (passing pz n 0)[j]? with
      | some i => exact hsm i
      | none => exact Nat.zero_le _
    have b2 := sum_small (B := 2 ^ 40) (((passing pz n 0).take (j + 1)).map fun i => iOf (F i)) fun x hx => by
      obtain ⟨i, _, rfl⟩ := List.mem_map.mp hx
      exact hsm i
    rw [← pre_sum (passing pz n 0) (fun i => iOf (F i)) (j + 1) hj] at b2
    have b3 : (((passing pz n 0).take (j + 1)).map fun i => iOf (F i)).length ≤ 100000 := by
      rw [List.length_map, List.length_take]
      omega
    have b4 : (((passing pz n 0).take (j + 1)).map fun i => iOf (F i)).length * 2 ^ 40 ≤ 100000 * 2 ^ 40 := Nat.mul_le_mul_right _ b3
    have b5 := Nat.le_trans b2 b4
    unfold InLong
    omega
  · obtain ⟨Hi, pg, hte', I'⟩ := hd
    refine ⟨.int _, Hi, left _ _ _ _ I', ⟨t', rfl⟩, ?_⟩
    rw [pre_sum (passing pz n 0) (fun i => iOf (F i)) _ (Nat.le_refl _), List.take_length]
    have e := hQ Hi (hte.trans hte')
    unfold passSum at e
    unfold passing
    rw [List.drop_zero]
    exact e
end
end XG

set_option Elab.async false
set_option linter.all false
set_option maxRecDepth 100000
set_option maxHeartbeats 4000000
/-! Qa: parts by value, with draws, owned trees and exceptions: wishes, data in a heap, owned trees, what slots hold. -/
namespace QD
open PySem PySem.Spec PyProof.Rows L2 GxR XG

abbrev Dt := PyData
/-- what draws look like among the data -/
def drawD : Dt := .dict [(.none, .none)]
def isMk : HO → Bool
  | .met _ _ => true
  | _ => false
def mark : HO := .met 0 0
/-- an exception: its class' name, its fields -/
structure Ex where
  cn : Str
  fs : List (Str × Dt)
/-- a wish: of a value and the draws left, of an exception and the draws left, at the draws left -/
abbrev W (α : Type) := (α → Nat → Prop) → (Ex → Nat → Prop) → Nat → Prop
def W.ret {α : Type} (a : α) : W α := fun P _ n => P a n
def W.bind {α β : Type} (m : W α) (f : α → W β) : W β := fun P E n => m (fun a => f a P E) E n
def W.opt {α : Type} (o : Option α) : W α := fun P _ n => ∃ a, o = some a ∧ P a n
def W.map {α β : Type} (f : α → β) (m : W α) : W β := fun P E n => m (fun a => P (f a)) E n
def W.no {α : Type} : W α := fun _ _ _ => False
def W.xc {α : Type} (e : Ex) : W α := fun _ E n => E e n
/-- stronger -/
def W.le {α : Type} (a b : W α) : Prop := ∀ P E n, a P E n → b P E n
def W.ite {α : Type} (c : Bool) (a b : W α) : W α := fun P E n => if c = true then a P E n else b P E n

/-! ### data in a heap, each list and tuple tracked -/
mutual
inductive Dx (H : Hp) : L2.V → Dt → Prop
  | non : Dx H .non .none
  | bl (b : Bool) : Dx H (.bl b) (.bool b)
  | int (i : Int) : Dx H (.int i) (.int i)
  | str (x : Str) : Dx H (.str x) (.str x)
  | lst {a : Addr} {xs : List L2.V} {ds : List Dt} : H a = some (.lst xs) → DxA H xs ds → Dx H (.ref a) (.list ds)
  | tup {a : Addr} {xs : List L2.V} {ds : List Dt} : H a = some (.tup xs) → DxA H xs ds → Dx H (.ref a) (.tuple ds)
  | drw {a : Addr} {o : HO} : H a = some o → isMk o = true → Dx H (.ref a) (.dict [(.none, .none)])
  | scr {a : Addr} : Dx H (.ref a) (.dict [(.int (a : Nat), .none)])
inductive DxA (H : Hp) : List L2.V → List Dt → Prop
  | nil : DxA H [] []
  | cons {v : L2.V} {vs : List L2.V} {d : Dt} {ds : List Dt} : Dx H v d → DxA H vs ds → DxA H (v :: vs) (d :: ds)
end
mutual
/-- no draws within -/
def noDr : Dt → Bool
  | .dict _ => false
  | .list ds => noDrA ds
  | .tuple ds => noDrA ds
  | _ => true
def noDrA : List Dt → Bool
  | [] => true
  | d :: ds => noDr d && noDrA ds
end
section
variable {H H' : Hp} {K : PySem.W.Frag}
mutual
theorem Dx.mono (e : Same H H') : ∀ {d : Dt} {v : L2.V}, Dx H v d → Dx H' v d
  | .none, _, h => by cases h; exact .non
  | .bool _, _, h => by cases h; exact .bl _
  | .int _, _, h => by cases h; exact .int _
  | .str _, _, h => by cases h; exact .str _
  | .list _, _, h => by cases h with | lst h1 h2 => exact .lst (e _ _ h1) (DxA.mono e h2)
  | .tuple _, _, h => by cases h with | tup h1 h2 => exact .tup (e _ _ h1) (DxA.mono e h2)
  | .dict _, _, h => by cases h with | drw h1 h2 => exact .drw (e _ _ h1) h2 | scr => exact .scr
theorem DxA.mono (e : Same H H') : ∀ {ds : List Dt} {vs : List L2.V}, DxA H vs ds → DxA H' vs ds
  | [], _, h => by cases h; exact .nil
  | _ :: _, _, h => by cases h with | cons h1 h2 => exact .cons (Dx.mono e h1) (DxA.mono e h2)
end
/-- over the tracked heap: what is shared stands there as it is -/
def Hold (Hs H : Hp) : Prop := ∀ a o, Hs a = some o → isMk o = false → H a = some o
mutual
theorem Dx.dp (e : Hold H H') : ∀ {d : Dt} {v : L2.V}, noDr d = true → Dx H v d → Dp K H' v d
  | .none, _, _, h => by cases h; exact .non
  | .bool _, _, _, h => by cases h; exact .bl _
  | .int _, _, _, h => by cases h; exact .int _
  | .str _, _, _, h => by cases h; exact .str _
  | .list _, _, n, h => by cases h with | lst h1 h2 => exact .lst (SqL.of (e _ _ h1 rfl)) (DxA.dp e (by simpa [noDr] using n) h2)
  | .tuple _, _, n, h => by cases h with | tup h1 h2 => exact .tup (SqT.of (e _ _ h1 rfl)) (DxA.dp e (by simpa [noDr] using n) h2)
  | .dict _, _, n, h => by simp [noDr] at n
theorem DxA.dp (e : Hold H H') : ∀ {ds : List Dt} {vs : List L2.V}, noDrA ds = true → DxA H vs ds → DpAll K H' vs ds
  | [], _, _, h => by cases h; exact .nil
  | _ :: _, _, n, h => by
    simp only [noDrA, Bool.and_eq_true] at n
    cases h with | cons h1 h2 => exact .cons (Dx.dp e n.1 h1) (DxA.dp e n.2 h2)
end
theorem DxA.len : ∀ {ds : List Dt} {vs : List L2.V}, DxA H vs ds → vs.length = ds.length
  | [], _, h => by cases h; rfl
  | _ :: _, _, h => by cases h with | cons h1 h2 => simp [DxA.len h2]
theorem DxA.get : ∀ {ds : List Dt} {vs : List L2.V} {i : Nat} {d : Dt}, DxA H vs ds → ds[i]? = some d → ∃ v, vs[i]? = some v ∧ Dx H v d
  | [], _, _, _, _, e => by simp at e
  | _ :: _, _, 0, _, h, e => by cases h with | cons h1 h2 => simp at e; subst e; exact ⟨_, rfl, h1⟩
  | _ :: _, _, i + 1, _, h, e => by
    cases h with
    | cons h1 h2 =>
      obtain ⟨v, e1, e2⟩ := DxA.get (i := i) h2 (by simpa using e)
      exact ⟨v, by simpa using e1, e2⟩
theorem DxA.getV : ∀ {ds : List Dt} {vs : List L2.V} {i : Nat} {v : L2.V}, DxA H vs ds → vs[i]? = some v → ∃ d, ds[i]? = some d ∧ Dx H v d
  | [], _, _, _, h, e => by cases h; simp at e
  | _ :: _, _, 0, _, h, e => by cases h with | cons h1 h2 => simp at e; subst e; exact ⟨_, rfl, h1⟩
  | _ :: _, _, i + 1, _, h, e => by
    cases h with
    | cons h1 h2 =>
      obtain ⟨v, e1, e2⟩ := DxA.getV (i := i) h2 (by simpa using e)
      exact ⟨v, by simpa using e1, e2⟩
theorem DxA.app : ∀ {ds es : List Dt} {vs us : List L2.V}, DxA H vs ds → DxA H us es → DxA H (vs ++ us) (ds ++ es)
  | [], _, _, _, h, k => by cases h; exact k
  | _ :: _, _, _, _, h, k => by cases h with | cons h1 h2 => exact .cons h1 (DxA.app h2 k)
theorem DxA.take : ∀ {ds : List Dt} {vs : List L2.V} (n : Nat), DxA H vs ds → DxA H (vs.take n) (ds.take n)
  | _, _, 0, _ => .nil
  | [], _, _ + 1, h => by cases h; exact .nil
  | _ :: _, _, n + 1, h => by cases h with | cons h1 h2 => exact .cons h1 (DxA.take n h2)
theorem DxA.drop : ∀ {ds : List Dt} {vs : List L2.V} (n : Nat), DxA H vs ds → DxA H (vs.drop n) (ds.drop n)
  | _, _, 0, h => h
  | [], _, _ + 1, h => by cases h; exact .nil
  | _ :: _, _, n + 1, h => by cases h with | cons h1 h2 => exact DxA.drop n h2
theorem DxA.set : ∀ {ds : List Dt} {vs : List L2.V} (n : Nat) {v : L2.V} {d : Dt}, DxA H vs ds → Dx H v d → DxA H (vs.set n v) (ds.set n d)
  | [], _, _, _, _, h, _ => by cases h; exact .nil
  | _ :: _, _, 0, _, _, h, k => by cases h with | cons h1 h2 => exact .cons k h2
  | _ :: _, _, n + 1, _, _, h, k => by cases h with | cons h1 h2 => exact .cons h1 (DxA.set n h2 k)
theorem DxA.rev : ∀ {ds : List Dt} {vs : List L2.V}, DxA H vs ds → DxA H vs.reverse ds.reverse
  | [], _, h => by cases h; exact .nil
  | _ :: _, _, h => by
    cases h with
    | cons h1 h2 =>
      rw [List.reverse_cons, List.reverse_cons]
      exact (DxA.rev h2).app (.cons h1 .nil)
theorem DxA.ints : ∀ {ns : List Int} {vs : List L2.V}, DxA H vs (ns.map .int) → vs = ns.map .int
  | [], _, h => by cases h; rfl
  | _ :: _, _, h => by
    cases h with
    | cons h1 h2 =>
      cases h1
      rw [DxA.ints h2]
      rfl
theorem DxA.ofInts : ∀ (ns : List Int), DxA H (ns.map .int) (ns.map .int)
  | [] => .nil
  | _ :: r => .cons (.int _) (DxA.ofInts r)
end

/-! ### two heaps: what is shared (Hs) within what is tracked (H); draws may change, each time one less is left -/
/-- a list of draws: n more can be made of it -/
def DrawAt (n : Nat) (z : Option HO) : Prop := ∃ (x k : Int) (b : Bool), z = some (.lst [.int x, .int k, .bl b]) ∧ 0 ≤ x ∧ 0 ≤ k ∧ k + n ≤ 1000000 ∧ x.natAbs.log2 < 100000
theorem DrawAt.le {n m : Nat} {z : Option HO} (h : DrawAt n z) (l : m ≤ n) : DrawAt m z := by
  obtain ⟨x, k, b, h1, h2, h3, h4, h5⟩ := h
  exact ⟨x, k, b, h1, h2, h3, by omega, h5⟩
/-- no table is shared data -/
def NoB (Hs : Hp) : Prop := ∀ b ps, Hs b ≠ some (.tbl ps)
structure Sub (n : Nat) (Hs H : Hp) : Prop where
  hold : Hold Hs H
  drw : ∀ a o, Hs a = some o → isMk o = true → DrawAt n (H a)
theorem Sub.free {n : Nat} {Hs H : Hp} (s : Sub n Hs H) {a : Addr} (h : H a = none) : Hs a = none := by
  cases e : Hs a with
  | none => rfl
  | some o =>
    cases hm : isMk o with
    | false => rw [s.hold a o e hm] at h; cases h
    | true =>
      obtain ⟨x, k, b, q, _⟩ := s.drw a o e hm
      rw [q] at h; cases h
/-- the tables of code objects; the script -/
structure Tb where
  ps : List Addr
  K : PySem.W.Frag
  a : Addr
  ns : List Int
  on : Bool
instance : Membership Addr Tb := ⟨fun t a => a ∈ t.ps⟩
/-- a list that is not to be changed -/
def ScrAt (K : PySem.W.Frag) (H : Hp) (a : Addr) (xs : List L2.V) : Prop := (∃ o, H a = some (.frz o (.lst xs))) ∨ ∃ (o : Obj) (its : Array Value) (m : Nat), K.lookup a = some o ∧ o.cls = .type "list" ∧ o.dict = none ∧ o.data = .seq its m ∧ its.size ≤ sizeLine ∧ Vals xs its.toList
theorem ScrAt.sq {K : PySem.W.Frag} {H : Hp} {a : Addr} {xs : List L2.V} (h : ScrAt K H a xs) : SqL K H a xs := h.imp (fun z => .inr z) id
def TabsOk (t : Tb) (H : Hp) : Prop := (∀ P ∈ t, TabG H P) ∧ (t.on = true → ScrAt t.K H t.a (t.ns.map .int))
structure G0 (tabs : Tb) (n : Nat) (Hs H : Hp) : Prop where
  sb : Sub n Hs H
  nt : NoT H
  tab : TabsOk tabs H
  nb : NoB Hs
theorem G0.sub {tabs : Tb} {n : Nat} {Hs H : Hp} (g : G0 tabs n Hs H) (a : Addr) (o : HO) (h : Hs a = some o) (hm : isMk o = false := by rfl) : H a = some o := g.sb.hold a o h hm
/-- a thing is as it was, but for tables -/
def GrAt (o : HO) (z : Option HO) : Prop := z = some o ∨ ∃ ps ps' : Array Value, o = .tbl ps ∧ z = some (.tbl ps') ∧ (TriplesOk ps.toList → TriplesOk ps'.toList)
structure Ext (n n' : Nat) (Hs H Hs' H' : Hp) : Prop where
  le : n' ≤ n
  gr : ∀ a o, H a = some o → (n' ≠ n ∧ ∃ m, Hs a = some m ∧ isMk m = true) ∨ GrAt o (H' a)
  ss : Same Hs Hs'
  sb : Sub n' Hs' H'
  fr : ∀ b o, Hs b = none → H b = some o → Hs' b = none
  nt : NoT H'
  nb : NoB Hs'
theorem Ext.sub {n n' : Nat} {Hs H Hs' H' : Hp} (g : Ext n n' Hs H Hs' H') (a : Addr) (o : HO) (h : Hs' a = some o) (hm : isMk o = false := by rfl) : H' a = some o := g.sb.hold a o h hm
/-- without draws -/
theorem Ext.gr0 {n : Nat} {Hs H Hs' H' : Hp} (e : Ext n n Hs H Hs' H') : Gr H H' := fun a o h => by
  rcases e.gr a o h with ⟨z, _⟩ | z
  · exact absurd rfl z
  · exact z
theorem Gr.lift {n n' : Nat} {Hs H H' : Hp} (g : Gr H H') : ∀ a o, H a = some o → (n' ≠ n ∧ ∃ m, Hs a = some m ∧ isMk m = true) ∨ GrAt o (H' a) := fun a o h => .inr (g a o h)
/-- what isn't shared stays -/
theorem Ext.keep {n n' : Nat} {Hs H Hs' H' : Hp} (e : Ext n n' Hs H Hs' H') {a : Addr} {o : HO} (h : H a = some o) (hs : Hs a = none) (hb : (match o with | .tbl _ => false | _ => true) = true) : H' a = some o := by
  rcases e.gr a o h with ⟨_, m, q, _⟩ | q | ⟨_, _, rfl, _⟩
  · rw [hs] at q; cases q
  · exact q
  · cases hb
theorem Ext.tabG {n n' : Nat} {Hs H Hs' H' : Hp} (e : Ext n n' Hs H Hs' H') (nb : Sub n Hs H) {P : Addr} (t : TabG H P) : TabG H' P := by
  obtain ⟨ps, q, t⟩ := t
  rcases e.gr P _ q with ⟨_, m, hm, im⟩ | q2 | ⟨qs, qs', e2, q2, u⟩
  · obtain ⟨x, k, b, z, _⟩ := nb.drw P m hm im
    rw [q] at z; cases z
  · exact ⟨ps, q2, t⟩
  · cases e2; exact ⟨qs', q2, u t⟩
theorem Ext.scr {n n' : Nat} {Hs H Hs' H' : Hp} (e : Ext n n' Hs H Hs' H') (nb : Sub n Hs H) {K : PySem.W.Frag} {a : Addr} {xs : List L2.V} (t : ScrAt K H a xs) : ScrAt K H' a xs := by
  rcases t with ⟨o, t⟩ | t
  · rcases e.gr a _ t with ⟨_, m, hm, im⟩ | q2 | ⟨qs, qs', e2, q2, u⟩
    · obtain ⟨x, k, b, z, _⟩ := nb.drw a m hm im
      rw [t] at z; cases z
    · exact .inl ⟨o, q2⟩
    · cases e2
  · exact .inr t
theorem G0.ext {tabs : Tb} {n n' : Nat} {Hs H Hs' H' : Hp} (g : G0 tabs n Hs H) (e : Ext n n' Hs H Hs' H') : G0 tabs n' Hs' H' := ⟨e.sb, e.nt, ⟨fun P hP => e.tabG g.sb (g.tab.1 P hP), fun h => e.scr g.sb (g.tab.2 h)⟩, e.nb⟩
theorem G0.refl {tabs : Tb} {n : Nat} {Hs H : Hp} (g : G0 tabs n Hs H) : Ext n n Hs H Hs H := ⟨Nat.le_refl _, fun _ _ h => .inr (.inl h), Same.refl Hs, g.sb, fun _ _ h _ => h, g.nt, g.nb⟩
theorem GrAt.trans {o : HO} {z : Option HO} {Z : HO → Option HO} (h : GrAt o z) (k : ∀ u, z = some u → GrAt u (Z u)) : ∃ u, z = some u ∧ GrAt o (Z u) := by
  rcases h with h | ⟨ps, ps', rfl, h, t⟩
  · exact ⟨o, h, k o h⟩
  · refine ⟨_, h, ?_⟩
    rcases k _ h with q | ⟨qs, qs', e2, q, t2⟩
    · exact .inr ⟨ps, ps', rfl, q, t⟩
    · cases e2; exact .inr ⟨ps, qs', rfl, q, fun z => t2 (t z)⟩
theorem Ext.trans {n n1 n2 : Nat} {Hs H Hs1 H1 Hs2 H2 : Hp} (a : Ext n n1 Hs H Hs1 H1) (b : Ext n1 n2 Hs1 H1 Hs2 H2) : Ext n n2 Hs H Hs2 H2 := by
  have l := a.le
  have l2 := b.le
  refine ⟨by omega, fun c o h => ?_, a.ss.trans b.ss, b.sb, fun c o h1 h2 => ?_, b.nt, b.nb⟩
  · rcases a.gr c o h with ⟨z, m, hm, im⟩ | q
    · exact .inl ⟨by omega, m, hm, im⟩
    · have cases2 : ∀ u, H1 c = some u → (n2 ≠ n1 ∧ ∃ m, Hs1 c = some m ∧ isMk m = true) ∨ GrAt u (H2 c) := fun u hu => b.gr c u hu
      rcases q with q | ⟨ps, ps', rfl, q, t⟩
      · rcases cases2 _ q with ⟨z, m, hm, im⟩ | q2
        · left
          refine ⟨by omega, m, ?_, im⟩
          cases hs : Hs c with
          | none => rw [a.fr c o hs h] at hm; cases hm
          | some m2 => rw [a.ss c m2 hs] at hm; cases hm; rfl
        · exact .inr q2
      · rcases cases2 _ q with ⟨z, m, hm, im⟩ | q2
        · left
          refine ⟨by omega, m, ?_, im⟩
          cases hs : Hs c with
          | none => rw [a.fr c _ hs h] at hm; cases hm
          | some m2 => rw [a.ss c m2 hs] at hm; cases hm; rfl
        · refine .inr ?_
          rcases q2 with q3 | ⟨qs, qs', e2, q3, t2⟩
          · exact .inr ⟨ps, ps', rfl, q3, t⟩
          · cases e2; exact .inr ⟨ps, qs', rfl, q3, fun z => t2 (t z)⟩
  · rcases a.gr c o h2 with ⟨_, m, hm, _⟩ | q | ⟨_, ps', _, q, _⟩
    · rw [h1] at hm; cases hm
    · exact b.fr c o (a.fr c o h1 h2) q
    · exact b.fr c _ (a.fr c o h1 h2) q
/-- the tables alone have grown -/
theorem sub_tab {n : Nat} {Hs H H' : Hp} (hs : Sub n Hs H) (nb : NoB Hs) (e : TabEq H H') : Sub n Hs H' := by
  refine ⟨fun b o h hm => ?_, fun b o h hm => ?_⟩
  · rcases e b with q | ⟨ps, _, q, _⟩
    · exact q.trans (hs.hold b o h hm)
    · rw [hs.hold b o h hm] at q
      cases q
      exact absurd h (nb b ps)
  · have z := hs.drw b o h hm
    rcases e b with q | ⟨ps, _, q, _⟩
    · rw [q]; exact z
    · obtain ⟨x, k, c, y, _⟩ := z
      rw [q] at y; cases y
theorem Ext.tabs {tabs : Tb} {n : Nat} {Hs H H' : Hp} (g : G0 tabs n Hs H) (e : TabEq H H') : Ext n n Hs H Hs H' := ⟨Nat.le_refl _, Gr.lift e.gr, Same.refl _, sub_tab g.sb g.nb e, fun _ _ h _ => h, e.noT g.nt, g.nb⟩
/-- no table, no mark -/
def noB : HO → Bool
  | .tbl _ => false
  | .met _ _ => false
  | .frz _ _ => false
  | _ => true
theorem noB_mk {o : HO} (h : noB o = true) : isMk o = false := by cases o <;> first | rfl | cases h
theorem grAt_upd {H : Hp} {p : Addr} {o : HO} {b : Addr} {u : HO} (np : H p = none) (e : H b = some u) : GrAt u (upd H p o b) := .inl (by rw [upd_ne (ne_of_none e np)]; exact e)
/-- a new shared thing -/
theorem Ext.new {tabs : Tb} {n : Nat} {Hs H : Hp} {p : Addr} {o : HO} (g : G0 tabs n Hs H) (np : H p = none) (ho : plainO o = true) (hb : noB o = true) : Ext n n Hs H (upd Hs p o) (upd H p o) := by
  have ns : Hs p = none := g.sb.free np
  refine ⟨Nat.le_refl _, fun b u e => .inr (grAt_upd np e), fun b u e => by rw [upd_ne (ne_of_none e ns)]; exact e, ⟨fun b u e hm => ?_, fun b u e hm => ?_⟩, fun b u h1 h2 => by rw [upd_ne (ne_of_none h2 np)]; exact h1, fun b u e => ?_, fun b ps e => ?_⟩
  · by_cases hb : b = p
    · subst hb; rw [upd_same] at e ⊢; exact e
    · rw [upd_ne hb] at e ⊢; exact g.sb.hold b u e hm
  · by_cases hb' : b = p
    · subst hb'; rw [upd_same] at e; cases e; rw [noB_mk hb] at hm; cases hm
    · rw [upd_ne hb'] at e ⊢; exact g.sb.drw b u e hm
  · by_cases hb : b = p
    · subst hb; rw [upd_same] at e; cases e; exact ho
    · rw [upd_ne hb] at e; exact g.nt b u e
  · by_cases hb' : b = p
    · subst hb'; rw [upd_same] at e; cases e; cases hb
    · rw [upd_ne hb'] at e; exact g.nb b ps e
theorem sub_upd {n : Nat} {Hs H : Hp} {p : Addr} {o : HO} (g : Sub n Hs H) (hs : Hs p = none) : Sub n Hs (upd H p o) :=
  ⟨fun b u q hm => by rw [upd_ne (ne_of_none q hs)]; exact g.hold b u q hm, fun b u q hm => by rw [upd_ne (ne_of_none q hs)]; exact g.drw b u q hm⟩
theorem nt_upd {H : Hp} {p : Addr} {o : HO} (g : NoT H) (ho : plainO o = true) : NoT (upd H p o) := fun b u e => by
  by_cases hb : b = p
  · subst hb; rw [upd_same] at e; cases e; exact ho
  · rw [upd_ne hb] at e; exact g b u e
/-- a new owned thing -/
theorem Ext.newO {tabs : Tb} {n : Nat} {Hs H : Hp} {p : Addr} {o : HO} (g : G0 tabs n Hs H) (np : H p = none) (ho : plainO o = true) : Ext n n Hs H Hs (upd H p o) :=
  ⟨Nat.le_refl _, fun b u e => .inr (grAt_upd np e), Same.refl _, sub_upd g.sb (g.sb.free np), fun b u h1 _ => h1, nt_upd g.nt ho, g.nb⟩
/-- an owned thing (not there at the start) is written -/
theorem Ext.put {n n' : Nat} {Hs0 H0 Hs H : Hp} {p : Addr} {o : HO} (e : Ext n n' Hs0 H0 Hs H) (h0 : H0 p = none) (hs : Hs p = none) (ho : plainO o = true) : Ext n n' Hs0 H0 Hs (upd H p o) :=
  ⟨e.le, fun b u q => by rw [upd_ne (ne_of_none q h0)]; exact e.gr b u q, e.ss, sub_upd e.sb hs, e.fr, nt_upd e.nt ho, e.nb⟩
/-- an owned thing becomes shared -/
theorem sub_frz {n : Nat} {Hs H : Hp} {p : Addr} {o : HO} (g : Sub n Hs H) (hp : H p = some o) (hb : noB o = true) : Sub n (upd Hs p o) H := by
  refine ⟨fun b u q hm => ?_, fun b u q hm => ?_⟩
  · by_cases hb : b = p
    · subst hb; rw [upd_same] at q; cases q; exact hp
    · rw [upd_ne hb] at q; exact g.hold b u q hm
  · by_cases hb' : b = p
    · subst hb'; rw [upd_same] at q; cases q; rw [noB_mk hb] at hm; cases hm
    · rw [upd_ne hb'] at q; exact g.drw b u q hm
theorem nb_upd {Hs : Hp} {p : Addr} {o : HO} (g : NoB Hs) (hb : noB o = true) : NoB (upd Hs p o) := fun b ps q => by
  by_cases hb' : b = p
  · subst hb'; rw [upd_same] at q; cases q; cases hb
  · rw [upd_ne hb'] at q; exact g b ps q
theorem Ext.freeze {n n' : Nat} {Hs0 H0 Hs H : Hp} {p : Addr} {o : HO} (e : Ext n n' Hs0 H0 Hs H) (h0 : H0 p = none) (hs : Hs p = none) (hp : H p = some o) (hb : noB o = true) : Ext n n' Hs0 H0 (upd Hs p o) H := by
  refine ⟨e.le, e.gr, fun b u q => ?_, sub_frz e.sb hp hb, fun b u q1 q2 => by rw [upd_ne (ne_of_none q2 h0)]; exact e.fr b u q1 q2, e.nt, nb_upd e.nb hb⟩
  have := e.ss b u q
  rw [upd_ne (ne_of_none this hs)]; exact this
theorem G0.put {tabs : Tb} {n : Nat} {Hs H : Hp} {p : Addr} {o o' : HO} (g : G0 tabs n Hs H) (hp : H p = some o') (hn : noB o' = true) (hs : Hs p = none) (ho : plainO o = true) : G0 tabs n Hs (upd H p o) := by
  refine ⟨sub_upd g.sb hs, nt_upd g.nt ho, ⟨fun P hP => ?_, fun h => ?_⟩, g.nb⟩
  · obtain ⟨ps, e, t⟩ := g.tab.1 P hP
    refine ⟨ps, ?_, t⟩
    rw [upd_ne fun z => ?_]
    · exact e
    · rw [z, hp] at e; cases e; cases hn
  · rcases g.tab.2 h with ⟨u, t⟩ | t
    · refine .inl ⟨u, ?_⟩
      rw [upd_ne fun z => ?_]
      · exact t
      · rw [z, hp] at t; cases t; cases hn
    · exact .inr t
theorem G0.freeze {tabs : Tb} {n : Nat} {Hs H : Hp} {p : Addr} {o : HO} (g : G0 tabs n Hs H) (hp : H p = some o) (hb : noB o = true) : G0 tabs n (upd Hs p o) H := ⟨sub_frz g.sb hp hb, g.nt, g.tab, nb_upd g.nb hb⟩

/-! ### owned trees -/
inductive OT where
  | sh (d : Dt)
  | ls (ts : List OT)
  | tp (ts : List OT)
  | rt (a : Addr) (t : OT)
mutual
def OT.val : OT → Dt
  | .sh d => d
  | .ls ts => .list (OT.vals ts)
  | .tp ts => .tuple (OT.vals ts)
  | .rt _ t => OT.val t
def OT.vals : List OT → List Dt
  | [] => []
  | t :: ts => OT.val t :: OT.vals ts
end
theorem OT.vals_eq (ts : List OT) : OT.vals ts = ts.map OT.val := by
  induction ts with
  | nil => rfl
  | cons t ts ih => simp [OT.vals, ih]
mutual
inductive Ow (Hs H : Hp) : L2.V → OT → List Addr → Prop
  | sh {v : L2.V} {d : Dt} : Dx Hs v d → Ow Hs H v (.sh d) []
  | ls {a : Addr} {vs : List L2.V} {ts : List OT} {fp : List Addr} : H a = some (.lst vs) → Hs a = none → OwA Hs H vs ts fp → a ∉ fp → Ow Hs H (.ref a) (.ls ts) (a :: fp)
  | rt {a : Addr} {t : OT} {fp : List Addr} : Ow Hs H (.ref a) t fp → Ow Hs H (.ref a) (.rt a t) fp
  | tp {a : Addr} {vs : List L2.V} {ts : List OT} {fp : List Addr} : H a = some (.tup vs) → Hs a = none → OwA Hs H vs ts fp → a ∉ fp → Ow Hs H (.ref a) (.tp ts) (a :: fp)
inductive OwA (Hs H : Hp) : List L2.V → List OT → List Addr → Prop
  | nil : OwA Hs H [] [] []
  | cons {v : L2.V} {vs : List L2.V} {t : OT} {ts : List OT} {fp fq : List Addr} : Ow Hs H v t fp → OwA Hs H vs ts fq → (∀ a ∈ fp, a ∉ fq) → OwA Hs H (v :: vs) (t :: ts) (fp ++ fq)
end
section
variable {n n' : Nat} {Hs H Hs' H' Hs0 H0 : Hp}
theorem OwA.len : ∀ {ts : List OT} {vs : List L2.V} {fp : List Addr}, OwA Hs H vs ts fp → vs.length = ts.length
  | [], _, _, h => by cases h; rfl
  | _ :: _, _, _, h => by cases h with | cons _ h2 _ => simp [OwA.len h2]
mutual
/-- where the things of the tree stand as they were, it stands -/
theorem Ow.keep (ss : Same Hs Hs') : ∀ {t : OT} {v : L2.V} {fp : List Addr}, Ow Hs H v t fp → (∀ a ∈ fp, H' a = H a ∧ Hs' a = none) → Ow Hs' H' v t fp
  | .sh _, _, _, h, _ => by cases h with | sh h => exact .sh (h.mono ss)
  | .ls _, _, _, h, k => by
    cases h with
    | ls h1 h2 h3 h4 =>
      have := k _ List.mem_cons_self
      exact .ls (this.1.trans h1) this.2 (OwA.keep ss h3 fun a ha => k a (List.mem_cons_of_mem _ ha)) h4
  | .tp _, _, _, h, k => by
    cases h with
    | tp h1 h2 h3 h4 =>
      have := k _ List.mem_cons_self
      exact .tp (this.1.trans h1) this.2 (OwA.keep ss h3 fun a ha => k a (List.mem_cons_of_mem _ ha)) h4
  | .rt _ t, _, _, h, k => by cases h with | rt h => exact .rt (Ow.keep (t := t) ss h k)
theorem OwA.keep (ss : Same Hs Hs') : ∀ {ts : List OT} {vs : List L2.V} {fp : List Addr}, OwA Hs H vs ts fp → (∀ a ∈ fp, H' a = H a ∧ Hs' a = none) → OwA Hs' H' vs ts fp
  | [], _, _, h, _ => by cases h; exact .nil
  | _ :: _, _, _, h, k => by
    cases h with
    | cons h1 h2 h3 => exact .cons (Ow.keep ss h1 fun a ha => k a (List.mem_append_left _ ha)) (OwA.keep ss h2 fun a ha => k a (List.mem_append_right _ ha)) h3
end
mutual
/-- the things of a tree are tracked, none is shared -/
theorem Ow.own : ∀ {t : OT} {v : L2.V} {fp : List Addr}, Ow Hs H v t fp → ∀ a ∈ fp, Hs a = none ∧ ∃ o, H a = some o ∧ noB o = true
  | .sh _, _, _, h, a, ha => by cases h; cases ha
  | .ls _, _, _, h, a, ha => by
    cases h with
    | ls h1 h2 h3 h4 =>
      rcases List.mem_cons.mp ha with rfl | z
      · exact ⟨h2, _, h1, rfl⟩
      · exact OwA.own h3 a z
  | .tp _, _, _, h, a, ha => by
    cases h with
    | tp h1 h2 h3 h4 =>
      rcases List.mem_cons.mp ha with rfl | z
      · exact ⟨h2, _, h1, rfl⟩
      · exact OwA.own h3 a z
  | .rt _ t, _, _, h, a, ha => by cases h with | rt h => exact Ow.own (t := t) h a ha
theorem OwA.own : ∀ {ts : List OT} {vs : List L2.V} {fp : List Addr}, OwA Hs H vs ts fp → ∀ a ∈ fp, Hs a = none ∧ ∃ o, H a = some o ∧ noB o = true
  | [], _, _, h, a, ha => by cases h; cases ha
  | _ :: _, _, _, h, a, ha => by
    cases h with
    | cons h1 h2 h3 =>
      rcases List.mem_append.mp ha with z | z
      · exact Ow.own h1 a z
      · exact OwA.own h2 a z
end
theorem own_ext (e : Ext n n' Hs H Hs' H') {a : Addr} (h : Hs a = none ∧ ∃ o, H a = some o ∧ noB o = true) : H' a = H a ∧ Hs' a = none := by
  obtain ⟨h1, o, h2, h3⟩ := h
  refine ⟨?_, e.fr a o h1 h2⟩
  rw [h2]
  exact e.keep h2 h1 (by cases o <;> first | rfl | cases h3)
theorem Ow.ext (e : Ext n n' Hs H Hs' H') {t : OT} {v : L2.V} {fp : List Addr} (h : Ow Hs H v t fp) : Ow Hs' H' v t fp := h.keep e.ss fun a ha => own_ext e (h.own a ha)
theorem OwA.ext (e : Ext n n' Hs H Hs' H') {t : List OT} {v : List L2.V} {fp : List Addr} (h : OwA Hs H v t fp) : OwA Hs' H' v t fp := h.keep e.ss fun a ha => own_ext e (h.own a ha)
mutual
/-- an owned tree becomes shared data: each thing of it is made so -/
theorem Ow.freeze : ∀ {t : OT} {v : L2.V} {fp : List Addr} {Hs : Hp}, Ext n n' Hs0 H0 Hs H → Ow Hs H v t fp → (∀ a ∈ fp, H0 a = none) → ∃ Hs', Ext n n' Hs0 H0 Hs' H ∧ Same Hs Hs' ∧ Dx Hs' v t.val ∧ (∀ b, b ∉ fp → Hs' b = Hs b) ∧ ∀ b m, Hs' b = some m → isMk m = true → Hs b = some m
  | .sh _, _, _, Hs, e, h, _ => by
    cases h with
    | sh h => exact ⟨Hs, e, Same.refl _, h, fun _ _ => rfl, fun _ _ h _ => h⟩
  | .ls _, _, _, Hs, e, h, f => by
    cases h with
    | ls h1 h2 h3 h4 =>
      obtain ⟨Hs1, e1, s1, d1, k1, m1⟩ := OwA.freeze e h3 fun a ha => f a (List.mem_cons_of_mem _ ha)
      have na : Hs1 _ = none := (k1 _ h4).trans h2
      refine ⟨_, e1.freeze (f _ List.mem_cons_self) na h1 rfl, s1.trans fun b u q => by rw [upd_ne (ne_of_none q na)]; exact q, .lst upd_same (d1.mono fun b u q => by rw [upd_ne (ne_of_none q na)]; exact q), fun b hb => ?_, fun b m hb hm => ?_⟩
      · rw [upd_ne]
        · exact k1 b fun z => hb (List.mem_cons_of_mem _ z)
        · rintro rfl
          exact hb List.mem_cons_self
      · refine m1 b m ?_ hm
        rw [upd_ne] at hb
        · exact hb
        · rintro rfl
          rw [upd_same] at hb; cases hb; cases hm
  | .tp _, _, _, Hs, e, h, f => by
    cases h with
    | tp h1 h2 h3 h4 =>
      obtain ⟨Hs1, e1, s1, d1, k1, m1⟩ := OwA.freeze e h3 fun a ha => f a (List.mem_cons_of_mem _ ha)
      have na : Hs1 _ = none := (k1 _ h4).trans h2
      refine ⟨_, e1.freeze (f _ List.mem_cons_self) na h1 rfl, s1.trans fun b u q => by rw [upd_ne (ne_of_none q na)]; exact q, .tup upd_same (d1.mono fun b u q => by rw [upd_ne (ne_of_none q na)]; exact q), fun b hb => ?_, fun b m hb hm => ?_⟩
      · rw [upd_ne]
        · exact k1 b fun z => hb (List.mem_cons_of_mem _ z)
        · rintro rfl
          exact hb List.mem_cons_self
      · refine m1 b m ?_ hm
        rw [upd_ne] at hb
        · exact hb
        · rintro rfl
          rw [upd_same] at hb; cases hb; cases hm
  | .rt _ t, _, _, Hs, e, h, f => by cases h with | rt h => exact Ow.freeze (t := t) e h f
theorem OwA.freeze : ∀ {ts : List OT} {vs : List L2.V} {fp : List Addr} {Hs : Hp}, Ext n n' Hs0 H0 Hs H → OwA Hs H vs ts fp → (∀ a ∈ fp, H0 a = none) → ∃ Hs', Ext n n' Hs0 H0 Hs' H ∧ Same Hs Hs' ∧ DxA Hs' vs (OT.vals ts) ∧ (∀ b, b ∉ fp → Hs' b = Hs b) ∧ ∀ b m, Hs' b = some m → isMk m = true → Hs b = some m
  | [], _, _, Hs, e, h, _ => by cases h; exact ⟨Hs, e, Same.refl _, .nil, fun _ _ => rfl, fun _ _ h _ => h⟩
  | _ :: _, _, _, Hs, e, h, f => by
    cases h with
    | cons h1 h2 h3 =>
      obtain ⟨Hs1, e1, s1, d1, k1, m1⟩ := Ow.freeze e h1 fun a ha => f a (List.mem_append_left _ ha)
      have h2' : OwA Hs1 H _ _ _ := h2.keep s1 fun a ha => ⟨rfl, (k1 a fun z => h3 a z ha).trans (h2.own a ha).1⟩
      obtain ⟨Hs2, e2, s2, d2, k2, m2⟩ := OwA.freeze e1 h2' fun a ha => f a (List.mem_append_right _ ha)
      exact ⟨Hs2, e2, s1.trans s2, .cons (d1.mono s2) d2, fun b hb => (k2 b fun z => hb (List.mem_append_right _ z)).trans (k1 b fun z => hb (List.mem_append_left _ z)), fun b m hb hm => m1 b m (m2 b m hb hm) hm⟩
end
end
end QD

set_option Elab.async false
set_option linter.all false
set_option maxRecDepth 100000
set_option maxHeartbeats 4000000
/-! Qb: what slots hold; expressions, tests, arguments by wishes. -/
namespace QD
open PySem PySem.Spec PyProof.Rows L2 GxR XG

/-! ### what the slots hold -/
inductive Sl where
  | no
  | d (x : Dt)
  | ow (t : OT)
abbrev DE := List Sl
/-- F: the footprints of the owned slots -/
structure EnvR (H0 Hs H : Hp) (σ : L2.St) (ρ : DE) (F : Nat → List Addr) : Prop where
  len : σ.length = ρ.length
  d : ∀ (i : Nat) x, ρ[i]? = some (.d x) → ∃ v, σ[i]? = some (some v) ∧ Dx Hs v x
  ow : ∀ (i : Nat) t, ρ[i]? = some (.ow t) → (∃ v, σ[i]? = some (some v) ∧ Ow Hs H v t (F i)) ∧ ∀ a ∈ F i, H0 a = none
  sep : ∀ (i j : Nat) t u, i ≠ j → ρ[i]? = some (.ow t) → ρ[j]? = some (.ow u) → ∀ a ∈ F i, a ∉ F j
theorem set_get {α : Type} {l : List α} {i j : Nat} {x y : α} (h : (l.set i x)[j]? = some y) : (i = j ∧ i < l.length ∧ y = x) ∨ (i ≠ j ∧ l[j]? = some y) := by
  by_cases e : i = j
  · subst e
    by_cases hl : i < l.length
    · rw [List.getElem?_set_self hl] at h
      cases h
      exact .inl ⟨rfl, hl, rfl⟩
    · rw [List.getElem?_eq_none (by simpa using hl)] at h; cases h
  · rw [List.getElem?_set_ne e] at h
    exact .inr ⟨e, h⟩
section
variable {n n' : Nat} {H0 Hs H Hs' H' : Hp} {σ : L2.St} {ρ : DE} {F : Nat → List Addr}
theorem EnvR.ext (r : EnvR H0 Hs H σ ρ F) (e : Ext n n' Hs H Hs' H') : EnvR H0 Hs' H' σ ρ F where
  len := r.len
  d := fun i x h => by
    obtain ⟨v, h1, h2⟩ := r.d i x h
    exact ⟨v, h1, h2.mono e.ss⟩
  ow := fun i t h => by
    obtain ⟨⟨v, h1, h2⟩, h3⟩ := r.ow i t h
    exact ⟨⟨v, h1, h2.ext e⟩, h3⟩
  sep := r.sep
theorem EnvR.setD {i : Nat} {v : L2.V} {x : Dt} (r : EnvR H0 Hs H σ ρ F) (h : Dx Hs v x) : EnvR H0 Hs H (σ.set i (some v)) (ρ.set i (.d x)) F where
  len := by simpa using r.len
  d := fun j y hj => by
    rcases set_get hj with ⟨rfl, hl, e⟩ | ⟨ne, hj⟩
    · cases e
      exact ⟨v, List.getElem?_set_self (by rw [r.len]; exact hl), h⟩
    · rw [List.getElem?_set_ne ne]
      exact r.d j y hj
  ow := fun j t hj => by
    rcases set_get hj with ⟨rfl, hl, e⟩ | ⟨ne, hj⟩
    · cases e
    · rw [List.getElem?_set_ne ne]
      exact r.ow j t hj
  sep := fun j k t u hjk h1 h2 => by
    rcases set_get h1 with ⟨_, _, e⟩ | ⟨_, h1⟩
    · cases e
    rcases set_get h2 with ⟨_, _, e⟩ | ⟨_, h2⟩
    · cases e
    exact r.sep j k t u hjk h1 h2
def updF (F : Nat → List Addr) (i : Nat) (fp : List Addr) : Nat → List Addr := fun j => if j = i then fp else F j
theorem updF_same {i : Nat} {fp : List Addr} : updF F i fp i = fp := by unfold updF; rw [if_pos rfl]
theorem updF_ne {i j : Nat} {fp : List Addr} (h : i ≠ j) : updF F i fp j = F j := by unfold updF; rw [if_neg (Ne.symm h)]
/-- a slot that now holds an owned tree -/
theorem EnvR.setO {i : Nat} {v : L2.V} {t : OT} {fp : List Addr} (r : EnvR H0 Hs H σ ρ F) (h : Ow Hs H v t fp) (h0 : ∀ a ∈ fp, H0 a = none)
    (hs : ∀ (j : Nat) u, j ≠ i → ρ[j]? = some (.ow u) → ∀ a ∈ fp, a ∉ F j) : EnvR H0 Hs H (σ.set i (some v)) (ρ.set i (.ow t)) (updF F i fp) where
  len := by simpa using r.len
  d := fun j y hj => by
    rcases set_get hj with ⟨rfl, hl, e⟩ | ⟨ne, hj⟩
    · cases e
    · rw [List.getElem?_set_ne ne]
      exact r.d j y hj
  ow := fun j u hj => by
    rcases set_get hj with ⟨rfl, hl, e⟩ | ⟨ne, hj⟩
    · cases e
      rw [updF_same]
      exact ⟨⟨v, List.getElem?_set_self (by rw [r.len]; exact hl), h⟩, h0⟩
    · rw [List.getElem?_set_ne ne, updF_ne ne]
      exact r.ow j u hj
  sep := fun j k t' u hjk h1 h2 a ha hb => by
    rcases set_get h1 with ⟨rfl, _, e⟩ | ⟨ne, h1⟩
    · rcases set_get h2 with ⟨e2, _, _⟩ | ⟨ne2, h2⟩
      · exact hjk e2
      · rw [updF_same] at ha
        rw [updF_ne ne2] at hb
        exact hs k u (Ne.symm ne2) h2 a ha hb
    · rw [updF_ne ne] at ha
      rcases set_get h2 with ⟨rfl, _, e⟩ | ⟨ne2, h2⟩
      · rw [updF_same] at hb
        exact hs j t' (Ne.symm ne) h1 a hb ha
      · rw [updF_ne ne2] at hb
        exact r.sep j k t' u hjk h1 h2 a ha hb
/-- forgetting slots -/
theorem EnvR.weak {ρ' : DE} (r : EnvR H0 Hs H σ ρ F) (hl : ρ'.length = ρ.length) (h : ∀ (i : Nat) s, ρ'[i]? = some s → s = .no ∨ ρ[i]? = some s) : EnvR H0 Hs H σ ρ' F where
  len := r.len.trans hl.symm
  d := fun i x e => by
    rcases h i _ e with q | q
    · cases q
    · exact r.d i x q
  ow := fun i xs e => by
    rcases h i _ e with q | q
    · cases q
    · exact r.ow i xs q
  sep := fun i j xs ys hij h1 h2 => by
    rcases h i _ h1 with q | q
    · cases q
    rcases h j _ h2 with q2 | q2
    · cases q2
    exact r.sep i j xs ys hij q q2
/-- a slot's tree made shared data -/
def viewD (ρ : DE) (i : Nat) : DE := match ρ[i]? with
  | some (.ow t) => ρ.set i (.d t.val)
  | _ => ρ
theorem EnvR.frz {Hs0 : Hp} {B0 : Hp} {n0 : Nat} {i : Nat} (r : EnvR H0 Hs H σ ρ F) (e : Ext n0 n Hs0 B0 Hs H) (hB : ∀ t, ρ[i]? = some (.ow t) → ∀ a ∈ F i, B0 a = none) :
    ∃ Hs', Ext n0 n Hs0 B0 Hs' H ∧ Same Hs Hs' ∧ EnvR H0 Hs' H σ (viewD ρ i) F ∧ (∀ b m, Hs' b = some m → isMk m = true → Hs b = some m) := by
  unfold viewD
  split
  · rename_i t ht
    obtain ⟨⟨v, h1, h2⟩, h3⟩ := r.ow i t ht
    obtain ⟨Hs', e', s, dd, k, m⟩ := h2.freeze e (hB t ht)
    refine ⟨Hs', e', s, ?_, m⟩
    refine ⟨by simpa using r.len, fun j y hj => ?_, fun j u hj => ?_, fun j l t' u hjl h1 h2 => ?_⟩
    · rcases set_get hj with ⟨rfl, hl, z⟩ | ⟨ne, hj⟩
      · cases z
        exact ⟨v, h1, dd⟩
      · obtain ⟨w, q1, q2⟩ := r.d j y hj
        exact ⟨w, q1, q2.mono s⟩
    · rcases set_get hj with ⟨rfl, hl, z⟩ | ⟨ne, hj⟩
      · cases z
      · obtain ⟨⟨w, q1, q2⟩, q3⟩ := r.ow j u hj
        exact ⟨⟨w, q1, q2.keep s fun a ha => ⟨rfl, (k a (r.sep j i u t (Ne.symm ne) hj ht a ha)).trans (q2.own a ha).1⟩⟩, q3⟩
    · rcases set_get h1 with ⟨_, _, z⟩ | ⟨_, h1⟩
      · cases z
      rcases set_get h2 with ⟨_, _, z⟩ | ⟨_, h2⟩
      · cases z
      exact r.sep j l t' u hjl h1 h2
  · exact ⟨Hs, e, Same.refl _, r, fun _ _ h _ => h⟩
end

/-! ### exceptions in a heap -/
/-- class cls, own dict d: the exception e; mg: the module's names -/
def DxE (mg : Str → Option Value) (Hs : Hp) (cls : Value) (d : Option Addr) (e : Ex) : Prop := mg e.cn = some cls ∧
  ((e.fs = [] ∧ d = none) ∨ ∃ dd fs, d = some dd ∧ Hs dd = some (.xd fs) ∧ fs.map (·.1) = e.fs.map (·.1) ∧ DxA Hs (fs.map (·.2)) (e.fs.map (·.2)))
theorem DxE.mono {mg : Str → Option Value} {Hs Hs' : Hp} {cls : Value} {d : Option Addr} {e : Ex} (h : DxE mg Hs cls d e) (s : Same Hs Hs') : DxE mg Hs' cls d e := by
  obtain ⟨h1, h2⟩ := h
  refine ⟨h1, ?_⟩
  rcases h2 with h2 | ⟨dd, fs, a, b, c, q⟩
  · exact .inl h2
  · exact .inr ⟨dd, fs, a, s _ _ b, c, q.mono s⟩

/-! ### what is wanted of a value, of an exception -/
variable {X : Cx} {tabs : Tb} {Wx : WX}
def KE (n : Nat) (Hs H : Hp) (P : Dt → Nat → Prop) (Q : VK) : Prop := ∀ x n' v Hs' H', P x n' → Ext n n' Hs H Hs' H' → Dx Hs' v x → Q v H'
def KX (mg : Str → Option Value) (Wx : WX) (σ : L2.St) (n : Nat) (Hs H : Hp) (E : Ex → Nat → Prop) : Prop := ∀ e n' cls d Hs' H', E e n' → Ext n n' Hs H Hs' H' → DxE mg Hs' cls d e → Wx cls d σ H'
theorem KX.later {mg : Str → Option Value} {σ : L2.St} {n n1 : Nat} {Hs H Hs1 H1 : Hp} {E : Ex → Nat → Prop} (k : KX mg Wx σ n Hs H E) (e : Ext n n1 Hs H Hs1 H1) : KX mg Wx σ n1 Hs1 H1 E := fun x n' cls d Hs' H' h e' dx => k x n' cls d Hs' H' h (e.trans e') dx
theorem KX.no {mg : Str → Option Value} {σ : L2.St} {n : Nat} {Hs H : Hp} : KX mg Wx σ n Hs H (fun _ _ => False) := fun _ _ _ _ _ _ h => h.elim
def RdE (tabs : Tb) (mg : Str → Option Value) (Wx : WX) (t : TE) (Φ : DE → W Dt) : Prop := ∀ (H0 : Hp) F σ Hs H n ρ P E (Q : VK), G0 tabs n Hs H → EnvR H0 Hs H σ ρ F → Φ ρ P E n → KE n Hs H P Q → KX mg Wx σ n Hs H E → t σ H Q
def RdT (tabs : Tb) (mg : Str → Option Value) (Wx : WX) (t : TT) (Φ : DE → W Bool) : Prop := ∀ (H0 : Hp) F σ Hs H n ρ P E (Q : Bool → Hp → Prop), G0 tabs n Hs H → EnvR H0 Hs H σ ρ F → Φ ρ P E n →
  (∀ x n' Hs' H', P x n' → Ext n n' Hs H Hs' H' → Q x H') → KX mg Wx σ n Hs H E → t σ H Q
def RdA (tabs : Tb) (mg : Str → Option Value) (Wx : WX) (t : TA) (Φ : DE → W (List Dt)) : Prop := ∀ (H0 : Hp) F σ Hs H n ρ P E (Q : List L2.V → Hp → Prop), G0 tabs n Hs H → EnvR H0 Hs H σ ρ F → Φ ρ P E n →
  (∀ x n' vs Hs' H', P x n' → Ext n n' Hs H Hs' H' → DxA Hs' vs x → Q vs H') → KX mg Wx σ n Hs H E → t σ H Q
def XE (tabs : Tb) (Wx : WX) (X : Cx) (e : Expr) (Φ : DE → W Dt) : Prop := ∃ t, PE X e t ∧ RdE tabs X.mg Wx t Φ
def XT (tabs : Tb) (Wx : WX) (X : Cx) (e : Expr) (Φ : DE → W Bool) : Prop := ∃ t, PT X e t ∧ RdT tabs X.mg Wx t Φ
def XW (tabs : Tb) (Wx : WX) (X : Cx) (e : Expr) (Φ : DE → W Bool) : Prop := ∃ t, PW X e t ∧ RdT tabs X.mg Wx t Φ
def XA (tabs : Tb) (Wx : WX) (X : Cx) (es : List Expr) (Φ : DE → W (List Dt)) : Prop := ∃ t, PA X es t ∧ RdA tabs X.mg Wx t Φ

def wVar (i : Nat) (ρ : DE) : W Dt := match ρ[i]? with
  | some (.d x) => W.ret x
  | _ => W.no
section
variable {e a b c : Expr} {es : List Expr} {φ ψ χ : DE → W Dt} {θ τ : DE → W Bool} {α : DE → W (List Dt)} {pos p : Pos}
theorem wVar_some {i : Nat} {ρ : DE} {P : Dt → Nat → Prop} {E : Ex → Nat → Prop} {n : Nat} (h : wVar i ρ P E n) : ∃ x, ρ[i]? = some (.d x) ∧ P x n := by
  unfold wVar at h
  generalize ρ[i]? = o at h ⊢
  cases o with
  | none => exact h.elim
  | some s =>
    cases s with
    | no => exact h.elim
    | d x => exact ⟨x, rfl, h⟩
    | ow t => exact h.elim
theorem x_var {i : Nat} (h : PE X e (tVar i)) : XE tabs Wx X e (wVar i) := ⟨_, h, fun H0 F σ Hs H n ρ P E Q g r h q k => by
  obtain ⟨y, hy, h⟩ := wVar_some h
  obtain ⟨v, h1, h2⟩ := r.d i _ hy
  exact ⟨v, h1, q y n v Hs H h g.refl h2⟩⟩
theorem x_c {v : L2.V} {d : Dt} (h : PE X e (tC v)) (hd : ∀ H, Dx H v d) : XE tabs Wx X e (fun _ => W.ret d) := ⟨_, h, fun H0 F σ Hs H n ρ P E Q g r h q k => q d n v Hs H h g.refl (hd Hs)⟩
theorem x_int {i : Int} {j} : XE tabs Wx X (.Constant (.int i) j pos) (fun _ => W.ret (.int i)) := x_c pe_int fun _ => .int i
theorem x_bl {b : Bool} {j} : XE tabs Wx X (.Constant (.bool b) j pos) (fun _ => W.ret (.bool b)) := x_c pe_bl fun _ => .bl b
theorem x_non {j} : XE tabs Wx X (.Constant .none j pos) (fun _ => W.ret .none) := x_c pe_non fun _ => .non
theorem x_str {x : Str} {j} : XE tabs Wx X (.Constant (.str x) j pos) (fun _ => W.ret (.str x)) := x_c pe_str fun _ => .str x
/-- an operation by values -/
def RD (tabs : Tb) (r : R2) (g : Dt → Dt → Option Dt) : Prop := ∀ n Hs H v u x y z (Q : VK), G0 tabs n Hs H → Dx Hs v x → Dx Hs u y → g x y = some z → (∀ w Hs' H', Ext n n Hs H Hs' H' → Dx Hs' w z → Q w H') → r v u H Q
def wBin (g : Dt → Dt → Option Dt) (φ ψ : DE → W Dt) (ρ : DE) : W Dt := W.bind (φ ρ) fun x => W.bind (ψ ρ) fun y => W.opt (g x y)
theorem x_bin2 {te : R2 → TE → TE → TE} {r : R2} {g : Dt → Dt → Option Dt} (hr : RD tabs r g) (ha : XE tabs Wx X a φ) (hb : XE tabs Wx X b ψ) (mk : ∀ ta tb, PE X a ta → PE X b tb → PE X e (tOp r ta tb)) : XE tabs Wx X e (wBin g φ ψ) := by
  obtain ⟨ta, pa, qa⟩ := ha
  obtain ⟨tb, pb, qb⟩ := hb
  refine ⟨_, mk ta tb pa pb, fun H0 F σ Hs H n ρ P E Q g0 r0 h q k => ?_⟩
  refine qa H0 F σ Hs H n ρ _ E _ g0 r0 h (fun x n1 v Hs1 H1 h1 e1 d1 => ?_) k
  refine qb H0 F σ Hs1 H1 n1 ρ _ E _ (g0.ext e1) (r0.ext e1) h1 (fun y n2 u Hs2 H2 h2 e2 d2 => ?_) (k.later e1)
  obtain ⟨z, hz, hp⟩ := h2
  exact hr n2 Hs2 H2 v u x y z Q ((g0.ext e1).ext e2) (d1.mono e2.ss) d2 hz fun w Hs3 H3 e3 d3 => q z n2 w Hs3 H3 hp ((e1.trans e2).trans e3) d3
theorem x_op {op : Operator} {r : R2} {g : Dt → Dt → Option Dt} (ho : OpR X (binaryOp op) r) (hr : RD tabs r g) (ha : XE tabs Wx X a φ) (hb : XE tabs Wx X b ψ) : XE tabs Wx X (.BinOp a op b pos) (wBin g φ ψ) :=
  x_bin2 (te := tOp) hr ha hb fun ta tb pa pb => pe_op ho pa pb
theorem x_cmp {op : CmpOp} {r : R2} {g : Dt → Dt → Option Dt} (ho : OpR X (compareOp op) r) (hr : RD tabs r g) (ha : XE tabs Wx X a φ) (hb : XE tabs Wx X b ψ) (hm : behindInMarks op b = false) : XE tabs Wx X (.Compare a [op] [b] pos) (wBin g φ ψ) :=
  x_bin2 (te := tOp) hr ha hb fun ta tb pa pb => pe_cmpR ho pa pb hm
theorem x_ix {r : R2} {g : Dt → Dt → Option Dt} (ho : IxR X r) (hr : RD tabs r g) (ha : XE tabs Wx X a φ) (hb : XE tabs Wx X b ψ) (hs : PlainIx b) : XE tabs Wx X (.Subscript a b pos) (wBin g φ ψ) :=
  x_bin2 (te := tOp) hr ha hb fun ta tb pa pb => pe_ix ho pa pb hs
def toB : Dt → Option Bool
  | .bool b => some b
  | _ => none
theorem toB_some {d : Dt} {b : Bool} (h : toB d = some b) : d = .bool b := by
  cases d <;> simp [toB] at h
  rw [h]
def wToB (φ : DE → W Dt) (ρ : DE) : W Bool := W.bind (φ ρ) fun x => W.opt (toB x)
/-- a test that is some expression's truth value -/
theorem t_val (ha : XE tabs Wx X e φ) (he : ∀ whole, isTrue e X.env whole = (do let v ← whole; standAt e.pos; holding [v] (truthy v)) := by intro _; rfl) : XT tabs Wx X e (wToB φ) := by
  obtain ⟨ta, pa, qa⟩ := ha
  refine ⟨_, pt_val pa he, fun H0 F σ Hs H n ρ P E Q g0 r0 h q k => ?_⟩
  refine qa H0 F σ Hs H n ρ _ E _ g0 r0 h (fun x n1 v Hs1 H1 h1 e1 d1 => ?_) k
  obtain ⟨z, hz, hp⟩ := h1
  have := toB_some hz
  subst this
  cases d1
  exact ⟨z, rfl, q z n1 Hs1 H1 hp e1⟩
theorem t_cmp {op : CmpOp} {r : R2} {g : Dt → Dt → Option Dt} (ho : OpR X (compareOp op) r) (hr : RD tabs r g) (ha : XE tabs Wx X a φ) (hb : XE tabs Wx X b ψ) (hm : behindInMarks op b = false) : XT tabs Wx X (.Compare a [op] [b] pos) (wToB (wBin g φ ψ)) := by
  obtain ⟨ta, pa, qa⟩ := ha
  obtain ⟨tb, pb, qb⟩ := hb
  refine ⟨_, pt_cmpR ho pa pb hm, fun H0 F σ Hs H n ρ P E Q g0 r0 h q k => ?_⟩
  refine qa H0 F σ Hs H n ρ _ E _ g0 r0 h (fun x n1 v Hs1 H1 h1 e1 d1 => ?_) k
  refine qb H0 F σ Hs1 H1 n1 ρ _ E _ (g0.ext e1) (r0.ext e1) h1 (fun y n2 u Hs2 H2 h2 e2 d2 => ?_) (k.later e1)
  obtain ⟨z, hz, w, hw, hp⟩ := h2
  have := toB_some hw
  subst this
  refine hr n2 Hs2 H2 v u x y _ _ ((g0.ext e1).ext e2) (d1.mono e2.ss) d2 hz fun w' Hs3 H3 e3 d3 => ?_
  cases d3
  exact ⟨w, rfl, q w n2 Hs3 H3 hp ((e1.trans e2).trans e3)⟩
/-- a op b op' c -/
def wChain (g g' : Dt → Dt → Option Dt) (φ ψ χ : DE → W Dt) (ρ : DE) : W Dt := W.bind (φ ρ) fun x => W.bind (ψ ρ) fun y => W.bind (W.opt ((g x y).bind toB)) fun b => W.ite b (W.bind (χ ρ) fun w => W.opt (g' y w)) (W.ret (.bool false))
theorem chain_rd {op op' : CmpOp} {r r' : R2} {g g' : Dt → Dt → Option Dt} {ta tb tc : TE} {mg : Str → Option Value} (hr : RD tabs r g) (hr' : RD tabs r' g')
    (qa : RdE tabs mg Wx ta φ) (qb : RdE tabs mg Wx tb ψ) (qc : RdE tabs mg Wx tc χ) : RdE tabs mg Wx (tChain r r' ta tb tc) (wChain g g' φ ψ χ) := fun H0 F σ Hs H n ρ P E Q g0 r0 h q kx => by
  refine qa H0 F σ Hs H n ρ _ E _ g0 r0 h (fun x n1 v Hs1 H1 h1 e1 d1 => ?_) kx
  refine qb H0 F σ Hs1 H1 n1 ρ _ E _ (g0.ext e1) (r0.ext e1) h1 (fun y n2 u Hs2 H2 h2 e2 d2 => ?_) (kx.later e1)
  obtain ⟨k, hk, hz⟩ := h2
  cases hm : g x y with
  | none => rw [hm] at hk; cases hk
  | some m =>
    rw [hm] at hk
    have := toB_some hk
    subst this
    refine hr n2 Hs2 H2 v u x y _ _ ((g0.ext e1).ext e2) (d1.mono e2.ss) d2 hm fun w' Hs3 H3 e3 d3 => ?_
    cases d3
    refine ⟨k, rfl, ?_⟩
    have e123 := (e1.trans e2).trans e3
    unfold W.ite at hz
    cases k with
    | false =>
      rw [if_neg Bool.false_ne_true] at hz ⊢
      exact q _ n2 _ Hs3 H3 hz e123 (.bl false)
    | true =>
      rw [if_pos rfl] at hz ⊢
      refine qc H0 F σ Hs3 H3 n2 ρ _ E _ (g0.ext e123) (r0.ext e123) hz (fun w n4 u' Hs4 H4 h4 e4 d4 => ?_) (kx.later e123)
      obtain ⟨z, hz, hp⟩ := h4
      exact hr' n4 Hs4 H4 u u' y w z Q ((g0.ext e123).ext e4) ((d2.mono e3.ss).mono e4.ss) d4 hz fun w Hs5 H5 e5 d5 => q z n4 w Hs5 H5 hp ((e123.trans e4).trans e5) d5
theorem x_chain {op op' : CmpOp} {r r' : R2} {g g' : Dt → Dt → Option Dt} (ho : OpR X (compareOp op) r) (ho' : OpR X (compareOp op') r') (hr : RD tabs r g) (hr' : RD tabs r' g') (ha : XE tabs Wx X a φ) (hb : XE tabs Wx X b ψ) (hc : XE tabs Wx X c χ)
    (hm : lastMarks [op, op'] [b, c] = false := by with_unfolding_all rfl) : XE tabs Wx X (.Compare a [op, op'] [b, c] pos) (wChain g g' φ ψ χ) := by
  obtain ⟨ta, pa, qa⟩ := ha
  obtain ⟨tb, pb, qb⟩ := hb
  obtain ⟨tc, pc, qc⟩ := hc
  exact ⟨_, pe_chain ho ho' pa pb pc hm, chain_rd (op := op) (op' := op') hr hr' qa qb qc⟩
theorem t_chain {op op' : CmpOp} {r r' : R2} {g g' : Dt → Dt → Option Dt} (ho : OpR X (compareOp op) r) (ho' : OpR X (compareOp op') r') (hr : RD tabs r g) (hr' : RD tabs r' g') (ha : XE tabs Wx X a φ) (hb : XE tabs Wx X b ψ) (hc : XE tabs Wx X c χ)
    (hm : lastMarks [op, op'] [b, c] = false := by with_unfolding_all rfl) : XT tabs Wx X (.Compare a [op, op'] [b, c] pos) (wToB (wChain g g' φ ψ χ)) := by
  obtain ⟨ta, pa, qa⟩ := ha
  obtain ⟨tb, pb, qb⟩ := hb
  obtain ⟨tc, pc, qc⟩ := hc
  refine ⟨_, pt_chain ho ho' pa pb pc hm, fun H0 F σ Hs H n ρ P E Q g0 r0 h q kx => ?_⟩
  refine chain_rd (op := op) (op' := op') hr hr' qa qb qc H0 F σ Hs H n ρ _ E _ g0 r0 h (fun z n' v Hs' H' h1 e d => ?_) kx
  obtain ⟨w, hw, hp⟩ := h1
  have := toB_some hw
  subst this
  cases d
  exact ⟨w, rfl, q w n' Hs' H' hp e⟩
def wNotT (θ : DE → W Bool) (ρ : DE) : W Bool := W.map (!·) (θ ρ)
theorem t_not (ha : XT tabs Wx X a θ) : XT tabs Wx X (.UnaryOp .Not a pos) (wNotT θ) := by
  obtain ⟨ta, pa, qa⟩ := ha
  exact ⟨_, pt_not pa, fun H0 F σ Hs H n ρ P E Q g0 r0 h q kx => qa H0 F σ Hs H n ρ _ E _ g0 r0 h (fun x n' Hs' H' h1 e => q _ n' Hs' H' h1 e) kx⟩
def wAndT (θ τ : DE → W Bool) (ρ : DE) : W Bool := W.bind (θ ρ) fun b => W.ite b (τ ρ) (W.ret false)
def wOrT (θ τ : DE → W Bool) (ρ : DE) : W Bool := W.bind (θ ρ) fun b => W.ite b (W.ret true) (τ ρ)
theorem w_and1 (ha : XT tabs Wx X a θ) : XW tabs Wx X (.BoolOp .And [a] pos) θ := by
  obtain ⟨ta, pa, qa⟩ := ha
  exact ⟨_, pw_and1 pa, qa⟩
theorem w_or1 (ha : XT tabs Wx X a θ) : XW tabs Wx X (.BoolOp .Or [a] pos) θ := by
  obtain ⟨ta, pa, qa⟩ := ha
  exact ⟨_, pw_or1 pa, qa⟩
theorem w_and (ha : XT tabs Wx X a θ) (hb : XW tabs Wx X (.BoolOp .And (b :: es) pos) τ) : XW tabs Wx X (.BoolOp .And (a :: b :: es) pos) (wAndT θ τ) := by
  obtain ⟨ta, pa, qa⟩ := ha
  obtain ⟨tb, pb, qb⟩ := hb
  refine ⟨_, pw_and pa pb, fun H0 F σ Hs H n ρ P E Q g0 r0 h q kx => ?_⟩
  refine qa H0 F σ Hs H n ρ _ E _ g0 r0 h (fun k n1 Hs1 H1 h1 e1 => ?_) kx
  unfold W.ite at h1
  cases k with
  | true =>
    rw [if_pos rfl] at h1
    exact iteT (qb H0 F σ Hs1 H1 n1 ρ _ E _ (g0.ext e1) (r0.ext e1) h1 (fun w n2 Hs2 H2 h2 e2 => q w n2 Hs2 H2 h2 (e1.trans e2)) (kx.later e1))
  | false =>
    rw [if_neg Bool.false_ne_true] at h1
    exact iteF (q _ n1 Hs1 H1 h1 e1)
theorem w_or (ha : XT tabs Wx X a θ) (hb : XW tabs Wx X (.BoolOp .Or (b :: es) pos) τ) : XW tabs Wx X (.BoolOp .Or (a :: b :: es) pos) (wOrT θ τ) := by
  obtain ⟨ta, pa, qa⟩ := ha
  obtain ⟨tb, pb, qb⟩ := hb
  refine ⟨_, pw_or pa pb, fun H0 F σ Hs H n ρ P E Q g0 r0 h q kx => ?_⟩
  refine qa H0 F σ Hs H n ρ _ E _ g0 r0 h (fun k n1 Hs1 H1 h1 e1 => ?_) kx
  unfold W.ite at h1
  cases k with
  | false =>
    rw [if_neg Bool.false_ne_true] at h1
    exact iteF (qb H0 F σ Hs1 H1 n1 ρ _ E _ (g0.ext e1) (r0.ext e1) h1 (fun w n2 Hs2 H2 h2 e2 => q w n2 Hs2 H2 h2 (e1.trans e2)) (kx.later e1))
  | true =>
    rw [if_pos rfl] at h1
    exact iteT (q _ n1 Hs1 H1 h1 e1)
theorem t_w (h : XW tabs Wx X e θ) : XT tabs Wx X e θ := by
  obtain ⟨t, p, q⟩ := h
  exact ⟨t, p.pt, q⟩
/-! and, or, not as values of True and False -/
def wAndV (φ ψ : DE → W Dt) (ρ : DE) : W Dt := W.bind (φ ρ) fun x => W.bind (W.opt (toB x)) fun b => W.ite b (ψ ρ) (W.ret (.bool false))
def wOrV (φ ψ : DE → W Dt) (ρ : DE) : W Dt := W.bind (φ ρ) fun x => W.bind (W.opt (toB x)) fun b => W.ite b (W.ret (.bool true)) (ψ ρ)
theorem x_one {op} (h : XE tabs Wx X a φ) : XE tabs Wx X (.BoolOp op [a] pos) φ := by
  obtain ⟨t, p, q⟩ := h
  exact ⟨t, pe_one p, q⟩
theorem x_and (ha : XE tabs Wx X a φ) (hb : XE tabs Wx X (.BoolOp .And (b :: es) pos) ψ) : XE tabs Wx X (.BoolOp .And (a :: b :: es) pos) (wAndV φ ψ) := by
  obtain ⟨ta, pa, qa⟩ := ha
  obtain ⟨tb, pb, qb⟩ := hb
  refine ⟨_, pe_and pa pb, fun H0 F σ Hs H n ρ P E Q g0 r0 h q kx => ?_⟩
  refine qa H0 F σ Hs H n ρ _ E _ g0 r0 h (fun x n1 v Hs1 H1 h1 e1 d1 => ?_) kx
  obtain ⟨k, hk, h1⟩ := h1
  have := toB_some hk
  subst this
  cases d1
  refine ⟨k, rfl, ?_⟩
  unfold W.ite at h1
  cases k with
  | true =>
    rw [if_pos rfl] at h1
    exact iteT (qb H0 F σ Hs1 H1 n1 ρ _ E _ (g0.ext e1) (r0.ext e1) h1 (fun w n2 v Hs2 H2 h2 e2 d2 => q w n2 v Hs2 H2 h2 (e1.trans e2) d2) (kx.later e1))
  | false =>
    rw [if_neg Bool.false_ne_true] at h1
    exact iteF (q _ n1 _ Hs1 H1 h1 e1 (.bl false))
theorem x_or (ha : XE tabs Wx X a φ) (hb : XE tabs Wx X (.BoolOp .Or (b :: es) pos) ψ) : XE tabs Wx X (.BoolOp .Or (a :: b :: es) pos) (wOrV φ ψ) := by
  obtain ⟨ta, pa, qa⟩ := ha
  obtain ⟨tb, pb, qb⟩ := hb
  refine ⟨_, pe_or pa pb, fun H0 F σ Hs H n ρ P E Q g0 r0 h q kx => ?_⟩
  refine qa H0 F σ Hs H n ρ _ E _ g0 r0 h (fun x n1 v Hs1 H1 h1 e1 d1 => ?_) kx
  obtain ⟨k, hk, h1⟩ := h1
  have := toB_some hk
  subst this
  cases d1
  refine ⟨k, rfl, ?_⟩
  unfold W.ite at h1
  cases k with
  | false =>
    rw [if_neg Bool.false_ne_true] at h1
    exact iteF (qb H0 F σ Hs1 H1 n1 ρ _ E _ (g0.ext e1) (r0.ext e1) h1 (fun w n2 v Hs2 H2 h2 e2 d2 => q w n2 v Hs2 H2 h2 (e1.trans e2) d2) (kx.later e1))
  | true =>
    rw [if_pos rfl] at h1
    exact iteT (q _ n1 _ Hs1 H1 h1 e1 (.bl true))
def wNotV (φ : DE → W Dt) (ρ : DE) : W Dt := W.bind (φ ρ) fun x => W.opt ((toB x).map fun k => .bool (!k))
theorem x_not (ha : XE tabs Wx X a φ) : XE tabs Wx X (.UnaryOp .Not a pos) (wNotV φ) := by
  obtain ⟨ta, pa, qa⟩ := ha
  refine ⟨_, pe_not pa, fun H0 F σ Hs H n ρ P E Q g0 r0 h q kx => ?_⟩
  refine qa H0 F σ Hs H n ρ _ E _ g0 r0 h (fun x n1 v Hs1 H1 h1 e1 d1 => ?_) kx
  obtain ⟨z, hz, hp⟩ := h1
  cases hk : toB x with
  | none => rw [hk] at hz; cases hz
  | some k =>
    rw [hk] at hz
    cases hz
    have := toB_some hk
    subst this
    cases d1
    exact ⟨k, rfl, q _ n1 _ Hs1 H1 hp e1 (.bl _)⟩
def wIf (θ : DE → W Bool) (φ ψ : DE → W Dt) (ρ : DE) : W Dt := W.bind (θ ρ) fun b => W.ite b (φ ρ) (ψ ρ)
theorem x_if (hc : XT tabs Wx X c θ) (ha : XE tabs Wx X a φ) (hb : XE tabs Wx X b ψ) : XE tabs Wx X (.IfExp c a b pos) (wIf θ φ ψ) := by
  obtain ⟨tc, pc, qc⟩ := hc
  obtain ⟨ta, pa, qa⟩ := ha
  obtain ⟨tb, pb, qb⟩ := hb
  refine ⟨_, pe_ifExp pc pa pb, fun H0 F σ Hs H n ρ P E Q g0 r0 h q kx => ?_⟩
  refine qc H0 F σ Hs H n ρ _ E _ g0 r0 h (fun k n1 Hs1 H1 h1 e1 => ?_) kx
  unfold W.ite at h1
  cases k with
  | true =>
    rw [if_pos rfl] at h1
    exact iteT (qa H0 F σ Hs1 H1 n1 ρ _ E _ (g0.ext e1) (r0.ext e1) h1 (fun w n2 v Hs2 H2 h2 e2 d2 => q w n2 v Hs2 H2 h2 (e1.trans e2) d2) (kx.later e1))
  | false =>
    rw [if_neg Bool.false_ne_true] at h1
    exact iteF (qb H0 F σ Hs1 H1 n1 ρ _ E _ (g0.ext e1) (r0.ext e1) h1 (fun w n2 v Hs2 H2 h2 e2 d2 => q w n2 v Hs2 H2 h2 (e1.trans e2) d2) (kx.later e1))
/-! ### argument lists -/
theorem a_nil : XA tabs Wx X [] (fun _ => W.ret []) := ⟨_, pa_nil, fun H0 F σ Hs H n ρ P E Q g0 r0 h q kx => q [] n [] Hs H h g0.refl .nil⟩
def wCons (φ : DE → W Dt) (α : DE → W (List Dt)) (ρ : DE) : W (List Dt) := W.bind (φ ρ) fun x => W.map (x :: ·) (α ρ)
theorem a_cons (ha : XE tabs Wx X e φ) (hb : XA tabs Wx X es α) (hs : starEach (e :: es) X.env = (false, eval e X.env) :: starEach es X.env := by rfl) : XA tabs Wx X (e :: es) (wCons φ α) := by
  obtain ⟨ta, pa, qa⟩ := ha
  obtain ⟨tb, pb, qb⟩ := hb
  refine ⟨_, pa_cons pa pb hs, fun H0 F σ Hs H n ρ P E Q g0 r0 h q kx => ?_⟩
  refine qa H0 F σ Hs H n ρ _ E _ g0 r0 h (fun x n1 v Hs1 H1 h1 e1 d1 => ?_) kx
  refine qb H0 F σ Hs1 H1 n1 ρ _ E _ (g0.ext e1) (r0.ext e1) h1 (fun xs n2 vs Hs2 H2 h2 e2 d2 => ?_) (kx.later e1)
  exact q _ n2 _ Hs2 H2 h2 (e1.trans e2) (.cons (d1.mono e2.ss) d2)
theorem small5 {n : Nat} (h : n ≤ 100000) : n ≤ sizeLine := Nat.le_trans h (by decide)
/-- a call by values -/
def RCD (tabs : Tb) (r : List L2.V → Hp → VK → Prop) (g : List Dt → Option Dt) : Prop := ∀ n Hs H vs xs z (Q : VK), G0 tabs n Hs H → DxA Hs vs xs → g xs = some z → (∀ w Hs' H', Ext n n Hs H Hs' H' → Dx Hs' w z → Q w H') → r vs H Q
def wArgs (g : List Dt → Option Dt) (α : DE → W (List Dt)) (ρ : DE) : W Dt := W.bind (α ρ) fun xs => W.opt (g xs)
theorem x_args {r : List L2.V → Hp → VK → Prop} {g : List Dt → Option Dt} {e : Expr} (hr : RCD tabs r g) (ha : XA tabs Wx X es α) (mk : ∀ t, PA X es t → PE X e (tCB r t)) : XE tabs Wx X e (wArgs g α) := by
  obtain ⟨t, p, qa⟩ := ha
  refine ⟨_, mk t p, fun H0 F σ Hs H n ρ P E Q g0 r0 h q kx => ?_⟩
  refine qa H0 F σ Hs H n ρ _ E _ g0 r0 h (fun xs n1 vs Hs1 H1 h1 e1 d1 => ?_) kx
  obtain ⟨z, hz, hp⟩ := h1
  exact hr n1 Hs1 H1 vs xs z Q (g0.ext e1) d1 hz fun v Hs2 H2 e2 d2 => q z n1 v Hs2 H2 hp (e1.trans e2) d2

/-! ### owned results; M: the slots whose trees are moved -/
/-- where an owned thing comes from: new, or a slot's that is moved -/
def FpOk (H : Hp) (F : Nat → List Addr) (ρ : DE) (M : List Nat) (fp : List Addr) : Prop := ∀ a ∈ fp, H a = none ∨ ∃ i ∈ M, (∃ t, ρ[i]? = some (.ow t)) ∧ a ∈ F i
def KO (n : Nat) (Hs H : Hp) (F : Nat → List Addr) (ρ : DE) (M : List Nat) (P : OT → Nat → Prop) (Q : VK) : Prop := ∀ t n' v Hs' H' fp, P t n' → Ext n n' Hs H Hs' H' → Ow Hs' H' v t fp → FpOk H F ρ M fp → Q v H'
def RdO (tabs : Tb) (mg : Str → Option Value) (Wx : WX) (M : List Nat) (t : TE) (Φ : DE → W OT) : Prop := ∀ (H0 : Hp) F σ Hs H n ρ P E (Q : VK), G0 tabs n Hs H → EnvR H0 Hs H σ ρ F → Φ ρ P E n → KO n Hs H F ρ M P Q → KX mg Wx σ n Hs H E → t σ H Q
def RdOA (tabs : Tb) (mg : Str → Option Value) (Wx : WX) (M : List Nat) (t : TA) (Φ : DE → W (List OT)) : Prop := ∀ (H0 : Hp) F σ Hs H n ρ P E (Q : List L2.V → Hp → Prop), G0 tabs n Hs H → EnvR H0 Hs H σ ρ F → Φ ρ P E n →
  (∀ ts n' vs Hs' H' fp, P ts n' → Ext n n' Hs H Hs' H' → OwA Hs' H' vs ts fp → FpOk H F ρ M fp → Q vs H') → KX mg Wx σ n Hs H E → t σ H Q
def XO (tabs : Tb) (Wx : WX) (M : List Nat) (X : Cx) (e : Expr) (Φ : DE → W OT) : Prop := ∃ t, PE X e t ∧ RdO tabs X.mg Wx M t Φ
def XOA (tabs : Tb) (Wx : WX) (M : List Nat) (X : Cx) (es : List Expr) (Φ : DE → W (List OT)) : Prop := ∃ t, PA X es t ∧ RdOA tabs X.mg Wx M t Φ
theorem FpOk.nil {H : Hp} {F : Nat → List Addr} {ρ : DE} {M : List Nat} : FpOk H F ρ M [] := fun _ h => by cases h
/-- an owned thing is shared -/
theorem x_frz {Φ : DE → W OT} (h : XO tabs Wx [] X e Φ) : XE tabs Wx X e (fun ρ => W.map OT.val (Φ ρ)) := by
  obtain ⟨t, p, qa⟩ := h
  refine ⟨_, p, fun H0 F σ Hs H n ρ P E Q g0 r0 h q kx => ?_⟩
  refine qa H0 F σ Hs H n ρ _ E _ g0 r0 h (fun t n1 v Hs1 H1 fp h1 e1 d1 f1 => ?_) kx
  obtain ⟨Hs2, e2, s2, dd, _, _⟩ := d1.freeze e1 fun a ha => (f1 a ha).elim id fun ⟨_, z, _⟩ => by cases z
  exact q _ n1 v Hs2 H1 h1 e2 dd
/-- what is shared, as a tree -/
theorem o_sh (h : XE tabs Wx X e φ) : XO tabs Wx [] X e (fun ρ => W.map OT.sh (φ ρ)) := by
  obtain ⟨t, p, qa⟩ := h
  exact ⟨_, p, fun H0 F σ Hs H n ρ P E Q g0 r0 h q kx => qa H0 F σ Hs H n ρ _ E _ g0 r0 h (fun x n1 v Hs1 H1 h1 e1 d1 => q _ n1 v Hs1 H1 [] h1 e1 (.sh d1) .nil) kx⟩
/-- a slot's tree is moved -/
def wMove (i : Nat) (ρ : DE) : W OT := match ρ[i]? with
  | some (.ow t) => W.ret t
  | _ => W.no
theorem wMove_some {i : Nat} {ρ : DE} {P : OT → Nat → Prop} {E : Ex → Nat → Prop} {n : Nat} (h : wMove i ρ P E n) : ∃ t, ρ[i]? = some (.ow t) ∧ P t n := by
  unfold wMove at h
  generalize ρ[i]? = o at h ⊢
  cases o with
  | none => exact h.elim
  | some s =>
    cases s with
    | no => exact h.elim
    | d x => exact h.elim
    | ow t => exact ⟨t, rfl, h⟩
theorem o_move {i : Nat} (h : PE X e (tVar i)) : XO tabs Wx [i] X e (wMove i) := ⟨_, h, fun H0 F σ Hs H n ρ P E Q g r h q k => by
  obtain ⟨t, ht, h⟩ := wMove_some h
  obtain ⟨⟨v, h1, h2⟩, _⟩ := r.ow i _ ht
  exact ⟨v, h1, q t n v Hs H (F i) h g.refl h2 fun a ha => .inr ⟨i, List.mem_singleton.mpr rfl, ⟨t, ht⟩, ha⟩⟩⟩
theorem oa_nil : XOA tabs Wx [] X [] (fun _ => W.ret []) := ⟨_, pa_nil, fun H0 F σ Hs H n ρ P E Q g0 r0 h q kx => q [] n [] Hs H [] h g0.refl .nil .nil⟩
def wConsO (φ : DE → W OT) (α : DE → W (List OT)) (ρ : DE) : W (List OT) := W.bind (φ ρ) fun x => W.map (x :: ·) (α ρ)
theorem oa_cons {Φ : DE → W OT} {A : DE → W (List OT)} {M M' : List Nat} (ha : XO tabs Wx M X e Φ) (hb : XOA tabs Wx M' X es A) (hM : ∀ i ∈ M, i ∉ M') (hs : starEach (e :: es) X.env = (false, eval e X.env) :: starEach es X.env := by rfl) : XOA tabs Wx (M ++ M') X (e :: es) (wConsO Φ A) := by
  obtain ⟨ta, pa, qa⟩ := ha
  obtain ⟨tb, pb, qb⟩ := hb
  refine ⟨_, pa_cons pa pb hs, fun H0 F σ Hs H n ρ P E Q g0 r0 h q kx => ?_⟩
  refine qa H0 F σ Hs H n ρ _ E _ g0 r0 h (fun x n1 v Hs1 H1 fp h1 e1 d1 f1 => ?_) kx
  refine qb H0 F σ Hs1 H1 n1 ρ _ E _ (g0.ext e1) (r0.ext e1) h1 (fun xs n2 vs Hs2 H2 fq h2 e2 d2 f2 => ?_) (kx.later e1)
  refine q _ n2 _ Hs2 H2 _ h2 (e1.trans e2) (.cons (d1.ext e2) d2 fun a ha hb => ?_) fun a ha => ?_
  · obtain ⟨_, o, ho, _⟩ := d1.own a ha
    rcases f2 a hb with z | ⟨j, hj, ⟨u, hu⟩, haj⟩
    · rw [ho] at z; cases z
    · rcases f1 a ha with z | ⟨i, hi, ⟨t, ht⟩, hai⟩
      · obtain ⟨⟨w, _, ow⟩, _⟩ := r0.ow j u hu
        obtain ⟨_, o2, ho2, _⟩ := ow.own a haj
        rw [ho2] at z; cases z
      · exact r0.sep i j t u (fun z => hM i hi (z ▸ hj)) ht hu a hai haj
  · rcases List.mem_append.mp ha with z | z
    · rcases f1 a z with y | ⟨i, hi, y⟩
      · exact .inl y
      · exact .inr ⟨i, List.mem_append_left _ hi, y⟩
    · rcases f2 a z with y | ⟨i, hi, y⟩
      · refine .inl ?_
        cases hq : H a with
        | none => rfl
        | some o =>
          rcases e1.gr a o hq with ⟨_, m, hm, im⟩ | w | ⟨_, _, _, w, _⟩
          · obtain ⟨x, k, b, w, _⟩ := e1.sb.drw a m (e1.ss a m hm) im
            rw [y] at w; cases w
          · rw [y] at w; cases w
          · rw [y] at w; cases w
      · exact .inr ⟨i, List.mem_append_right _ hi, y⟩
theorem FpOk.cons {H : Hp} {F : Nat → List Addr} {ρ : DE} {M : List Nat} {fp : List Addr} {a : Addr} (h : FpOk H F ρ M fp) (ha : H a = none) : FpOk H F ρ M (a :: fp) := fun b hb => by
  rcases List.mem_cons.mp hb with rfl | z
  · exact .inl ha
  · exact h b z
theorem Ext.free {n n' : Nat} {Hs H Hs' H' : Hp} (e : Ext n n' Hs H Hs' H') {a : Addr} (y : H' a = none) : H a = none := by
  cases hq : H a with
  | none => rfl
  | some o =>
    rcases e.gr a o hq with ⟨_, m, hm, im⟩ | w | ⟨_, _, _, w, _⟩
    · obtain ⟨x, k, b, w, _⟩ := e.sb.drw a m (e.ss a m hm) im
      rw [y] at w; cases w
    · rw [y] at w; cases w
    · rw [y] at w; cases w
theorem OwA.not_new {Hs H : Hp} {vs : List L2.V} {ts : List OT} {fp : List Addr} (h : OwA Hs H vs ts fp) {p : Addr} (np : H p = none) : p ∉ fp := fun hp => by
  obtain ⟨_, o, ho, _⟩ := h.own p hp
  rw [np] at ho; cases ho
def wLs (ts : List OT) : W OT := fun P _ n => ts.length ≤ 100000 ∧ P (.ls ts) n
def wTp (ts : List OT) : W OT := fun P _ n => ts.length ≤ 100000 ∧ P (.tp ts) n
theorem o_lst {A : DE → W (List OT)} {M : List Nat} (h : XOA tabs Wx M X es A) : XO tabs Wx M X (.List es pos) (fun ρ => W.bind (A ρ) wLs) := by
  obtain ⟨t, p, qa⟩ := h
  refine ⟨_, pe_lst p, fun H0 F σ Hs H n ρ P E Q g0 r0 h q kx => ?_⟩
  refine qa H0 F σ Hs H n ρ _ E _ g0 r0 h (fun ts n1 vs Hs1 H1 fp h1 e1 d1 f1 => ⟨small5 (by rw [d1.len]; exact h1.1), fun p np => ?_⟩) kx
  have e2 := Ext.newO (o := .lst vs) (g0.ext e1) np rfl
  exact q _ n1 _ _ _ _ h1.2 (e1.trans e2) (.ls upd_same (e1.sb.free np) (d1.ext e2) (d1.not_new np)) (f1.cons (e1.free np))
theorem o_tup {x1} {A : DE → W (List OT)} {M : List Nat} (h : XOA tabs Wx M X es A) : XO tabs Wx M X (.Tuple es x1 pos) (fun ρ => W.bind (A ρ) wTp) := by
  obtain ⟨t, p, qa⟩ := h
  refine ⟨_, pe_tup p, fun H0 F σ Hs H n ρ P E Q g0 r0 h q kx => ?_⟩
  refine qa H0 F σ Hs H n ρ _ E _ g0 r0 h (fun ts n1 vs Hs1 H1 fp h1 e1 d1 f1 => ⟨small5 (by rw [d1.len]; exact h1.1), fun p np => ?_⟩) kx
  have e2 := Ext.newO (o := .tup vs) (g0.ext e1) np rfl
  exact q _ n1 _ _ _ _ h1.2 (e1.trans e2) (.tp upd_same (e1.sb.free np) (d1.ext e2) (d1.not_new np)) (f1.cons (e1.free np))
/-- a call whose value is a new list, tuple -/
def RCO (tabs : Tb) (r : List L2.V → Hp → VK → Prop) (g : List Dt → Option OT) : Prop := ∀ n Hs H vs xs z (Q : VK), G0 tabs n Hs H → DxA Hs vs xs → g xs = some z → (∀ w Hs' H' fp, Ext n n Hs H Hs' H' → Ow Hs' H' w z fp → (∀ a ∈ fp, H a = none) → Q w H') → r vs H Q
theorem o_args {r : List L2.V → Hp → VK → Prop} {g : List Dt → Option OT} {e : Expr} (hr : RCO tabs r g) (ha : XA tabs Wx X es α) (mk : ∀ t, PA X es t → PE X e (tCB r t)) : XO tabs Wx [] X e (fun ρ => W.bind (α ρ) fun xs => W.opt (g xs)) := by
  obtain ⟨t, p, qa⟩ := ha
  refine ⟨_, mk t p, fun H0 F σ Hs H n ρ P E Q g0 r0 h q kx => ?_⟩
  refine qa H0 F σ Hs H n ρ _ E _ g0 r0 h (fun xs n1 vs Hs1 H1 h1 e1 d1 => ?_) kx
  obtain ⟨z, hz, hp⟩ := h1
  exact hr n1 Hs1 H1 vs xs z Q (g0.ext e1) d1 hz fun v Hs2 H2 fp e2 d2 f2 => q z n1 v Hs2 H2 fp hp (e1.trans e2) d2 fun a ha => .inl (e1.free (f2 a ha))
/-- an operation whose value is a new list, tuple -/
def RO (tabs : Tb) (r : R2) (g : Dt → Dt → Option OT) : Prop := ∀ n Hs H v u x y z (Q : VK), G0 tabs n Hs H → Dx Hs v x → Dx Hs u y → g x y = some z → (∀ w Hs' H' fp, Ext n n Hs H Hs' H' → Ow Hs' H' w z fp → (∀ a ∈ fp, H a = none) → Q w H') → r v u H Q
def wBinO (g : Dt → Dt → Option OT) (φ ψ : DE → W Dt) (ρ : DE) : W OT := W.bind (φ ρ) fun x => W.bind (ψ ρ) fun y => W.opt (g x y)
theorem o_op {op : Operator} {r : R2} {g : Dt → Dt → Option OT} (ho : OpR X (binaryOp op) r) (hr : RO tabs r g) (ha : XE tabs Wx X a φ) (hb : XE tabs Wx X b ψ) : XO tabs Wx [] X (.BinOp a op b pos) (wBinO g φ ψ) := by
  obtain ⟨ta, pa, qa⟩ := ha
  obtain ⟨tb, pb, qb⟩ := hb
  refine ⟨_, pe_op ho pa pb, fun H0 F σ Hs H n ρ P E Q g0 r0 h q k => ?_⟩
  refine qa H0 F σ Hs H n ρ _ E _ g0 r0 h (fun x n1 v Hs1 H1 h1 e1 d1 => ?_) k
  refine qb H0 F σ Hs1 H1 n1 ρ _ E _ (g0.ext e1) (r0.ext e1) h1 (fun y n2 u Hs2 H2 h2 e2 d2 => ?_) (k.later e1)
  obtain ⟨z, hz, hp⟩ := h2
  exact hr n2 Hs2 H2 v u x y z Q ((g0.ext e1).ext e2) (d1.mono e2.ss) d2 hz fun w Hs3 H3 fp e3 d3 f3 => q z n2 w Hs3 H3 fp hp ((e1.trans e2).trans e3) d3 fun a ha => .inl (e1.free (e2.free (f3 a ha)))

/-! ### a slot's tree lent out -/
/-- a thing of its own: the heap doesn't matter -/
def atom : Dt → Bool
  | .list _ => false
  | .tuple _ => false
  | .dict _ => false
  | _ => true
theorem atom_dx {Hs Hs' : Hp} {v : L2.V} {d : Dt} (h : atom d = true) (k : Dx Hs v d) : Dx Hs' v d := by
  cases d <;> simp [atom] at h <;> cases k <;> constructor
/-- back from where more was shared -/
theorem Ext.back {n n' : Nat} {Hs H Hs1 Hs' H' : Hp} (e : Ext n n' Hs1 H Hs' H') (s : Same Hs Hs1) (m : ∀ b m, Hs1 b = some m → isMk m = true → Hs b = some m) (nb : NoB Hs) : Ext n n' Hs H Hs H' := by
  refine ⟨e.le, fun a o h => ?_, Same.refl _, ⟨fun a o h hm => e.sb.hold a o (e.ss a o (s a o h)) hm, fun a o h hm => e.sb.drw a o (e.ss a o (s a o h)) hm⟩, fun _ _ h _ => h, e.nt, nb⟩
  rcases e.gr a o h with ⟨z, u, hu, iu⟩ | z
  · exact .inl ⟨z, u, m a u hu iu, iu⟩
  · exact .inr z
def wLend (i : Nat) (φ : DE → W Dt) (ρ : DE) : W Dt := fun P _ n => φ (viewD ρ i) (fun x n' => atom x = true ∧ P x n') (fun _ _ => False) n
def wLendT (i : Nat) (θ : DE → W Bool) (ρ : DE) : W Bool := fun P _ n => θ (viewD ρ i) P (fun _ _ => False) n
theorem EnvR.lend {n : Nat} {H0 Hs H : Hp} {σ : L2.St} {ρ : DE} {F : Nat → List Addr} (i : Nat) (g : G0 tabs n Hs H) (r : EnvR H0 Hs H σ ρ F) :
    ∃ Hs1, G0 tabs n Hs1 H ∧ EnvR H0 Hs1 H σ (viewD ρ i) F ∧ ∀ n' Hs' H', Ext n n' Hs1 H Hs' H' → Ext n n' Hs H Hs H' := by
  obtain ⟨Hs1, e1, s1, r1, m1⟩ := r.frz (i := i) (Hs0 := fun _ => none) (B0 := fun _ => none) (n0 := n) ⟨Nat.le_refl _, fun _ _ h => (by cases h), fun _ _ h => (by cases h), g.sb, fun _ _ _ h => (by cases h), g.nt, g.nb⟩ fun _ _ _ _ => rfl
  exact ⟨Hs1, ⟨e1.sb, e1.nt, g.tab, e1.nb⟩, r1, fun n' Hs' H' e => e.back s1 m1 g.nb⟩
theorem x_lend (i : Nat) (h : XE tabs Wx X e φ) : XE tabs Wx X e (wLend i φ) := by
  obtain ⟨t, p, qa⟩ := h
  refine ⟨t, p, fun H0 F σ Hs H n ρ P E Q g0 r0 h q kx => ?_⟩
  obtain ⟨Hs1, g1, r1, bk⟩ := r0.lend i g0
  exact qa H0 F σ Hs1 H n _ _ _ _ g1 r1 h (fun x n1 v Hs2 H2 h1 e1 d1 => q x n1 v Hs H2 h1.2 (bk _ _ _ e1) (atom_dx h1.1 d1)) KX.no
theorem t_lend (i : Nat) (h : XT tabs Wx X e θ) : XT tabs Wx X e (wLendT i θ) := by
  obtain ⟨t, p, qa⟩ := h
  refine ⟨t, p, fun H0 F σ Hs H n ρ P E Q g0 r0 h q kx => ?_⟩
  obtain ⟨Hs1, g1, r1, bk⟩ := r0.lend i g0
  exact qa H0 F σ Hs1 H n _ _ _ _ g1 r1 h (fun x n1 Hs2 H2 h1 e1 => q x n1 Hs H2 h1 (bk _ _ _ e1)) KX.no
mutual
/-- a tree without shared lists, tuples -/
def OT.alone : OT → Bool
  | .sh d => atom d
  | .ls ts => OT.aloneA ts
  | .tp ts => OT.aloneA ts
  | .rt _ t => OT.alone t
def OT.aloneA : List OT → Bool
  | [] => true
  | t :: ts => OT.alone t && OT.aloneA ts
end
mutual
theorem Ow.back {Hs Hs' H : Hp} : ∀ {t : OT} {v : L2.V} {fp : List Addr}, OT.alone t = true → Ow Hs' H v t fp → (∀ a ∈ fp, Hs a = none) → Ow Hs H v t fp
  | .sh _, _, _, c, h, _ => by cases h with | sh h => exact .sh (atom_dx (by simpa [OT.alone] using c) h)
  | .ls _, _, _, c, h, k => by cases h with | ls h1 h2 h3 h4 => exact .ls h1 (k _ List.mem_cons_self) (OwA.back (by simpa [OT.alone] using c) h3 fun a ha => k a (List.mem_cons_of_mem _ ha)) h4
  | .tp _, _, _, c, h, k => by cases h with | tp h1 h2 h3 h4 => exact .tp h1 (k _ List.mem_cons_self) (OwA.back (by simpa [OT.alone] using c) h3 fun a ha => k a (List.mem_cons_of_mem _ ha)) h4
  | .rt _ t, _, _, c, h, k => by cases h with | rt h => exact .rt (Ow.back (t := t) (by simpa [OT.alone] using c) h k)
theorem OwA.back {Hs Hs' H : Hp} : ∀ {ts : List OT} {vs : List L2.V} {fp : List Addr}, OT.aloneA ts = true → OwA Hs' H vs ts fp → (∀ a ∈ fp, Hs a = none) → OwA Hs H vs ts fp
  | [], _, _, _, h, _ => by cases h; exact .nil
  | _ :: _, _, _, c, h, k => by
    simp only [OT.aloneA, Bool.and_eq_true] at c
    cases h with
    | cons h1 h2 h3 => exact .cons (Ow.back c.1 h1 fun a ha => k a (List.mem_append_left _ ha)) (OwA.back c.2 h2 fun a ha => k a (List.mem_append_right _ ha)) h3
end
def wLendO (i : Nat) (φ : DE → W OT) (ρ : DE) : W OT := fun P _ n => φ (viewD ρ i) (fun t n' => t.alone = true ∧ P t n') (fun _ _ => False) n
theorem o_lend (i : Nat) {Φ : DE → W OT} (h : XO tabs Wx [] X e Φ) : XO tabs Wx [] X e (wLendO i Φ) := by
  obtain ⟨t, p, qa⟩ := h
  refine ⟨t, p, fun H0 F σ Hs H n ρ P E Q g0 r0 h q kx => ?_⟩
  obtain ⟨Hs1, g1, r1, bk⟩ := r0.lend i g0
  refine qa H0 F σ Hs1 H n _ _ _ _ g1 r1 h (fun x n1 v Hs2 H2 fp h1 e1 d1 f1 => ?_) KX.no
  have fr : ∀ a ∈ fp, H a = none := fun a ha => (f1 a ha).elim id fun ⟨_, z, _⟩ => by cases z
  exact q x n1 v Hs H2 fp h1.2 (bk _ _ _ e1) (d1.back h1.1 fun a ha => g0.sb.free (fr a ha)) fun a ha => .inl (fr a ha)
end
end QD

set_option Elab.async false
set_option linter.all false
set_option maxRecDepth 100000
set_option maxHeartbeats 4000000
/-! Qc: canonical readings, targets, what is walked. -/
namespace QD
open PySem PySem.Spec PyProof.Rows L2 GxR XG
variable {X : Cx} {tabs : Tb} {Wx : WX}

/-! ### canonical readings (they hang on the wish alone) -/
theorem pe_imp {e : Expr} {t u : TE} (h : PE X e t) (i : ∀ σ H Q, u σ H Q → t σ H Q) : PE X e u := ⟨fun pins s σ H Q I q => h.run pins s σ H Q I (i σ H Q q)⟩
def cE (tabs : Tb) (mg : Str → Option Value) (Wx : WX) (Φ : DE → W Dt) : TE := fun σ H Q => ∃ H0 F Hs n ρ P E, G0 tabs n Hs H ∧ EnvR H0 Hs H σ ρ F ∧ Φ ρ P E n ∧ KE n Hs H P Q ∧ KX mg Wx σ n Hs H E
theorem XE.can {e : Expr} {Φ : DE → W Dt} (h : XE tabs Wx X e Φ) : PE X e (cE tabs X.mg Wx Φ) := by
  obtain ⟨t, p, q⟩ := h
  exact pe_imp p fun σ H Q ⟨H0, F, Hs, n, ρ, P, E, a, b, c, d, k⟩ => q H0 F σ Hs H n ρ P E Q a b c d k
def cO (tabs : Tb) (mg : Str → Option Value) (Wx : WX) (M : List Nat) (Φ : DE → W OT) : TE := fun σ H Q => ∃ H0 F Hs n ρ P E, G0 tabs n Hs H ∧ EnvR H0 Hs H σ ρ F ∧ Φ ρ P E n ∧ KO n Hs H F ρ M P Q ∧ KX mg Wx σ n Hs H E
theorem XO.can {e : Expr} {Φ : DE → W OT} {M : List Nat} (h : XO tabs Wx M X e Φ) : PE X e (cO tabs X.mg Wx M Φ) := by
  obtain ⟨t, p, q⟩ := h
  exact pe_imp p fun σ H Q ⟨H0, F, Hs, n, ρ, P, E, a, b, c, d, k⟩ => q H0 F σ Hs H n ρ P E Q a b c d k
/-- a clause's tests -/
def XTs (tabs : Tb) (Wx : WX) (X : Cx) (ifs : List Expr) (Φ : DE → W Bool) : Prop := ∃ t, PTs X ifs t ∧ RdT tabs X.mg Wx t Φ
theorem ts_nil : XTs tabs Wx X [] (fun _ => W.ret true) := ⟨_, pts_nil, fun H0 F σ Hs H n ρ P E Q g r h q k => q true n Hs H h g.refl⟩
theorem ts_one {c : Expr} {Φ : DE → W Bool} (h : XT tabs Wx X c Φ) : XTs tabs Wx X [c] Φ := by
  obtain ⟨t, p, q⟩ := h
  exact ⟨_, pts_one p, q⟩
def cT (tabs : Tb) (mg : Str → Option Value) (Wx : WX) (Φ : DE → W Bool) : TT := fun σ H Q => ∃ H0 F Hs n ρ P E, G0 tabs n Hs H ∧ EnvR H0 Hs H σ ρ F ∧ Φ ρ P E n ∧ (∀ x n' Hs' H', P x n' → Ext n n' Hs H Hs' H' → Q x H') ∧ KX mg Wx σ n Hs H E
theorem XTs.can {ifs : List Expr} {Φ : DE → W Bool} (h : XTs tabs Wx X ifs Φ) : PTs X ifs (cT tabs X.mg Wx Φ) := by
  obtain ⟨t, p, q⟩ := h
  exact ⟨fun pins s σ H Q I ⟨H0, F, Hs, n, ρ, P, E, a, b, c, d, k⟩ => p.run pins s σ H Q I (q H0 F σ Hs H n ρ P E Q a b c d k)⟩

/-! ### targets: is, the slots stored to -/
def XTg (X : Cx) (tg : Expr) (is : List Nat) (γ : Dt → DE → Option DE) : Prop := ∃ g : TG, PG X tg g ∧ ∀ (H0 : Hp) F σ Hs H ρ v d ρ' (Q : L2.St → Hp → Prop), Hold Hs H → EnvR H0 Hs H σ ρ F → Dx Hs v d → γ d ρ = some ρ' →
  (∀ σ', EnvR H0 Hs H σ' ρ' F → σ'.length = σ.length → (∀ j, j ∉ is → σ'[j]? = σ[j]?) → Q σ' H) → g v σ H Q
def cG (is : List Nat) (γ : Dt → DE → Option DE) : TG := fun v σ H Q => ∃ H0 F Hs ρ d ρ', Hold Hs H ∧ EnvR H0 Hs H σ ρ F ∧ Dx Hs v d ∧ γ d ρ = some ρ' ∧ ∀ σ', EnvR H0 Hs H σ' ρ' F → σ'.length = σ.length → (∀ j, j ∉ is → σ'[j]? = σ[j]?) → Q σ' H
theorem XTg.can {tg : Expr} {is : List Nat} {γ : Dt → DE → Option DE} (h : XTg X tg is γ) : PG X tg (cG is γ) := by
  obtain ⟨g, p, q⟩ := h
  exact ⟨fun pins s σ H v u Q I r ⟨H0, F, Hs, ρ, d, ρ', z, a, b, c, e⟩ => p.run pins s σ H v u Q I r (q H0 F σ Hs H ρ v d ρ' Q z a b c e)⟩
theorem g_name {tg : Expr} {i : Nat} (h : PG X tg (gName i)) : XTg X tg [i] (fun d ρ => some (ρ.set i (.d d))) := ⟨_, h, fun H0 F σ Hs H ρ v d ρ' Q hs r hd e q => by
  cases e
  exact q _ (r.setD hd) (List.length_set ..) fun j hj => List.getElem?_set_ne fun z => hj (by rw [z]; exact List.mem_singleton.mpr rfl)⟩
/-- a, b -/
def dPair (i j : Nat) (d : Dt) (ρ : DE) : Option DE := match d with
  | .tuple [a, b] => some ((ρ.set i (.d a)).set j (.d b))
  | _ => none
theorem g_pair {tg : Expr} {i j : Nat} (h : PG X tg (gTup X.K 2 (gCons (gName i) (gCons (gName j) gNil)))) : XTg X tg [i, j] (dPair i j) := ⟨_, h, fun H0 F σ Hs H ρ v d ρ' Q hs r hd e q => by
  unfold dPair at e
  split at e
  · rename_i a b
    cases e
    cases hd with
    | tup h1 h2 =>
      cases h2 with
      | cons ha h3 =>
        cases h3 with
        | cons hb h4 =>
          cases h4
          refine ⟨_, _, rfl, SqT.of (hs _ _ h1 rfl), rfl, _, _, rfl, _, _, rfl, rfl, q _ ((r.setD ha).setD hb) (by simp) fun k hk => ?_⟩
          rw [List.getElem?_set_ne fun z => hk (by rw [z]; exact List.mem_cons_of_mem _ (List.mem_singleton.mpr rfl)), List.getElem?_set_ne fun z => hk (by rw [z]; exact List.mem_cons_self)]
  · cases e⟩
/-- a, b, c -/
def dTrip (i j k : Nat) (d : Dt) (ρ : DE) : Option DE := match d with
  | .tuple [a, b, c] => some (((ρ.set i (.d a)).set j (.d b)).set k (.d c))
  | _ => none
theorem g_trip {tg : Expr} {i j l : Nat} (h : PG X tg (gTup X.K 3 (gCons (gName i) (gCons (gName j) (gCons (gName l) gNil))))) : XTg X tg [i, j, l] (dTrip i j l) := ⟨_, h, fun H0 F σ Hs H ρ v d ρ' Q hs r hd e q => by
  unfold dTrip at e
  split at e
  · rename_i a b c
    cases e
    cases hd with
    | tup h1 h2 =>
      cases h2 with
      | cons ha h3 =>
        cases h3 with
        | cons hb h4 =>
          cases h4 with
          | cons hc h5 =>
            cases h5
            refine ⟨_, _, rfl, SqT.of (hs _ _ h1 rfl), rfl, _, _, rfl, _, _, rfl, _, _, rfl, rfl, q _ (((r.setD ha).setD hb).setD hc) (by simp) fun k hk => ?_⟩
            rw [List.getElem?_set_ne fun z => hk (by rw [z]; simp), List.getElem?_set_ne fun z => hk (by rw [z]; simp), List.getElem?_set_ne fun z => hk (by rw [z]; simp)]
  · cases e⟩

/-! ### what is walked -/
/-- the iterator J yields the data ds, in any later heap -/
def ItOk (tabs : Tb) (J : It) (Hs0 : Hp) (ds : List Dt) : Prop := ∀ n Hs H, G0 tabs n Hs H → Same Hs0 Hs →
  (∀ i, i < ds.length → J.go i H ∧ ∀ x H', J.yld i H x H' → ∃ Hs' d, ds[i]? = some d ∧ Ext n n Hs H Hs' H' ∧ Dx Hs' x d) ∧ J.stop ds.length H
def KI (tabs : Tb) (n : Nat) (Hs H : Hp) (P : List Dt → Nat → Prop) (R : It → Hp → Prop) : Prop := ∀ ds n' J Hs' H', P ds n' → Ext n n' Hs H Hs' H' → ItOk tabs J Hs' ds → R J H'
def RdI (tabs : Tb) (mg : Str → Option Value) (Wx : WX) (wi : TI) (κ : DE → W (List Dt)) : Prop := ∀ (H0 : Hp) F σ Hs H n ρ P E (R : It → Hp → Prop), G0 tabs n Hs H → EnvR H0 Hs H σ ρ F → κ ρ P E n → KI tabs n Hs H P R → KX mg Wx σ n Hs H E → wi σ H R
def XI (tabs : Tb) (Wx : WX) (X : Cx) (tg iter : Expr) (κ : DE → W (List Dt)) : Prop := ∃ wi, PI X tg iter wi ∧ RdI tabs X.mg Wx wi κ
def cI (tabs : Tb) (mg : Str → Option Value) (Wx : WX) (κ : DE → W (List Dt)) : TI := fun σ H R => ∃ H0 F Hs n ρ P E, G0 tabs n Hs H ∧ EnvR H0 Hs H σ ρ F ∧ κ ρ P E n ∧ KI tabs n Hs H P R ∧ KX mg Wx σ n Hs H E
theorem XI.can {tg iter : Expr} {κ : DE → W (List Dt)} (h : XI tabs Wx X tg iter κ) : PI X tg iter (cI tabs X.mg Wx κ) := by
  obtain ⟨t, p, q⟩ := h
  exact ⟨fun pins s σ H Q I ⟨H0, F, Hs, n, ρ, P, E, a, b, c, d, k⟩ => p.run pins s σ H Q I (q H0 F σ Hs H n ρ P E Q a b c d k)⟩
def asL : Dt → Option (List Dt)
  | .list ds => some ds
  | _ => none
def asT : Dt → Option (List Dt)
  | .tuple ds => some ds
  | _ => none
theorem asL_some {d : Dt} {ds : List Dt} (h : asL d = some ds) : d = .list ds := by
  cases d <;> simp [asL] at h
  rw [h]
theorem asT_some {d : Dt} {ds : List Dt} (h : asT d = some ds) : d = .tuple ds := by
  cases d <;> simp [asT] at h
  rw [h]
section
variable {tg e e2 : Expr} {φ ψ : DE → W Dt} {α : DE → W (List Dt)} {p pos tpos : Pos} {elts : List Expr} {kk : Nat}
theorem sq_inj {K : PySem.W.Frag} {H : Hp} {a : Addr} {xs ys : List L2.V} (h : H a = some (.lst xs)) (g : Rd H a (.lst ys)) : ys = xs := by
  rcases g with g | ⟨o, g⟩ <;> rw [h] at g <;> cases g
  rfl
theorem i_list (h : XE tabs Wx X e φ) : XI tabs Wx X tg e (fun ρ => W.bind (φ ρ) fun x => W.opt (asL x)) := by
  obtain ⟨t, pp, qa⟩ := h
  refine ⟨_, pi_list pp, fun H0 F σ Hs H n ρ P E R g r h q k => ?_⟩
  refine qa H0 F σ Hs H n ρ _ E _ g r h (fun x n1 v Hs1 H1 h1 e1 d1 => ?_) k
  obtain ⟨ds, hx, hp⟩ := h1
  have := asL_some hx
  subst this
  cases d1 with
  | lst h1 h2 =>
    rename_i a xs
    refine ⟨a, rfl, ⟨xs, SqL.of (e1.sub _ _ h1)⟩, q _ n1 _ Hs1 H1 hp e1 fun n2 Hs2 H2 g2 s2 => ⟨fun i hi => ?_, xs, SqL.of (g2.sub _ _ (s2 _ _ h1)), by rw [h2.len]; exact Nat.le_refl _⟩⟩
    have hl := h2.len
    have hix : i < xs.length := by omega
    refine ⟨⟨xs, xs[i], SqL.of (g2.sub _ _ (s2 _ _ h1)), List.getElem?_eq_getElem hix⟩, fun x H' hy => ?_⟩
    obtain ⟨rfl, hy⟩ := hy
    have hxi := hy xs (SqL.of (g2.sub _ _ (s2 _ _ h1)))
    obtain ⟨d, hdi, dd⟩ := h2.getV hxi
    exact ⟨Hs2, d, hdi, g2.refl, dd.mono s2⟩
theorem i_tup (h : XE tabs Wx X e φ) : XI tabs Wx X tg e (fun ρ => W.bind (φ ρ) fun x => W.opt (asT x)) := by
  obtain ⟨t, pp, qa⟩ := h
  refine ⟨_, pi_tup pp, fun H0 F σ Hs H n ρ P E R g r h q k => ?_⟩
  refine qa H0 F σ Hs H n ρ _ E _ g r h (fun x n1 v Hs1 H1 h1 e1 d1 => ?_) k
  obtain ⟨ds, hx, hp⟩ := h1
  have := asT_some hx
  subst this
  cases d1 with
  | tup h1 h2 =>
    rename_i a xs
    refine ⟨a, rfl, ⟨xs, SqT.of (e1.sub _ _ h1)⟩, q _ n1 _ Hs1 H1 hp e1 fun n2 Hs2 H2 g2 s2 => ⟨fun i hi => ?_, xs, SqT.of (g2.sub _ _ (s2 _ _ h1)), by rw [h2.len]; exact Nat.le_refl _⟩⟩
    have hl := h2.len
    have hix : i < xs.length := by omega
    refine ⟨⟨xs, xs[i], SqT.of (g2.sub _ _ (s2 _ _ h1)), List.getElem?_eq_getElem hix⟩, fun x H' hy => ?_⟩
    obtain ⟨rfl, hy⟩ := hy
    have hxi := hy xs (SqT.of (g2.sub _ _ (s2 _ _ h1)))
    obtain ⟨d, hdi, dd⟩ := h2.getV hxi
    exact ⟨Hs2, d, hdi, g2.refl, dd.mono s2⟩
/-- the ints from lo, n of them -/
def dRng (lo : Int) (n : Nat) : List Dt := (List.range n).map fun i => .int (lo + (i : Nat))
theorem itr_ok (lo : Int) (n : Nat) (Hs0 : Hp) : ItOk tabs (Itr lo n) Hs0 (dRng lo n) := fun m Hs H g s => by
  have hl : (dRng lo n).length = n := by simp [dRng]
  refine ⟨fun i hi => ?_, by rw [hl]; exact Nat.le_refl _⟩
  rw [hl] at hi
  refine ⟨hi, fun x H' hy => ?_⟩
  obtain ⟨rfl, rfl⟩ := hy
  exact ⟨Hs, .int (lo + (i : Nat)), by simp [dRng, hi], g.refl, .int _⟩
def kRng1 : List Dt → Option (List Dt)
  | [.int j] => if -(2 ^ 62) ≤ j ∧ j < 2 ^ 62 then some (dRng 0 j.toNat) else none
  | _ => none
def kRng2 : List Dt → Option (List Dt)
  | [.int i, .int j] => if -(2 ^ 62) ≤ i ∧ i < 2 ^ 62 ∧ -(2 ^ 62) ≤ j ∧ j < 2 ^ 62 then some (dRng i (j - i).toNat) else none
  | _ => none
theorem i_rng1 {it : Expr} {es : List Expr} (h : XA tabs Wx X es α) (mk : ∀ t, PA X es t → PI X tg it (iRng1 t)) : XI tabs Wx X tg it (fun ρ => W.bind (α ρ) fun xs => W.opt (kRng1 xs)) := by
  obtain ⟨t, pp, qa⟩ := h
  refine ⟨_, mk t pp, fun H0 F σ Hs H n ρ P E R g r h q k => ?_⟩
  refine qa H0 F σ Hs H n ρ _ E _ g r h (fun xs n1 vs Hs1 H1 h1 e1 d1 => ?_) k
  obtain ⟨ds, hd, hp⟩ := h1
  unfold kRng1 at hd
  split at hd
  · rename_i j
    split at hd
    · rename_i hj
      cases hd
      cases d1 with
      | cons h1 h2 =>
        cases h2
        cases h1
        exact ⟨j, rfl, hj.1, hj.2, q _ n1 _ Hs1 H1 hp e1 (itr_ok _ _ _)⟩
    · cases hd
  · cases hd
theorem i_rng2 {it : Expr} {es : List Expr} (h : XA tabs Wx X es α) (mk : ∀ t, PA X es t → PI X tg it (iRng2 t)) : XI tabs Wx X tg it (fun ρ => W.bind (α ρ) fun xs => W.opt (kRng2 xs)) := by
  obtain ⟨t, pp, qa⟩ := h
  refine ⟨_, mk t pp, fun H0 F σ Hs H n ρ P E R g r h q k => ?_⟩
  refine qa H0 F σ Hs H n ρ _ E _ g r h (fun xs n1 vs Hs1 H1 h1 e1 d1 => ?_) k
  obtain ⟨ds, hd, hp⟩ := h1
  unfold kRng2 at hd
  split at hd
  · rename_i i j
    split at hd
    · rename_i hj
      cases hd
      cases d1 with
      | cons h1 h2 =>
        cases h2 with
        | cons h3 h4 =>
          cases h4
          cases h1
          cases h3
          exact ⟨i, j, rfl, hj, q _ n1 _ Hs1 H1 hp e1 (itr_ok _ _ _)⟩
    · cases hd
  · cases hd
/-- places and things -/
def dEnum (ds : List Dt) : List Dt := ds.zipIdx.map fun p => .tuple [.int (p.2 : Nat), p.1]
def kEnum : List Dt → Option (List Dt)
  | [.list ds] => some (dEnum ds)
  | _ => none
theorem dEnum_get {ds : List Dt} {i : Nat} {d : Dt} (h : ds[i]? = some d) : (dEnum ds)[i]? = some (.tuple [.int (i : Nat), d]) := by
  unfold dEnum
  rw [List.getElem?_map, List.getElem?_zipIdx, h]
  simp
theorem i_enum {it : Expr} {es : List Expr} (h : XA tabs Wx X es α) (mk : ∀ t, PA X es t → PI X tg it (iEnum X.K t)) : XI tabs Wx X tg it (fun ρ => W.bind (α ρ) fun xs => W.opt (kEnum xs)) := by
  obtain ⟨t, pp, qa⟩ := h
  refine ⟨_, mk t pp, fun H0 F σ Hs H n ρ P E R g r h q k => ?_⟩
  refine qa H0 F σ Hs H n ρ _ E _ g r h (fun xs n1 vs Hs1 H1 h1 e1 d1 => ?_) k
  obtain ⟨ds, hd, hp⟩ := h1
  unfold kEnum at hd
  split at hd
  · rename_i ds0
    cases hd
    cases d1 with
    | cons h1 h2 =>
      cases h2
      cases h1 with
      | lst h1 h2 =>
        rename_i a xs
        have hl := h2.len
        have hle : (dEnum ds0).length = ds0.length := by simp [dEnum]
        refine ⟨a, xs, rfl, SqL.of (e1.sub _ _ h1), q _ n1 _ Hs1 H1 hp e1 fun n2 Hs2 H2 g2 s2 => ⟨fun i hi => ?_, xs, SqL.of (g2.sub _ _ (s2 _ _ h1)), by rw [hle, hl]; exact Nat.le_refl _⟩⟩
        have hix : i < xs.length := by omega
        refine ⟨⟨xs, xs[i], SqL.of (g2.sub _ _ (s2 _ _ h1)), List.getElem?_eq_getElem hix⟩, fun x H' hy => ?_⟩
        obtain ⟨T, y, rfl, nT, rfl, hy⟩ := hy
        have hxi := hy xs (SqL.of (g2.sub _ _ (s2 _ _ h1)))
        obtain ⟨d, hdi, dd⟩ := h2.getV hxi
        have e2 := Ext.new (o := .tup [.int (i : Nat), y]) g2 nT rfl rfl
        exact ⟨_, _, dEnum_get hdi, e2, .tup upd_same (.cons (.int _) (.cons ((dd.mono s2).mono e2.ss) .nil))⟩
  · cases hd
def dZip (xs ys : List Dt) : List Dt := (xs.zip ys).map fun p => .tuple [p.1, p.2]
def kZip : List Dt → Option (List Dt)
  | [.list xs, .list ys] => some (dZip xs ys)
  | _ => none
theorem i_zip {it : Expr} {es : List Expr} (h : XA tabs Wx X es α) (mk : ∀ t, PA X es t → PI X tg it (iZip X.K t)) : XI tabs Wx X tg it (fun ρ => W.bind (α ρ) fun xs => W.opt (kZip xs)) := by
  obtain ⟨t, pp, qa⟩ := h
  refine ⟨_, mk t pp, fun H0 F σ Hs H n ρ P E R g r h q k => ?_⟩
  refine qa H0 F σ Hs H n ρ _ E _ g r h (fun xs n1 vs Hs1 H1 h1 e1 d1 => ?_) k
  obtain ⟨ds, hd, hp⟩ := h1
  unfold kZip at hd
  split at hd
  · rename_i ds0 es0
    cases hd
    cases d1 with
    | cons h1 h2 =>
      cases h2 with
      | cons h3 h4 =>
        cases h4
        cases h1 with
        | lst h1 h2 =>
          cases h3 with
          | lst h3 h4 =>
            rename_i a xs b ys
            have hl := h2.len
            have hl2 := h4.len
            have hle : (dZip ds0 es0).length = min ds0.length es0.length := by simp [dZip]
            refine ⟨a, b, xs, ys, rfl, SqL.of (e1.sub _ _ h1), SqL.of (e1.sub _ _ h3), q _ n1 _ Hs1 H1 hp e1 fun n2 Hs2 H2 g2 s2 => ⟨fun i hi => ?_, xs, ys, SqL.of (g2.sub _ _ (s2 _ _ h1)), SqL.of (g2.sub _ _ (s2 _ _ h3)), by omega⟩⟩
            have hix : i < xs.length := by omega
            have hiy : i < ys.length := by omega
            refine ⟨⟨xs, ys, xs[i], ys[i], SqL.of (g2.sub _ _ (s2 _ _ h1)), SqL.of (g2.sub _ _ (s2 _ _ h3)), List.getElem?_eq_getElem hix, List.getElem?_eq_getElem hiy⟩, fun x H' hy => ?_⟩
            obtain ⟨T, y, z, rfl, nT, rfl, hy, hz⟩ := hy
            have hxi := hy xs (SqL.of (g2.sub _ _ (s2 _ _ h1)))
            have hyi := hz ys (SqL.of (g2.sub _ _ (s2 _ _ h3)))
            obtain ⟨d, hdi, dd⟩ := h2.getV hxi
            obtain ⟨f, hfi, df⟩ := h4.getV hyi
            have e2 := Ext.new (o := .tup [y, z]) g2 nT rfl rfl
            refine ⟨_, .tuple [d, f], ?_, e2, .tup upd_same (.cons ((dd.mono s2).mono e2.ss) (.cons ((df.mono s2).mono e2.ss) .nil))⟩
            unfold dZip
            rw [List.getElem?_map, List.zip, List.getElem?_zipWith, hdi, hfi]
            rfl
  · cases hd
def kRev : List Dt → Option (List Dt)
  | [.list ds] => some ds.reverse
  | _ => none
theorem i_rev {it : Expr} {es : List Expr} (h : XA tabs Wx X es α) (mk : ∀ t, PA X es t → PI X tg it (iRev X.K t)) : XI tabs Wx X tg it (fun ρ => W.bind (α ρ) fun xs => W.opt (kRev xs)) := by
  obtain ⟨t, pp, qa⟩ := h
  refine ⟨_, mk t pp, fun H0 F σ Hs H n ρ P E R g r h q k => ?_⟩
  refine qa H0 F σ Hs H n ρ _ E _ g r h (fun xs n1 vs Hs1 H1 h1 e1 d1 => ?_) k
  obtain ⟨ds, hd, hp⟩ := h1
  unfold kRev at hd
  split at hd
  · rename_i ds0
    cases hd
    cases d1 with
    | cons h1 h2 =>
      cases h2
      cases h1 with
      | lst h1 h2 =>
        rename_i a xs
        have hl := h2.len
        refine ⟨a, xs, rfl, SqL.of (e1.sub _ _ h1), q _ n1 _ Hs1 H1 hp e1 fun n2 Hs2 H2 g2 s2 => ⟨fun i hi => ?_, by show xs.length ≤ _; rw [List.length_reverse]; omega⟩⟩
        rw [List.length_reverse] at hi
        have hix : xs.length - 1 - i < xs.length := by omega
        refine ⟨⟨by omega, xs, xs[xs.length - 1 - i], SqL.of (g2.sub _ _ (s2 _ _ h1)), List.getElem?_eq_getElem hix⟩, fun x H' hy => ?_⟩
        obtain ⟨rfl, hy⟩ := hy
        have hxi := hy xs (SqL.of (g2.sub _ _ (s2 _ _ h1)))
        obtain ⟨d, hdi, dd⟩ := h2.getV hxi
        exact ⟨Hs2, d, by rw [List.getElem?_reverse hi, ← hl]; exact hdi, g2.refl, dd.mono s2⟩
  · cases hd
end
end QD

set_option Elab.async false
set_option linter.all false
set_option maxRecDepth 100000
set_option maxHeartbeats 4000000
/-! Qd: comprehensions, generator expressions. -/
namespace QD
open PySem PySem.Spec PyProof.Rows L2 GxR XG
variable {X : Cx} {tabs : Tb} {Wx : WX}
/-- no exception is taken -/
abbrev W0 : WX := fun _ _ _ _ => False
abbrev noE : Ex → Nat → Prop := fun _ _ => False
theorem KX.no0 {mg : Str → Option Value} {Wx : WX} {σ : L2.St} {n : Nat} {Hs H : Hp} : KX mg Wx σ n Hs H noE := fun _ _ _ _ _ _ h => h.elim

/-! ### slots forgotten -/
def wipeD (ρ : DE) : List Nat → DE
  | [] => ρ
  | v :: vs => (wipeD ρ vs).set v .no
theorem wipe_get (σ : L2.St) : ∀ (vs : List Nat) (j : Nat), (wipe σ vs)[j]? = if j ∈ vs then (σ[j]?).map fun _ => none else σ[j]?
  | [], j => by simp [wipe]
  | v :: vs, j => by
    unfold wipe
    by_cases e : v = j
    · subst e
      rw [List.getElem?_set_self', wipe_get σ vs v, if_pos List.mem_cons_self]
      by_cases h : v ∈ vs
      · rw [if_pos h]
        first | (cases σ[v]? <;> rfl) | (cases ρ[v]? <;> rfl)
      · rw [if_neg h]
        first | (cases σ[v]? <;> rfl) | (cases ρ[v]? <;> rfl)
    · rw [List.getElem?_set_ne e, wipe_get σ vs j]
      by_cases h : j ∈ vs
      · rw [if_pos h, if_pos (List.mem_cons_of_mem _ h)]
      · rw [if_neg h, if_neg fun z => (List.mem_cons.mp z).elim (fun q => e q.symm) h]
theorem wipeD_get (ρ : DE) : ∀ (vs : List Nat) (j : Nat), (wipeD ρ vs)[j]? = if j ∈ vs then (ρ[j]?).map fun _ => .no else ρ[j]?
  | [], j => by simp [wipeD]
  | v :: vs, j => by
    unfold wipeD
    by_cases e : v = j
    · subst e
      rw [List.getElem?_set_self', wipeD_get ρ vs v, if_pos List.mem_cons_self]
      by_cases h : v ∈ vs
      · rw [if_pos h]
        first | (cases σ[v]? <;> rfl) | (cases ρ[v]? <;> rfl)
      · rw [if_neg h]
        first | (cases σ[v]? <;> rfl) | (cases ρ[v]? <;> rfl)
    · rw [List.getElem?_set_ne e, wipeD_get ρ vs j]
      by_cases h : j ∈ vs
      · rw [if_pos h, if_pos (List.mem_cons_of_mem _ h)]
      · rw [if_neg h, if_neg fun z => (List.mem_cons.mp z).elim (fun q => e q.symm) h]
theorem wipeD_len (ρ : DE) : ∀ vs : List Nat, (wipeD ρ vs).length = ρ.length
  | [] => rfl
  | v :: vs => by unfold wipeD; rw [List.length_set, wipeD_len ρ vs]
/-- two wipings that agree elsewhere -/
theorem wipe_eq {σ σ' : L2.St} {vs : List Nat} (hl : σ'.length = σ.length) (h : ∀ j, j ∉ vs → σ'[j]? = σ[j]?) : wipe σ' vs = wipe σ vs := by
  refine List.ext_getElem? fun j => ?_
  rw [wipe_get, wipe_get]
  by_cases hj : j ∈ vs
  · rw [if_pos hj, if_pos hj]
    by_cases hl2 : j < σ.length
    · rw [List.getElem?_eq_getElem hl2, List.getElem?_eq_getElem (by rw [hl]; exact hl2)]
      rfl
    · rw [List.getElem?_eq_none (by omega), List.getElem?_eq_none (by omega)]
  · rw [if_neg hj, if_neg hj, h j hj]
theorem EnvR.wipe {H0 Hs H : Hp} {σ : L2.St} {ρ : DE} {F : Nat → List Addr} (r : EnvR H0 Hs H σ ρ F) (vs : List Nat) : EnvR H0 Hs H (L2.wipe σ vs) (wipeD ρ vs) F := by
  have ne : ∀ m s, (wipeD ρ vs)[m]? = some s → s = .no ∨ (m ∉ vs ∧ ρ[m]? = some s) := fun m s hm => by
    rw [wipeD_get] at hm
    by_cases hi : m ∈ vs
    · rw [if_pos hi] at hm
      cases hq : ρ[m]? with
      | none => rw [hq] at hm; cases hm
      | some s' => rw [hq] at hm; cases hm; exact .inl rfl
    · rw [if_neg hi] at hm
      exact .inr ⟨hi, hm⟩
  refine ⟨by rw [wipe_length, wipeD_len]; exact r.len, fun i x h => ?_, fun i x h => ?_, fun i j t u hij h1 h2 => ?_⟩
  · rcases ne i _ h with z | ⟨z, h⟩
    · cases z
    · rw [wipe_get, if_neg z]
      exact r.d i x h
  · rcases ne i _ h with z | ⟨z, h⟩
    · cases z
    · rw [wipe_get, if_neg z]
      exact r.ow i x h
  · rcases ne i _ h1 with z | ⟨_, h1⟩
    · cases z
    rcases ne j _ h2 with z | ⟨_, h2⟩
    · cases z
    exact r.sep i j t u hij h1 h2

/-! ### comprehensions -/
def wClause {β : Type} (γ : Dt → DE → Option DE) (θ : DE → W Bool) (φ : DE → W β) (ρ : DE) (d : Dt) : W (Option β) := W.bind (W.opt (γ d ρ)) fun ρ1 => W.bind (θ ρ1) fun b => W.ite b (W.map some (φ ρ1)) (W.ret none)
/-- by an invariant: what is left to walk, what came of the others, the draws left -/
def wMap (f : Dt → W (Option OT)) (ds : List Dt) (P : List OT → Nat → Prop) (n : Nat) : Prop := ∃ I : List Dt → List OT → Nat → Prop, I ds [] n ∧
  (∀ d r ts n, I (d :: r) ts n → f d (fun o n' => I r (ts ++ o.toList) n') noE n) ∧ ∀ ts n, I [] ts n → P ts n
def wLc (κ : DE → W (List Dt)) (vs : List Nat) (γ : Dt → DE → Option DE) (θ : DE → W Bool) (Φ : DE → W OT) (ρ : DE) : W OT :=
  W.bind (κ ρ) fun ds => fun P _ n => ds.length ≤ 100000 ∧ wMap (wClause γ θ Φ (wipeD ρ vs)) ds (fun ts n' => P (.ls ts) n') n
theorem OwA.snoc {Hs H : Hp} : ∀ {ts : List OT} {vs : List L2.V} {fp : List Addr} {v : L2.V} {t : OT} {fq : List Addr}, OwA Hs H vs ts fp → Ow Hs H v t fq → (∀ a ∈ fq, a ∉ fp) → ∃ fr, OwA Hs H (vs ++ [v]) (ts ++ [t]) fr ∧ ∀ a, a ∈ fr ↔ a ∈ fp ∨ a ∈ fq
  | [], _, _, _, _, fq, h, k, _ => by
    cases h
    exact ⟨_, .cons k .nil (fun _ _ z => by cases z), by simp⟩
  | _ :: _, _, _, _, _, fq, h, k, d => by
    cases h with
    | cons h1 h2 h3 =>
      obtain ⟨fr, q, m⟩ := OwA.snoc h2 k fun a ha z => d a ha (List.mem_append_right _ z)
      refine ⟨_, .cons h1 q fun a ha z => ?_, fun a => ?_⟩
      · rcases (m a).mp z with y | y
        · exact h3 a ha y
        · exact d a y (List.mem_append_left _ ha)
      · simp only [List.mem_append, m]
        constructor
        · rintro (z | z | z)
          · exact .inl (.inl z)
          · exact .inl (.inr z)
          · exact .inr z
        · rintro ((z | z) | z)
          · exact .inl z
          · exact .inr (.inl z)
          · exact .inr (.inr z)
theorem own_keep {n n' : Nat} {Hs H Hs' H' : Hp} {a : Addr} {xs : List L2.V} (e : Ext n n' Hs H Hs' H') (h : H a = some (.lst xs)) (hs : Hs a = none) : H' a = some (.lst xs) ∧ Hs' a = none := ⟨e.keep h hs rfl, e.fr a _ hs h⟩
theorem lc_read {mg : Str → Option Value} {is vs : List Nat} {κ : DE → W (List Dt)} {γ : Dt → DE → Option DE} {θ : DE → W Bool} {Φ : DE → W OT} (hiv : ∀ i ∈ is, i ∈ vs) : RdO tabs mg Wx [] (tLc (cI tabs mg Wx κ) (cG is γ) (cT tabs mg W0 θ) (cO tabs mg W0 [] Φ) vs) (wLc κ vs γ θ Φ) := fun H0 F σ Hs H n ρ P E Q g r hx q kx => by
  refine ⟨H0, F, Hs, n, ρ, _, E, g, r, hx, fun ds n1 J Hs1 H1 hds e1 it D nD => ?_, kx⟩
  obtain ⟨hlen, I, hI, step, fin⟩ := hds
  have s1D : Hs1 D = none := e1.sb.free nD
  refine ⟨fun i m H' => m = ds.length - i ∧ i ≤ ds.length ∧ ∃ n2 Hs' acc ts fp, Ext n1 n2 Hs1 H1 Hs' H' ∧ G0 tabs n2 Hs' H' ∧ H' D = some (.lst acc) ∧ Hs' D = none ∧ OwA Hs' H' acc ts fp ∧ D ∉ fp ∧ (∀ a ∈ fp, H1 a = none) ∧ ts.length ≤ i ∧
      I (ds.drop i) ts n2,
    ⟨ds.length, by simp, Nat.zero_le _, n1, Hs1, [], [], [], Ext.newO (g.ext e1) nD rfl, (g.ext e1).ext (Ext.newO (g.ext e1) nD rfl), upd_same, s1D, .nil, (fun z => by cases z), (fun _ z => by cases z), Nat.le_refl _, hI⟩, ?_⟩
  rintro i m H2 ⟨rfl, hi, n2, Hs2, acc, ts, fp, e2, g2, hD, sD, da, nfp, ffp, tl, hw⟩
  obtain ⟨turn, stop⟩ := it n2 Hs2 H2 g2 e2.ss
  by_cases hlt : i < ds.length
  · obtain ⟨go, yl⟩ := turn i hlt
    refine .inr ⟨go, fun H' => ∃ n2 Hs' acc ts fp, Ext n1 n2 Hs1 H1 Hs' H' ∧ G0 tabs n2 Hs' H' ∧ H' D = some (.lst acc) ∧ Hs' D = none ∧ OwA Hs' H' acc ts fp ∧ D ∉ fp ∧ (∀ a ∈ fp, H1 a = none) ∧ ts.length ≤ i + 1 ∧
      I (ds.drop (i + 1)) ts n2, fun H' h => ⟨ds.length - (i + 1), by omega, rfl, hlt, h⟩, fun y H3 hy => ?_⟩
    obtain ⟨Hs3, d, hdi, e3, dd⟩ := yl y H3 hy
    have hdr : ds.drop i = d :: ds.drop (i + 1) := by
      obtain ⟨hl, hv⟩ := List.getElem?_eq_some_iff.mp hdi
      rw [List.drop_eq_getElem_cons hl, hv]
    rw [hdr] at hw
    obtain ⟨ρ1, hg1, hw⟩ := step d _ ts n2 hw
    have e23 := e2.trans e3
    have g3 := g2.ext e3
    obtain ⟨hD3, sD3⟩ := own_keep e3 hD sD
    have r3 : EnvR H0 Hs3 H3 (L2.wipe σ vs) (wipeD ρ vs) F := (r.ext (e1.trans e23)).wipe vs
    refine ⟨H0, F, Hs3, wipeD ρ vs, d, ρ1, g3.sb.hold, r3, dd, hg1, fun σ' r4 hl4 keep => ⟨?_, ?_⟩⟩
    · rw [wipe_eq (σ := L2.wipe σ vs) hl4 fun j hj => keep j fun z => hj (hiv j z)]
      exact wipe_eq (wipe_length _ _) fun j hj => by rw [wipe_get, if_neg hj]
    · refine ⟨H0, F, Hs3, n2, ρ1, _, _, g3, r4, hw, fun b n4 Hs4 H4 hb e4 => ?_, KX.no0⟩
      obtain ⟨hD4, sD4⟩ := own_keep e4 hD3 sD3
      unfold W.ite at hb
      cases b with
      | true =>
        rw [if_pos rfl] at hb
        refine iteT ⟨H0, F, Hs4, n4, ρ1, _, _, g3.ext e4, r4.ext e4, hb, fun t n5 v Hs5 H5 fq ht e5 d5 f5 => ?_, KX.no0⟩
        obtain ⟨hD5, sD5⟩ := own_keep e5 hD4 sD4
        have e15 := (e23.trans e4).trans e5
        have g5 := (g3.ext e4).ext e5
        have fr5 : ∀ a ∈ fq, H4 a = none := fun a ha => (f5 a ha).elim id fun ⟨_, z, _⟩ => by cases z
        have da4 := (da.ext e3).ext e4
        obtain ⟨fr, q1, q2⟩ := OwA.snoc (da4.ext e5) d5 fun a ha z => by
          obtain ⟨_, o, ho, _⟩ := da4.own a z
          rw [fr5 a ha] at ho; cases ho
        have nD5 : D ∉ fr := fun z => by
          rcases (q2 D).mp z with y | y
          · exact nfp y
          · rw [fr5 D y] at hD4; cases hD4
        refine ⟨acc, hD5, Nat.lt_of_le_of_lt (by rw [da.len]; omega) (by decide : 100000 < 16777216), n5, Hs5, acc ++ [v], ts ++ [t], fr, e15.put nD sD5 rfl, g5.put hD5 rfl sD5 rfl, upd_same, sD5, q1.keep (Same.refl _) fun a ha => ⟨?_, (q1.own a ha).1⟩, nD5, fun a ha => ?_, by simp; omega, ?_⟩
        · exact upd_ne fun z => nD5 (z ▸ ha)
        · rcases (q2 a).mp ha with y | y
          · exact ffp a y
          · exact (e23.trans e4).free (fr5 a y)
        · exact ht
      | false =>
        rw [if_neg Bool.false_ne_true] at hb
        refine iteF ⟨n4, Hs4, acc, ts, fp, e23.trans e4, g3.ext e4, hD4, sD4, (da.ext e3).ext e4, nfp, ffp, by omega, ?_⟩
        have q : I (ds.drop (i + 1)) (ts ++ (none : Option OT).toList) n4 := hb
        simpa using q
  · have ei : i = ds.length := by omega
    subst ei
    rw [List.drop_length] at hw
    refine .inl ⟨stop, ?_⟩
    have hp : P (.ls ts) n2 := fin ts n2 hw
    exact q _ n2 _ Hs2 H2 (D :: fp) hp (e1.trans e2) (.ls hD sD da nfp) fun a ha => by
      rcases List.mem_cons.mp ha with rfl | z
      · exact .inl (e1.free nD)
      · exact .inl (e1.free (ffp a z))
section
variable {elt tg iter : Expr} {ifs : List Expr} {scope : Scope} {own : List (Str × Nat)} {pos : Pos} {is : List Nat} {κ : DE → W (List Dt)} {γ : Dt → DE → Option DE} {θ : DE → W Bool} {Φ : DE → W OT}
/-- [elt for tg in iter if ..] -/
theorem o_lc (hc : X.calm = true) (hN : X.N.Nodup) (hi : XI tabs Wx X tg iter κ) (ok : BlkOk X.N X.env.scope scope own) (hiv : ∀ i ∈ is, i ∈ own.map (·.2))
    (hg : ∀ (s : Shared) (H : Hp) (C : Addr) (cl : List (Str × Addr)) (fp : List Addr), XTg (X.blk s H scope (compEnvC scope cl C X.env) fp) tg is γ) (ht : ∀ (s : Shared) (H : Hp) (C : Addr) (cl : List (Str × Addr)) (fp : List Addr), XTs tabs W0 (X.blk s H scope (compEnvC scope cl C X.env) fp) ifs θ)
    (he : ∀ (s : Shared) (H : Hp) (C : Addr) (cl : List (Str × Addr)) (fp : List Addr), XO tabs W0 [] (X.blk s H scope (compEnvC scope cl C X.env) fp) elt Φ) (hs : ∀ x, foldedSetIterable iter X.env x = pure x := by intro _; rfl) :
    XO tabs Wx [] X (.ListComp elt [⟨tg, iter, ifs, 0⟩] scope pos) (wLc κ (own.map (·.2)) γ θ Φ) :=
  ⟨_, pe_lc hc hN hi.can ok (fun s H C cl fp => (hg s H C cl fp).can) (fun s H C cl fp => (ht s H C cl fp).can) (fun s H C cl fp => (he s H C cl fp).can) hs, lc_read hiv⟩
end
def vB : Dt → L2.V
  | .bool b => .bl b
  | _ => .bl false
def vI : Dt → L2.V
  | .int i => .int i
  | _ => .int 0
def isB : Dt → Bool
  | .bool _ => true
  | _ => false
def isI : Dt → Bool
  | .int _ => true
  | _ => false
def bV : Dt → Bool
  | .bool b => b
  | _ => false
def iV : Dt → Int
  | .int i => i
  | _ => 0
theorem vB_eq {Hs : Hp} {v : L2.V} {d : Dt} (h : isB d = true) (k : Dx Hs v d) : v = vB d := by
  cases d <;> simp [isB] at h
  cases k
  rfl
theorem vI_eq {Hs : Hp} {v : L2.V} {d : Dt} (h : isI d = true) (k : Dx Hs v d) : v = vI d := by
  cases d <;> simp [isI] at h
  cases k
  rfl
theorem all_mem {os : List (Option Dt)} {p : Dt → Bool} (h : (os.filterMap id).all p = true) {d : Dt} (hd : some d ∈ os) : p d = true := List.all_eq_true.mp h d (List.mem_filterMap.mpr ⟨some d, hd, rfl⟩)
theorem range_any (os : List (Option Dt)) : ((List.range os.length).any fun i => (os.getD i none).isSome && bOf (vB ((os.getD i none).getD .none))) = (os.filterMap id).any bV := by
  rw [Bool.eq_iff_iff, List.any_eq_true, List.any_eq_true]
  constructor
  · rintro ⟨i, hi, h⟩
    have hi := List.mem_range.mp hi
    rw [List.getD_eq_getElem?_getD, List.getElem?_eq_getElem hi] at h
    simp only [Option.getD_some, Bool.and_eq_true] at h
    obtain ⟨h1, h2⟩ := h
    obtain ⟨d, hd⟩ := Option.isSome_iff_exists.mp h1
    rw [hd] at h2
    refine ⟨d, List.mem_filterMap.mpr ⟨_, List.getElem_mem hi, by rw [hd]; rfl⟩, ?_⟩
    cases d <;> simp_all [vB, bOf, bV]
  · rintro ⟨d, hd, h⟩
    obtain ⟨o, ho, e⟩ := List.mem_filterMap.mp hd
    simp only [id] at e
    subst e
    obtain ⟨i, hi, e⟩ := List.getElem_of_mem ho
    refine ⟨i, List.mem_range.mpr hi, ?_⟩
    rw [List.getD_eq_getElem?_getD, List.getElem?_eq_getElem hi, e]
    cases d <;> simp_all [vB, bOf, bV]
theorem range_all (os : List (Option Dt)) (hb : (os.filterMap id).all isB = true) : ((List.range os.length).all fun i => !(os.getD i none).isSome || bOf (vB ((os.getD i none).getD .none))) = (os.filterMap id).all bV := by
  rw [Bool.eq_iff_iff, List.all_eq_true, List.all_eq_true]
  constructor
  · intro h d hd
    obtain ⟨o, ho, e⟩ := List.mem_filterMap.mp hd
    simp only [id] at e
    subst e
    obtain ⟨i, hi, e⟩ := List.getElem_of_mem ho
    have q := h i (List.mem_range.mpr hi)
    rw [List.getD_eq_getElem?_getD, List.getElem?_eq_getElem hi, e] at q
    cases d <;> simp_all [vB, bOf, bV]
  · intro h i hi
    have hi := List.mem_range.mp hi
    rw [List.getD_eq_getElem?_getD, List.getElem?_eq_getElem hi]
    cases hd : os[i] with
    | none => rfl
    | some d =>
      have q := h d (List.mem_filterMap.mpr ⟨_, List.getElem_mem hi, by rw [hd]; rfl⟩)
      cases d <;> simp_all [vB, bOf, bV]
theorem pass_sum (os : List (Option Dt)) (h : (os.filterMap id).all isI = true) : passSum os.length (fun i => (os.getD i none).isSome) (fun i => iOf (vI ((os.getD i none).getD .none))) = ((os.filterMap id).map iV).sum := by
  unfold passSum
  have e : ((List.range os.length).filter fun i => (os.getD i none).isSome).map (fun i => iOf (vI ((os.getD i none).getD .none))) = (os.filterMap id).map iV := by
    clear h
    induction os with
    | nil => rfl
    | cons o os ih =>
      rw [List.length_cons, List.range_succ_eq_map, List.filter_cons]
      have sh : ((List.map Nat.succ (List.range os.length)).filter fun i => ((o :: os).getD i none).isSome).map (fun i => iOf (vI (((o :: os).getD i none).getD .none))) = (os.filterMap id).map iV := by
        rw [List.filter_map, List.map_map, ← ih]
        rfl
      cases o with
      | none => simpa using sh
      | some d =>
        have e0 : iOf (vI d) = iV d := by cases d <;> rfl
        simp only [List.getD_cons_zero, Option.isSome_some, if_true, List.map_cons, Option.getD_some, List.filterMap_cons, id]
        rw [e0, sh]
  rw [e]

/-! ### any, all, sum of a generator expression -/
/-- each thing gives what is told of it (none: the tests refuse), without draws -/
def RunC (γ : Dt → DE → Option DE) (θ : DE → W Bool) (φ : DE → W Dt) (n : Nat) (ρ : DE) (d : Dt) (o : Option Dt) : Prop := ∃ ρ1, γ d ρ = some ρ1 ∧ θ ρ1 (fun b n' => b = o.isSome ∧ n' = n) noE n ∧ ∀ y, o = some y → φ ρ1 (fun y' n' => y' = y ∧ n' = n) noE n
def Runs (f : Dt → Option Dt → Prop) : List Dt → List (Option Dt) → Prop
  | [], [] => True
  | d :: ds, o :: os => f d o ∧ Runs f ds os
  | _, _ => False
theorem Runs.len {f : Dt → Option Dt → Prop} : ∀ {ds : List Dt} {os : List (Option Dt)}, Runs f ds os → os.length = ds.length
  | [], [], _ => rfl
  | _ :: _, _ :: _, h => by simp [Runs.len h.2]
  | [], _ :: _, h => h.elim
  | _ :: _, [], h => h.elim
theorem Runs.get {f : Dt → Option Dt → Prop} : ∀ {ds : List Dt} {os : List (Option Dt)} {i : Nat} {d : Dt}, Runs f ds os → ds[i]? = some d → ∃ o, os[i]? = some o ∧ f d o
  | [], _, _, _, _, e => by simp at e
  | _ :: _, [], _, _, h, _ => h.elim
  | d0 :: ds, o :: os, 0, d, h, e => by
    simp at e
    subst e
    exact ⟨o, rfl, h.1⟩
  | d0 :: ds, o :: os, i + 1, d, h, e => Runs.get (i := i) h.2 (by simpa using e)
/-- all things pass, each gives g's -/
theorem Runs.map {f : Dt → Option Dt → Prop} {g : Dt → Option Dt} : ∀ {ds : List Dt}, (∀ d ∈ ds, f d (g d)) → Runs f ds (ds.map g)
  | [], _ => trivial
  | d :: ds, h => ⟨h d List.mem_cons_self, Runs.map fun x hx => h x (List.mem_cons_of_mem _ hx)⟩
theorem gen_turns {mg : Str → Option Value} {is vs : List Nat} {γ : Dt → DE → Option DE} {θ : DE → W Bool} {φ : DE → W Dt} (hiv : ∀ i ∈ is, i ∈ vs) {n : Nat} {H0 : Hp} {σ : L2.St} {Hs1 H1 : Hp} {ρ : DE} {F : Nat → List Addr} (g : G0 tabs n Hs1 H1) (r : EnvR H0 Hs1 H1 σ ρ F)
    {J : It} {ds : List Dt} {os : List (Option Dt)} (it : ItOk tabs J Hs1 ds) (hos : Runs (RunC γ θ φ n (wipeD ρ vs)) ds os) {V : Dt → L2.V} (hF : ∀ Hs v d, some d ∈ os → Dx Hs v d → v = V d) :
    ∀ H2, TabEq H1 H2 → GenTurns ds.length (fun i => (os.getD i none).isSome) (fun i => V ((os.getD i none).getD .none)) J (cG is γ) (cT tabs mg W0 θ) (cE tabs mg W0 φ) (wipe σ vs) H2 := fun H2 te => by
  have e12 := Ext.tabs g te
  have g2 := g.ext e12
  obtain ⟨turn, stop⟩ := it n Hs1 H2 g2 (Same.refl _)
  refine ⟨fun i hi => ?_, stop⟩
  obtain ⟨go, yl⟩ := turn i hi
  refine ⟨go, fun x H3 hy => ?_⟩
  obtain ⟨Hs3, d, hdi, e3, dd⟩ := yl x H3 hy
  obtain ⟨o, hoi, hfo⟩ := hos.get hdi
  obtain ⟨ρ1, hg1, ht1, hy1⟩ := hfo
  have hgd : os.getD i none = o := by rw [List.getD_eq_getElem?_getD, hoi]; rfl
  have g3 := g2.ext e3
  have r3 : EnvR H0 Hs3 H3 (L2.wipe σ vs) (wipeD ρ vs) F := ((r.ext e12).ext e3).wipe vs
  refine ⟨e3.gr0, H0, F, Hs3, wipeD ρ vs, d, ρ1, g3.sb.hold, r3, dd, hg1, fun σ' r4 hl4 keep => ⟨fun j v hj => ?_, e3.gr0, ?_⟩⟩
  · by_cases hji : j ∈ is
    · rw [wipe_get, if_pos (hiv j hji)] at hj
      cases hq : σ[j]? with
      | none => rw [hq] at hj; cases hj
      | some s => rw [hq] at hj; cases hj
    · rw [keep j hji]; exact hj
  · refine ⟨H0, F, Hs3, n, ρ1, _, _, g3, r4, ht1, fun b n4 Hs4 H4 hb e4 => ?_, KX.no0⟩
    obtain ⟨hb, rfl⟩ := hb
    subst hb
    dsimp only
    refine ⟨by rw [hgd], fun _ => e3.gr0.trans e4.gr0, fun z => ?_⟩
    cases o with
    | none => cases z
    | some y =>
      refine ⟨H0, F, Hs4, n4, ρ1, _, _, g3.ext e4, r4.ext e4, hy1 y rfl, fun y' n5 v Hs5 H5 hy e5 d5 => ?_, KX.no0⟩
      obtain ⟨rfl, rfl⟩ := hy
      refine ⟨?_, (e3.gr0.trans e4.gr0).trans e5.gr0⟩
      rw [hgd]
      exact hF Hs5 v y' (List.mem_of_getElem? hoi) d5
def wGen (κ : DE → W (List Dt)) (vs : List Nat) (γ : Dt → DE → Option DE) (θ : DE → W Bool) (φ : DE → W Dt) (R : List Dt → List Dt → Option Dt) (ρ : DE) : W Dt :=
  W.bind (κ ρ) fun ds => fun P _ n => ∃ os, Runs (RunC γ θ φ n (wipeD ρ vs)) ds os ∧ ∃ x, R ds (os.filterMap id) = some x ∧ P x n
def rAnyG (_ : List Dt) (os : List Dt) : Option Dt := if os.all isB = true then some (.bool (os.any bV)) else none
def rAllG (_ : List Dt) (os : List Dt) : Option Dt := if os.all isB = true then some (.bool (os.all bV)) else none
def rSumG (ds : List Dt) (os : List Dt) : Option Dt := if os.all isI = true ∧ ds.length ≤ 100000 ∧ (∀ x ∈ os, (iV x).natAbs ≤ 2 ^ 40) then some (.int (os.map iV).sum) else none
section
variable {e elt tg iter : Expr} {ifs : List Expr} {scope : Scope} {own : List (Str × Nat)} {pos gpos p : Pos} {is : List Nat} {κ : DE → W (List Dt)} {γ : Dt → DE → Option DE} {θ : DE → W Bool} {φ : DE → W Dt} {c P : Addr} {k : Nat}
variable (hP : P ∈ tabs) (hi : XI tabs Wx X tg iter κ) (hiv : ∀ i ∈ is, i ∈ own.map (·.2))
  (hg : ∀ s4 H4 cl C code fp, XTg (gcx X s4 H4 (genEnv scope cl C code builtinsNs X.env) fp (gA X (genEnv scope cl C code builtinsNs X.env))) tg is γ)
  (ht : ∀ s4 H4 cl C code fp, XTs tabs W0 (gcx X s4 H4 (genEnv scope cl C code builtinsNs X.env) fp (gA X (genEnv scope cl C code builtinsNs X.env))) ifs θ)
  (hel : ∀ s4 H4 cl C code fp, Room k (gA X (genEnv scope cl C code builtinsNs X.env)) → XE tabs W0 (gcx X s4 H4 (genEnv scope cl C code builtinsNs X.env) fp (gA X (genEnv scope cl C code builtinsNs X.env))) elt φ)
include hP hi hiv hg ht hel
theorem x_anyG (mk : ∀ wi g tt te, PI X tg iter wi → (∀ s4 H4 cl C code fp, PG (gcx X s4 H4 (genEnv scope cl C code builtinsNs X.env) fp (gA X (genEnv scope cl C code builtinsNs X.env))) tg g) → (∀ s4 H4 cl C code fp, PTs (gcx X s4 H4 (genEnv scope cl C code builtinsNs X.env) fp (gA X (genEnv scope cl C code builtinsNs X.env))) ifs tt) →
      (∀ s4 H4 cl C code fp, Room k (gA X (genEnv scope cl C code builtinsNs X.env)) → PE (gcx X s4 H4 (genEnv scope cl C code builtinsNs X.env) fp (gA X (genEnv scope cl C code builtinsNs X.env))) elt te) → PE X e (tAnyG P wi g tt te (own.map (·.2)))) :
    XE tabs Wx X e (wGen κ (own.map (·.2)) γ θ φ rAnyG) := by
  refine ⟨_, mk (cI tabs X.mg Wx κ) (cG is γ) (cT tabs X.mg W0 θ) (cE tabs X.mg W0 φ) hi.can (fun s4 H4 cl C code fp => (hg s4 H4 cl C code fp).can) (fun s4 H4 cl C code fp => (ht s4 H4 cl C code fp).can) (fun s4 H4 cl C code fp hr => (hel s4 H4 cl C code fp hr).can), fun H0 F σ Hs H n ρ P' E Q g r hx q kx => ?_⟩
  refine ⟨H0, F, Hs, n, ρ, _, E, g, r, hx, fun ds n1 J Hs1 H1 hx e1 it => ?_, kx⟩
  obtain ⟨os, hos, x, hx, hp⟩ := hx
  unfold rAnyG at hx
  by_cases hb : (os.filterMap id).all isB = true
  case neg => rw [if_neg hb] at hx; cases hx
  rw [if_pos hb] at hx
  cases hx
  refine ⟨(g.ext e1).tab.1 P hP, e1.nt, ds.length, _, _, ?_, trivial, gen_turns hiv (g.ext e1) (r.ext e1) it hos (V := vB) (fun Hs v d hd k => vB_eq (all_mem hb hd) k), fun H2 te => ?_⟩
  · intro i
    generalize (os.getD i none).getD PyData.none = d
    cases d <;> exact ⟨_, rfl⟩
  · rw [← hos.len]
    dsimp only
    rw [range_any os]
    exact q _ n1 _ Hs1 H2 hp (e1.trans (Ext.tabs (g.ext e1) te)) (.bl _)
theorem x_allG (mk : ∀ wi g tt te, PI X tg iter wi → (∀ s4 H4 cl C code fp, PG (gcx X s4 H4 (genEnv scope cl C code builtinsNs X.env) fp (gA X (genEnv scope cl C code builtinsNs X.env))) tg g) → (∀ s4 H4 cl C code fp, PTs (gcx X s4 H4 (genEnv scope cl C code builtinsNs X.env) fp (gA X (genEnv scope cl C code builtinsNs X.env))) ifs tt) →
      (∀ s4 H4 cl C code fp, Room k (gA X (genEnv scope cl C code builtinsNs X.env)) → PE (gcx X s4 H4 (genEnv scope cl C code builtinsNs X.env) fp (gA X (genEnv scope cl C code builtinsNs X.env))) elt te) → PE X e (tAllG P wi g tt te (own.map (·.2)))) :
    XE tabs Wx X e (wGen κ (own.map (·.2)) γ θ φ rAllG) := by
  refine ⟨_, mk (cI tabs X.mg Wx κ) (cG is γ) (cT tabs X.mg W0 θ) (cE tabs X.mg W0 φ) hi.can (fun s4 H4 cl C code fp => (hg s4 H4 cl C code fp).can) (fun s4 H4 cl C code fp => (ht s4 H4 cl C code fp).can) (fun s4 H4 cl C code fp hr => (hel s4 H4 cl C code fp hr).can), fun H0 F σ Hs H n ρ P' E Q g r hx q kx => ?_⟩
  refine ⟨H0, F, Hs, n, ρ, _, E, g, r, hx, fun ds n1 J Hs1 H1 hx e1 it => ?_, kx⟩
  obtain ⟨os, hos, x, hx, hp⟩ := hx
  unfold rAllG at hx
  by_cases hb : (os.filterMap id).all isB = true
  case neg => rw [if_neg hb] at hx; cases hx
  rw [if_pos hb] at hx
  cases hx
  refine ⟨(g.ext e1).tab.1 P hP, e1.nt, ds.length, _, _, ?_, trivial, gen_turns hiv (g.ext e1) (r.ext e1) it hos (V := vB) (fun Hs v d hd k => vB_eq (all_mem hb hd) k), fun H2 te => ?_⟩
  · intro i
    generalize (os.getD i none).getD PyData.none = d
    cases d <;> exact ⟨_, rfl⟩
  · rw [← hos.len]
    dsimp only
    rw [range_all os hb]
    exact q _ n1 _ Hs1 H2 hp (e1.trans (Ext.tabs (g.ext e1) te)) (.bl _)
theorem x_sumG (mk : ∀ wi g tt te, PI X tg iter wi → (∀ s4 H4 cl C code fp, PG (gcx X s4 H4 (genEnv scope cl C code builtinsNs X.env) fp (gA X (genEnv scope cl C code builtinsNs X.env))) tg g) → (∀ s4 H4 cl C code fp, PTs (gcx X s4 H4 (genEnv scope cl C code builtinsNs X.env) fp (gA X (genEnv scope cl C code builtinsNs X.env))) ifs tt) →
      (∀ s4 H4 cl C code fp, Room k (gA X (genEnv scope cl C code builtinsNs X.env)) → PE (gcx X s4 H4 (genEnv scope cl C code builtinsNs X.env) fp (gA X (genEnv scope cl C code builtinsNs X.env))) elt te) → PE X e (tSumG P wi g tt te (own.map (·.2)))) :
    XE tabs Wx X e (wGen κ (own.map (·.2)) γ θ φ rSumG) := by
  refine ⟨_, mk (cI tabs X.mg Wx κ) (cG is γ) (cT tabs X.mg W0 θ) (cE tabs X.mg W0 φ) hi.can (fun s4 H4 cl C code fp => (hg s4 H4 cl C code fp).can) (fun s4 H4 cl C code fp => (ht s4 H4 cl C code fp).can) (fun s4 H4 cl C code fp hr => (hel s4 H4 cl C code fp hr).can), fun H0 F σ Hs H n ρ P' E Q g r hx q kx => ?_⟩
  refine ⟨H0, F, Hs, n, ρ, _, E, g, r, hx, fun ds n1 J Hs1 H1 hx e1 it => ?_, kx⟩
  obtain ⟨os, hos, x, hx, hp⟩ := hx
  unfold rSumG at hx
  by_cases hb : (os.filterMap id).all isI = true ∧ ds.length ≤ 100000 ∧ (∀ x ∈ os.filterMap id, (iV x).natAbs ≤ 2 ^ 40)
  case neg => rw [if_neg hb] at hx; cases hx
  rw [if_pos hb] at hx
  cases hx
  obtain ⟨hb, hl, hsm⟩ := hb
  refine ⟨(g.ext e1).tab.1 P hP, e1.nt, ds.length, _, _, ?_, ⟨hl, fun i => ?_⟩, gen_turns hiv (g.ext e1) (r.ext e1) it hos (V := vI) (fun Hs v d hd k => vI_eq (all_mem hb hd) k), fun H2 te => ?_⟩
  · intro i
    generalize (os.getD i none).getD PyData.none = d
    cases d <;> exact ⟨_, rfl⟩
  · cases hq : os.getD i none with
    | none => exact Nat.zero_le _
    | some d =>
      have hm : some d ∈ os := by
        rw [List.getD_eq_getElem?_getD] at hq
        cases hz : os[i]? with
        | none => rw [hz] at hq; cases hq
        | some o =>
          rw [hz] at hq
          cases hq
          exact List.mem_of_getElem? hz
      have := hsm d (List.mem_filterMap.mpr ⟨_, hm, rfl⟩)
      cases d <;> simp_all [vI, iOf, iV]
  · rw [← hos.len]
    dsimp only
    rw [pass_sum os hb]
    exact q _ n1 _ Hs1 H2 hp (e1.trans (Ext.tabs (g.ext e1) te)) (.int _)
end
end QD

set_option Elab.async false
set_option linter.all false
set_option maxRecDepth 100000
set_option maxHeartbeats 4000000
/-! Qe: statements, loops, defs, calls, by wishes. -/
namespace QD
open PySem PySem.Spec PyProof.Rows L2 GxR XG
variable {X : Cx} {tabs : Tb} {Wx : WX}

inductive Out where
  | nx (ρ : DE)
  | rt (t : OT) (ρ : DE)
  | bk (ρ : DE)
  | ct (ρ : DE)
  | xc (e : Ex) (ρ : DE)
/-- a statement's wish: of what comes out and the draws left, at the draws left -/
abbrev WS := (Out → Nat → Prop) → Nat → Prop
/-- what is wanted behind a statement; Hb: the shared data ahead of it -/
def Fin (tabs : Tb) (mg : Str → Option Value) (Wx : WX) (Hs0 H0 : Hp) (n0 : Nat) (Hb : Hp) (n' : Nat) (o : Out) (D : Ends) : Prop := match o with
  | .nx ρ => ∀ σ Hs H F, Ext n0 n' Hs0 H0 Hs H → G0 tabs n' Hs H → Same Hb Hs → EnvR H0 Hs H σ ρ F → D.nx σ H
  | .rt t ρ => ∀ v σ Hs H fp F, Ext n0 n' Hs0 H0 Hs H → Ow Hs H v t fp → (∀ a ∈ fp, H0 a = none) → EnvR H0 Hs H σ ρ F → (∀ j u, ρ[j]? = some (.ow u) → ∀ a ∈ fp, a ∉ F j) → D.rt v H
  | .bk ρ => ∀ σ Hs H F, Ext n0 n' Hs0 H0 Hs H → G0 tabs n' Hs H → Same Hb Hs → EnvR H0 Hs H σ ρ F → D.bk σ H
  | .ct ρ => ∀ σ Hs H F, Ext n0 n' Hs0 H0 Hs H → G0 tabs n' Hs H → Same Hb Hs → EnvR H0 Hs H σ ρ F → D.ct σ H
  | .xc e ρ => ∀ σ Hs H F cls d, Ext n0 n' Hs0 H0 Hs H → G0 tabs n' Hs H → Same Hb Hs → EnvR H0 Hs H σ ρ F → DxE mg Hs cls d e → Wx cls d σ H
theorem Fin.later {mg : Str → Option Value} {Hs0 H0 Hb Hb' : Hp} {n0 n' : Nat} {o : Out} {D : Ends} (f : Fin tabs mg Wx Hs0 H0 n0 Hb n' o D) (e : Same Hb Hb') : Fin tabs mg Wx Hs0 H0 n0 Hb' n' o D := by
  cases o with
  | nx ρ => exact fun σ Hs H F a b c d => f σ Hs H F a b (e.trans c) d
  | rt d ρ => exact f
  | bk ρ => exact fun σ Hs H F a b c d => f σ Hs H F a b (e.trans c) d
  | ct ρ => exact fun σ Hs H F a b c d => f σ Hs H F a b (e.trans c) d
  | xc x ρ => exact fun σ Hs H F cls u a b c d => f σ Hs H F cls u a b (e.trans c) d
def RS (tabs : Tb) (mg : Str → Option Value) (Wx : WX) (t : TS) (Δ : DE → WS) : Prop := ∀ Hs0 H0 n0 F σ Hs H n ρ P D, Ext n0 n Hs0 H0 Hs H → G0 tabs n Hs H → EnvR H0 Hs H σ ρ F → Δ ρ P n → (∀ o n', P o n' → Fin tabs mg Wx Hs0 H0 n0 Hs n' o D) → t D σ H
def XS (tabs : Tb) (Wx : WX) (X : Cx) (st : Stmt) (Δ : DE → WS) : Prop := ∃ t, PS X st t ∧ RS tabs X.mg Wx t Δ
def XSs (tabs : Tb) (Wx : WX) (X : Cx) (st : List Stmt) (Δ : DE → WS) : Prop := ∃ t, PSs X st t ∧ RS tabs X.mg Wx t Δ
/-- exceptions of an expression within a statement -/
theorem kx_of {mg : Str → Option Value} {Hs0 H0 : Hp} {n0 n : Nat} {F : Nat → List Addr} {σ : L2.St} {Hs H : Hp} {ρ : DE} {P : Out → Nat → Prop} {D : Ends} (e0 : Ext n0 n Hs0 H0 Hs H) (g : G0 tabs n Hs H) (r : EnvR H0 Hs H σ ρ F) (f : ∀ o n', P o n' → Fin tabs mg Wx Hs0 H0 n0 Hs n' o D) :
    KX mg Wx σ n Hs H (fun e n' => P (.xc e ρ) n') := fun e n' cls d Hs' H' h e' dx => f _ n' h σ Hs' H' F cls d (e0.trans e') (g.ext e') e'.ss (r.ext e') dx
/-- an expression within a statement: what of its value, its exceptions go on -/
def wE {α : Type} (m : W α) (ρ : DE) (k : α → WS) : WS := fun P n => m (fun a n' => k a P n') (fun e n' => P (.xc e ρ) n') n
section
variable {st : Stmt} {sts sts' : List Stmt} {Δ Δ' : DE → WS} {e : Expr} {φ : DE → W Dt} {Φ : DE → W OT} {θ : DE → W Bool} {i : Nat} {M : List Nat}
def wNext (ρ : DE) : WS := fun P n => P (.nx ρ) n
def wThen (Δ Δ' : DE → WS) (ρ : DE) : WS := fun P n => Δ ρ (fun o n' => match o with
  | .nx ρ' => Δ' ρ' P n'
  | o => P o n') n
theorem ss_nil : XSs tabs Wx X [] wNext := ⟨_, pss_nil, fun Hs0 H0 n0 F σ Hs H n ρ P D e g r h f => f _ n h σ Hs H F e g (Same.refl _) r⟩
theorem ss_cons (h1 : XS tabs Wx X st Δ) (h2 : XSs tabs Wx X sts Δ') : XSs tabs Wx X (st :: sts) (wThen Δ Δ') := by
  obtain ⟨t, p, q⟩ := h1
  obtain ⟨u, p2, q2⟩ := h2
  refine ⟨_, pss_cons p p2, fun Hs0 H0 n0 F σ Hs H n ρ P D e g r h f => ?_⟩
  refine q Hs0 H0 n0 F σ Hs H n ρ _ { D with nx := u D } e g r h fun o n' ho => ?_
  cases o with
  | nx ρ' => exact fun σ' Hs' H' F' e' g' s' r' => q2 Hs0 H0 n0 F' σ' Hs' H' n' ρ' P D e' g' r' ho fun o2 n2 h2 => (f o2 n2 h2).later s'
  | rt d ρ => exact f _ _ ho
  | bk ρ => exact f _ _ ho
  | ct ρ => exact f _ _ ho
  | xc x ρ => exact f _ _ ho
theorem ss_one (h1 : XS tabs Wx X st Δ) : XSs tabs Wx X [st] Δ := by
  obtain ⟨t, p, q⟩ := h1
  exact ⟨_, pss_one p, q⟩
/-- x = e -/
def wSet (i : Nat) (φ : DE → W Dt) (ρ : DE) : WS := wE (φ ρ) ρ fun d => wNext (ρ.set i (.d d))
theorem rs_set {mg : Str → Option Value} {te : TE} (q : RdE tabs mg Wx te φ) : RS tabs mg Wx (tAsg te (gName i)) (wSet i φ) := fun Hs0 H0 n0 F σ Hs H n ρ P D e g r h f =>
  q H0 F σ Hs H n ρ _ _ _ g r h (fun d n' v Hs' H' hd e' dd => f _ n' hd _ Hs' H' F (e.trans e') (g.ext e') e'.ss ((r.ext e').setD dd)) (kx_of e g r f)
theorem s_set (h : XE tabs Wx X e φ) (mk : ∀ te, PE X e te → PS X st (tAsg te (gName i))) : XS tabs Wx X st (wSet i φ) := by
  obtain ⟨t, p, q⟩ := h
  exact ⟨_, mk t p, rs_set q⟩
/-- a tree in a slot -/
def slO : OT → Sl
  | .sh d => .d d
  | t => .ow t
theorem wipe_weak {H0 Hs H : Hp} {σ : L2.St} {ρ : DE} {F : Nat → List Addr} (r : EnvR H0 Hs H σ ρ F) (M : List Nat) : EnvR H0 Hs H σ (wipeD ρ M) F := r.weak (wipeD_len _ _) fun j s hj => by
  rw [wipeD_get] at hj
  by_cases hm : j ∈ M
  · rw [if_pos hm] at hj
    cases hq : ρ[j]? with
    | none => rw [hq] at hj; cases hj
    | some s' => rw [hq] at hj; cases hj; exact .inl rfl
  · rw [if_neg hm] at hj
    exact .inr hj
theorem wipe_ow {ρ : DE} {M : List Nat} {j : Nat} {u : OT} (h : (wipeD ρ M)[j]? = some (.ow u)) : j ∉ M ∧ ρ[j]? = some (.ow u) := by
  rw [wipeD_get] at h
  by_cases hm : j ∈ M
  · rw [if_pos hm] at h
    cases hq : ρ[j]? with
    | none => rw [hq] at h; cases h
    | some s' => rw [hq] at h; cases h
  · rw [if_neg hm] at h
    exact ⟨hm, h⟩
/-- what an owned result's things keep apart from -/
theorem fp_apart {H0 Hs H : Hp} {σ : L2.St} {ρ : DE} {F : Nat → List Addr} (r : EnvR H0 Hs H σ ρ F) {fp : List Addr} (f : FpOk H F ρ M fp) {j : Nat} {u : OT} (hj : (wipeD ρ M)[j]? = some (.ow u)) : ∀ a ∈ fp, a ∉ F j := fun a ha hb => by
  obtain ⟨nm, hj⟩ := wipe_ow hj
  rcases f a ha with z | ⟨k, hk, ⟨t, ht⟩, hak⟩
  · obtain ⟨⟨w, _, ow⟩, _⟩ := r.ow j u hj
    obtain ⟨_, o, ho, _⟩ := ow.own a hb
    rw [z] at ho; cases ho
  · exact r.sep k j t u (fun z => nm (z ▸ hk)) ht hj a hak hb
theorem fp_new {Hs0 H0 Hs H : Hp} {n0 n : Nat} {σ : L2.St} {ρ : DE} {F : Nat → List Addr} (e : Ext n0 n Hs0 H0 Hs H) (r : EnvR H0 Hs H σ ρ F) {fp : List Addr} (f : FpOk H F ρ M fp) : ∀ a ∈ fp, H0 a = none := fun a ha => by
  rcases f a ha with z | ⟨k, hk, ⟨t, ht⟩, hak⟩
  · exact e.free z
  · exact (r.ow k t ht).2 a hak
theorem EnvR.setT {H0 Hs H : Hp} {σ : L2.St} {ρ : DE} {F : Nat → List Addr} {v : L2.V} {t : OT} {fp : List Addr} (r : EnvR H0 Hs H σ ρ F) (h : Ow Hs H v t fp) (h0 : ∀ a ∈ fp, H0 a = none)
    (hs : ∀ (j : Nat) u, j ≠ i → ρ[j]? = some (.ow u) → ∀ a ∈ fp, a ∉ F j) : ∃ F', EnvR H0 Hs H (σ.set i (some v)) (ρ.set i (slO t)) F' ∧ (∀ j, j ≠ i → F' j = F j) ∧ ∀ u, slO t = .ow u → F' i = fp := by
  cases t with
  | sh d =>
    cases h with
    | sh h => exact ⟨F, r.setD h, fun _ _ => rfl, fun _ z => by cases z⟩
  | ls ts => exact ⟨_, r.setO h h0 hs, fun j hj => updF_ne (Ne.symm hj), fun _ _ => updF_same⟩
  | tp ts => exact ⟨_, r.setO h h0 hs, fun j hj => updF_ne (Ne.symm hj), fun _ _ => updF_same⟩
  | rt a t => exact ⟨_, r.setO h h0 hs, fun j hj => updF_ne (Ne.symm hj), fun _ _ => updF_same⟩
/-- x = e, e a new tree -/
def wSetO (i : Nat) (M : List Nat) (Φ : DE → W OT) (ρ : DE) : WS := wE (Φ ρ) ρ fun t => wNext ((wipeD ρ M).set i (slO t))
theorem rs_setO {mg : Str → Option Value} {te : TE} (q : RdO tabs mg Wx M te Φ) : RS tabs mg Wx (tAsg te (gName i)) (wSetO i M Φ) := fun Hs0 H0 n0 F σ Hs H n ρ P D e g r h f =>
  q H0 F σ Hs H n ρ _ _ _ g r h (fun t n' v Hs' H' fp hd e' dd fo => by
    obtain ⟨F', r', _⟩ := EnvR.setT (i := i) (wipe_weak (r.ext e') M) dd (fp_new e r fo) fun j u _ hj => fp_apart r fo hj
    exact f _ n' hd _ Hs' H' F' (e.trans e') (g.ext e') e'.ss r') (kx_of e g r f)
theorem s_setO (h : XO tabs Wx M X e Φ) (mk : ∀ te, PE X e te → PS X st (tAsg te (gName i))) : XS tabs Wx X st (wSetO i M Φ) := by
  obtain ⟨t, p, q⟩ := h
  exact ⟨_, mk t p, rs_setO q⟩
theorem s_setOR {te : TE} (p : PS X st (tAsg te (gName i))) (q : RdO tabs X.mg Wx M te Φ) : XS tabs Wx X st (wSetO i M Φ) := ⟨_, p, rs_setO q⟩
/-- a, b = e -/
def wTgt (φ : DE → W Dt) (γ : Dt → DE → Option DE) (ρ : DE) : WS := wE (φ ρ) ρ fun d P n => ∃ ρ', γ d ρ = some ρ' ∧ P (.nx ρ') n
theorem s_tgt {tg : Expr} {is : List Nat} {γ : Dt → DE → Option DE} (h : XE tabs Wx X e φ) (hg : XTg X tg is γ) (mk : ∀ te g, PE X e te → PG X tg g → PS X st (tAsg te g)) : XS tabs Wx X st (wTgt φ γ) := by
  obtain ⟨t, p, q⟩ := h
  obtain ⟨g, pg, qg⟩ := hg
  refine ⟨_, mk t g p pg, fun Hs0 H0 n0 F σ Hs H n ρ P D e g0 r h f => ?_⟩
  refine q H0 F σ Hs H n ρ _ _ _ g0 r h (fun d n' v Hs' H' hd e' dd => ?_) (kx_of e g0 r f)
  obtain ⟨ρ', hρ, hp⟩ := hd
  exact qg H0 F σ Hs' H' ρ v d ρ' _ (g0.ext e').sb.hold (r.ext e') dd hρ fun σ' r' _ _ => f _ n' hp σ' Hs' H' F (e.trans e') (g0.ext e') e'.ss r'
/-- a, b = e, e a new tuple: its things are moved -/
def wPairO (i j : Nat) (M : List Nat) (Φ : DE → W OT) (ρ : DE) : WS := wE (Φ ρ) ρ fun t P n => ∃ a b, t = .tp [a, b] ∧ P (.nx (((wipeD ρ M).set i (slO a)).set j (slO b))) n
theorem s_pairO {tg : Expr} {j : Nat} (h : XO tabs Wx M X e Φ) (hij : i ≠ j) (hg : PG X tg (gTup X.K 2 (gCons (gName i) (gCons (gName j) gNil)))) (mk : ∀ te g, PE X e te → PG X tg g → PS X st (tAsg te g)) : XS tabs Wx X st (wPairO i j M Φ) := by
  obtain ⟨t, p, q⟩ := h
  refine ⟨_, mk t _ p hg, fun Hs0 H0 n0 F σ Hs H n ρ P D e g r h f => ?_⟩
  refine q H0 F σ Hs H n ρ _ _ _ g r h (fun t n' v Hs' H' fp hd e' dd fo => ?_) (kx_of e g r f)
  obtain ⟨a, b, rfl, hp⟩ := hd
  have h0 := fp_new e r fo
  have hap := fun {j : Nat} {u : OT} (hj : (wipeD ρ M)[j]? = some (.ow u)) => fp_apart r fo hj
  cases dd with
  | tp h1 h2 h3 h4 =>
    cases h3 with
    | cons ha h5 d1 =>
      cases h5 with
      | cons hb h6 d2 =>
        cases h6
        obtain ⟨F1, r1, k1, k1'⟩ := EnvR.setT (i := i) (wipe_weak (r.ext e') M) ha (fun x hx => h0 x (by simp [hx])) fun j u _ hj x hx => hap hj x (by simp [hx])
        obtain ⟨F2, r2, _⟩ := EnvR.setT (i := j) r1 hb (fun x hx => h0 x (by simp [hx])) fun k u hk hj x hx => by
          rcases set_get hj with ⟨rfl, _, z⟩ | ⟨ne, hj⟩
          · rw [k1' u z.symm]
            exact fun y => d1 x y (by simp [hx])
          · rw [k1 k (Ne.symm ne)]
            exact hap hj x (by simp [hx])
        exact ⟨_, _, rfl, SqT.of h1, rfl, _, _, rfl, _, _, rfl, rfl, f _ n' hp _ Hs' H' F2 (e.trans e') (g.ext e') e'.ss r2⟩
/-- a, b, c = e, e a new tuple -/
def wTripO (i j k : Nat) (M : List Nat) (Φ : DE → W OT) (ρ : DE) : WS := wE (Φ ρ) ρ fun t P n => ∃ a b c, t = .tp [a, b, c] ∧ P (.nx ((((wipeD ρ M).set i (slO a)).set j (slO b)).set k (slO c))) n
theorem s_tripO {tg : Expr} {j l : Nat} (h : XO tabs Wx M X e Φ) (hg : PG X tg (gTup X.K 3 (gCons (gName i) (gCons (gName j) (gCons (gName l) gNil))))) (mk : ∀ te g, PE X e te → PG X tg g → PS X st (tAsg te g)) : XS tabs Wx X st (wTripO i j l M Φ) := by
  obtain ⟨t, p, q⟩ := h
  refine ⟨_, mk t _ p hg, fun Hs0 H0 n0 F σ Hs H n ρ P D e g r h f => ?_⟩
  refine q H0 F σ Hs H n ρ _ _ _ g r h (fun t n' v Hs' H' fp hd e' dd fo => ?_) (kx_of e g r f)
  obtain ⟨a, b, c, rfl, hp⟩ := hd
  have h0 := fp_new e r fo
  have hap := fun {j : Nat} {u : OT} (hj : (wipeD ρ M)[j]? = some (.ow u)) => fp_apart r fo hj
  cases dd with
  | tp h1 h2 h3 h4 =>
    cases h3 with
    | cons ha h5 d1 =>
      cases h5 with
      | cons hb h6 d2 =>
        cases h6 with
        | cons hc h7 d3 =>
          cases h7
          obtain ⟨F1, r1, k1, k1'⟩ := EnvR.setT (i := i) (wipe_weak (r.ext e') M) ha (fun x hx => h0 x (by simp [hx])) fun j u _ hj x hx => hap hj x (by simp [hx])
          obtain ⟨F2, r2, k2, k2'⟩ := EnvR.setT (i := j) r1 hb (fun x hx => h0 x (by simp [hx])) fun k u hk hj x hx => by
            rcases set_get hj with ⟨rfl, _, z⟩ | ⟨ne, hj⟩
            · rw [k1' u z.symm]
              exact fun y => d1 x y (by simp [hx])
            · rw [k1 k (Ne.symm ne)]
              exact hap hj x (by simp [hx])
          obtain ⟨F3, r3, _⟩ := EnvR.setT (i := l) r2 hc (fun x hx => h0 x (by simp [hx])) fun k u hk hj x hx => by
            rcases set_get hj with ⟨rfl, _, z⟩ | ⟨ne, hj⟩
            · rw [k2' u z.symm]
              exact fun y => d2 x y (by simp [hx])
            · rw [k2 k (Ne.symm ne)]
              rcases set_get hj with ⟨rfl, _, z⟩ | ⟨ne2, hj⟩
              · rw [k1' u z.symm]
                exact fun y => d1 x y (by simp [hx])
              · rw [k1 k (Ne.symm ne2)]
                exact hap hj x (by simp [hx])
          exact ⟨_, _, rfl, SqT.of h1, rfl, _, _, rfl, _, _, rfl, _, _, rfl, rfl, f _ n' hp _ Hs' H' F3 (e.trans e') (g.ext e') e'.ss r3⟩
/-- a slot's tree becomes shared ahead of the statement -/
theorem s_frz (i : Nat) (h : XS tabs Wx X st Δ) : XS tabs Wx X st (fun ρ => Δ (viewD ρ i)) := by
  obtain ⟨t, p, q⟩ := h
  refine ⟨t, p, fun Hs0 H0 n0 F σ Hs H n ρ P D e g r h f => ?_⟩
  obtain ⟨Hs', e', s', r', m'⟩ := r.frz (i := i) e fun t ht a ha => (r.ow i t ht).2 a ha
  exact q Hs0 H0 n0 F σ Hs' H n _ P D e' ⟨e'.sb, g.nt, g.tab, e'.nb⟩ r' h fun o n' ho => (f o n' ho).later s'
/-- an expression whose value is dropped -/
def wDrop (φ : DE → W Dt) (ρ : DE) : WS := wE (φ ρ) ρ fun _ => wNext ρ
theorem s_drop (h : XE tabs Wx X e φ) (mk : ∀ te, PE X e te → PS X st (tDrop te)) : XS tabs Wx X st (wDrop φ) := by
  obtain ⟨t, p, q⟩ := h
  exact ⟨_, mk t p, fun Hs0 H0 n0 F σ Hs H n ρ P D e g r h f => q H0 F σ Hs H n ρ _ _ _ g r h (fun d n' v Hs' H' hd e' dd => f _ n' hd σ Hs' H' F (e.trans e') (g.ext e') e'.ss (r.ext e')) (kx_of e g r f)⟩
def wRet (M : List Nat) (Φ : DE → W OT) (ρ : DE) : WS := wE (Φ ρ) ρ fun t P n => P (.rt t (wipeD ρ M)) n
theorem s_ret {pos : Pos} (h : XO tabs Wx M X e Φ) : XS tabs Wx X (.Return (some e) pos) (wRet M Φ) := by
  obtain ⟨t, p, q⟩ := h
  exact ⟨_, ps_ret p, fun Hs0 H0 n0 F σ Hs H n ρ P D e g r h f => q H0 F σ Hs H n ρ _ _ _ g r h (fun t n' v Hs' H' fp hd e' dd fo => f _ n' hd v σ Hs' H' fp F (e.trans e') dd (fp_new e r fo) (wipe_weak (r.ext e') M) fun j u hj => fp_apart r fo hj) (kx_of e g r f)⟩
def wRetN (ρ : DE) : WS := fun P n => P (.rt (.sh .none) ρ) n
theorem s_retN {pos : Pos} : XS tabs Wx X (.Return none pos) wRetN := ⟨_, ps_retN, fun Hs0 H0 n0 F σ Hs H n ρ P D e g r h f => f _ n h _ σ Hs H [] F e (.sh .non) (fun _ z => by cases z) r fun _ _ _ _ z => by cases z⟩
theorem s_pass {pos : Pos} : XS tabs Wx X (.Pass pos) wNext := ⟨_, ps_pass, fun Hs0 H0 n0 F σ Hs H n ρ P D e g r h f => f _ n h σ Hs H F e g (Same.refl _) r⟩
def wBrk (ρ : DE) : WS := fun P n => P (.bk ρ) n
theorem s_break {pos : Pos} : XS tabs Wx X (.Break pos) wBrk := ⟨_, ps_break, fun Hs0 H0 n0 F σ Hs H n ρ P D e g r h f => f _ n h σ Hs H F e g (Same.refl _) r⟩
def wCont (ρ : DE) : WS := fun P n => P (.ct ρ) n
theorem s_cont {pos : Pos} : XS tabs Wx X (.Continue pos) wCont := ⟨_, ps_continue, fun Hs0 H0 n0 F σ Hs H n ρ P D e g r h f => f _ n h σ Hs H F e g (Same.refl _) r⟩
theorem s_doc {x : Str} {j pos pos'} : XS tabs Wx X (.Expr (.Constant (.str x) j pos) pos') wNext := ⟨_, ps_doc, fun Hs0 H0 n0 F σ Hs H n ρ P D e g r h f => f _ n h σ Hs H F e g (Same.refl _) r⟩
/-- what is never come to -/
def wNever (_ : DE) : WS := fun _ _ => False
theorem s_never : XS tabs Wx X st wNever := ⟨_, ps_never, fun Hs0 H0 n0 F σ Hs H n ρ P D e g r h f => h.elim⟩
theorem ss_never : XSs tabs Wx X sts wNever := ⟨_, pss_never, fun Hs0 H0 n0 F σ Hs H n ρ P D e g r h f => h.elim⟩
def wIfS (θ : DE → W Bool) (Δ Δ' : DE → WS) (ρ : DE) : WS := wE (θ ρ) ρ fun b P n => if b = true then Δ ρ P n else Δ' ρ P n
theorem s_if {c : Expr} {pos : Pos} (hc : XT tabs Wx X c θ) (ha : XSs tabs Wx X sts Δ) (hb : XSs tabs Wx X sts' Δ') : XS tabs Wx X (.If c sts sts' pos) (wIfS θ Δ Δ') := by
  obtain ⟨tc, pc, qc⟩ := hc
  obtain ⟨ta, pa, qa⟩ := ha
  obtain ⟨tb, pb, qb⟩ := hb
  refine ⟨_, ps_if pc pa pb, fun Hs0 H0 n0 F σ Hs H n ρ P D e g r h f => ?_⟩
  refine qc H0 F σ Hs H n ρ _ _ _ g r h (fun b n1 Hs1 H1 hb e1 => ?_) (kx_of e g r f)
  cases b with
  | true =>
    rw [if_pos rfl] at hb
    exact iteT (qa Hs0 H0 n0 F σ Hs1 H1 n1 ρ P D (e.trans e1) (g.ext e1) (r.ext e1) hb fun o n' ho => (f o n' ho).later e1.ss)
  | false =>
    rw [if_neg Bool.false_ne_true] at hb
    exact iteF (qb Hs0 H0 n0 F σ Hs1 H1 n1 ρ P D (e.trans e1) (g.ext e1) (r.ext e1) hb fun o n' ho => (f o n' ho).later e1.ss)
/-- x op= e, ints -/
def wAug (i : Nat) (op : Int → Int → Int) (φ : DE → W Dt) (ρ : DE) : WS := fun P n => ∃ a, ρ[i]? = some (.d (.int a)) ∧ wE (φ ρ) ρ (fun d P n => ∃ b, d = .int b ∧ P (.nx (ρ.set i (.d (.int (op a b))))) n) P n
theorem s_aug {op : Int → Int → Int} (h : XE tabs Wx X e φ) (mk : ∀ te, PE X e te → PS X st (tAug i te (ipI op))) : XS tabs Wx X st (wAug i op φ) := by
  obtain ⟨t, p, q⟩ := h
  refine ⟨_, mk t p, fun Hs0 H0 n0 F σ Hs H n ρ P D e g r h f => ?_⟩
  obtain ⟨a, ha, h⟩ := h
  obtain ⟨v, h1, h2⟩ := r.d i _ ha
  cases h2
  refine ⟨_, h1, q H0 F σ Hs H n ρ _ _ _ g r h (fun d n' v Hs' H' hd e' dd => ?_) (kx_of e g r f)⟩
  obtain ⟨b, rfl, hp⟩ := hd
  cases dd
  exact ⟨_, _, rfl, rfl, f _ n' hp _ Hs' H' F (e.trans e') (g.ext e') e'.ss ((r.ext e').setD (.int _))⟩
/-- for tg in iter: body; by an invariant: what is left to walk, the slots, the draws left -/
def wLoop (f : Dt → DE → WS) (ds : List Dt) (ρ : DE) : WS := fun P n => ∃ I : List Dt → DE → Nat → Prop, I ds ρ n ∧
  (∀ d r ρ n, I (d :: r) ρ n → f d ρ (fun o n' => match o with
    | .nx ρ' => I r ρ' n'
    | .ct ρ' => I r ρ' n'
    | .bk ρ' => P (.nx ρ') n'
    | .rt t ρ' => P (.rt t ρ') n'
    | .xc e ρ' => P (.xc e ρ') n') n) ∧ ∀ ρ n, I [] ρ n → P (.nx ρ) n
def wBody (γ : Dt → DE → Option DE) (Δ : DE → WS) (d : Dt) (ρ : DE) : WS := fun P n => ∃ ρ1, γ d ρ = some ρ1 ∧ Δ ρ1 P n
def wFor (κ : DE → W (List Dt)) (γ : Dt → DE → Option DE) (Δ : DE → WS) (ρ : DE) : WS := wE (κ ρ) ρ fun ds => wLoop (wBody γ Δ) ds ρ
theorem s_for {tg iter : Expr} {is : List Nat} {κ : DE → W (List Dt)} {γ : Dt → DE → Option DE} (hi : XI tabs Wx X tg iter κ) (hg : XTg X tg is γ) (hb : XSs tabs Wx X sts Δ) (mk : ∀ wi g tb, PI X tg iter wi → PG X tg g → PSs X sts tb → PS X st (tFor wi g tb)) : XS tabs Wx X st (wFor κ γ Δ) := by
  obtain ⟨wi, pi, qi⟩ := hi
  obtain ⟨tgg, pg, qg⟩ := hg
  obtain ⟨tb, pb, qb⟩ := hb
  refine ⟨_, mk wi tgg tb pi pg pb, fun Hs0 H0 n0 F σ Hs H n ρ P D e g r h f => ?_⟩
  refine qi H0 F σ Hs H n ρ _ _ _ g r h (fun ds n1 J Hs1 H1 h1 e1 it => ?_) (kx_of e g r f)
  obtain ⟨I, hI, step, fin⟩ := h1
  refine ⟨fun i m σ' H' => m = ds.length - i ∧ i ≤ ds.length ∧ ∃ n' Hs' ρ' F', Ext n0 n' Hs0 H0 Hs' H' ∧ G0 tabs n' Hs' H' ∧ Same Hs1 Hs' ∧ EnvR H0 Hs' H' σ' ρ' F' ∧ I (ds.drop i) ρ' n',
    ⟨ds.length, by simp, Nat.zero_le _, n1, Hs1, ρ, F, e.trans e1, g.ext e1, Same.refl _, r.ext e1, hI⟩, ?_⟩
  rintro i m σ2 H2 ⟨rfl, hil, n2, Hs2, ρ2, F2, e2, g2, s2, r2, h2⟩
  obtain ⟨turn, stop⟩ := it n2 Hs2 H2 g2 s2
  by_cases hlt : i < ds.length
  · obtain ⟨go, yl⟩ := turn i hlt
    refine .inr ⟨go, fun σ' H' => ∃ n' Hs' ρ' F', Ext n0 n' Hs0 H0 Hs' H' ∧ G0 tabs n' Hs' H' ∧ Same Hs1 Hs' ∧ EnvR H0 Hs' H' σ' ρ' F' ∧ I (ds.drop (i + 1)) ρ' n', fun σ' H' q => ⟨ds.length - (i + 1), by omega, rfl, hlt, q⟩, fun x H3 hy => ?_⟩
    obtain ⟨Hs3, d, hdi, e3, dd⟩ := yl x H3 hy
    have hdr : ds.drop i = d :: ds.drop (i + 1) := by
      obtain ⟨hl, hv⟩ := List.getElem?_eq_some_iff.mp hdi
      rw [List.drop_eq_getElem_cons hl, hv]
    rw [hdr] at h2
    obtain ⟨ρ3, hρ3, h2⟩ := step d _ ρ2 n2 h2
    refine qg H0 F2 σ2 Hs3 H3 ρ2 x d ρ3 _ (g2.ext e3).sb.hold (r2.ext e3) dd hρ3 fun σ3 r3 _ _ => ?_
    refine qb Hs0 H0 n0 F2 σ3 Hs3 H3 n2 ρ3 _ _ (e2.trans e3) (g2.ext e3) r3 h2 fun o n' ho => ?_
    cases o with
    | nx ρ' => exact fun σ' Hs' H' F' a b c d => ⟨n', Hs', ρ', F', a, b, (s2.trans e3.ss).trans c, d, ho⟩
    | ct ρ' => exact fun σ' Hs' H' F' a b c d => ⟨n', Hs', ρ', F', a, b, (s2.trans e3.ss).trans c, d, ho⟩
    | bk ρ' => exact fun σ' Hs' H' F' a b c d => f _ n' ho σ' Hs' H' F' a b (e1.ss.trans ((s2.trans e3.ss).trans c)) d
    | rt t ρ' => exact f _ n' ho
    | xc x ρ' => exact fun σ' Hs' H' F' cls u a b c d => f _ n' ho σ' Hs' H' F' cls u a b (e1.ss.trans ((s2.trans e3.ss).trans c)) d
  · have ei : i = ds.length := by omega
    subst ei
    rw [List.drop_length] at h2
    exact .inl ⟨stop, f _ n2 (fin ρ2 n2 h2) σ2 Hs2 H2 F2 e2 g2 (e1.ss.trans s2) r2⟩
end

/-! ### defs -/
def startD (n : Nat) (xs : List Dt) : DE := xs.map .d ++ List.replicate (n - xs.length) .no
def wDef (n m : Nat) (Δ : DE → WS) (xs : List Dt) : W OT := fun P E k => xs.length = m ∧ Δ (startD n xs) (fun o k' => match o with
  | .rt t _ => P t k'
  | .nx _ => P (.sh .none) k'
  | .xc e _ => E e k'
  | _ => False) k
theorem start_env {N : List Str} {Hs H : Hp} {vs : List L2.V} {xs : List Dt} (h : DxA Hs vs xs) : EnvR H Hs H (L2.start N vs) (startD N.length xs) (fun _ => []) := by
  have hl := h.len
  have no : ∀ (i : Nat) s, (startD N.length xs)[i]? = some s → s = .no ∨ ∃ x, s = .d x ∧ xs[i]? = some x := fun i s hi => by
    unfold startD at hi
    by_cases hlt : i < xs.length
    · rw [List.getElem?_append_left (by simpa using hlt), List.getElem?_map] at hi
      cases hq : xs[i]? with
      | none => rw [hq] at hi; cases hi
      | some x => rw [hq] at hi; cases hi; exact .inr ⟨x, rfl, rfl⟩
    · rw [List.getElem?_append_right (by simpa using hlt)] at hi
      exact .inl (List.eq_of_mem_replicate (List.mem_of_getElem? hi))
  refine ⟨by unfold L2.start startD; simp [hl], fun i x hi => ?_, fun i ys hi => ?_, fun i j ys zs _ hi => ?_⟩
  · rcases no i _ hi with z | ⟨y, z, hy⟩
    · cases z
    · cases z
      obtain ⟨v, h1, h2⟩ := h.get hy
      refine ⟨v, ?_, h2⟩
      unfold L2.start
      have hlt : i < vs.length := by
        obtain ⟨q, _⟩ := List.getElem?_eq_some_iff.mp h1
        exact q
      rw [List.getElem?_append_left (by simpa using hlt), List.getElem?_map, h1]
      rfl
  · rcases no i _ hi with z | ⟨y, z, hy⟩ <;> cases z
  · rcases no i _ hi with z | ⟨y, z, hy⟩ <;> cases z
/-- what a def of the text promises -/
def spW (tabs : Tb) (mg : Str → Option Value) (F : List Dt → W OT) : Sp := fun vs H Q E => ∃ Hs n xs P PE, G0 tabs n Hs H ∧ DxA Hs vs xs ∧ F xs P PE n ∧
  (∀ t n' v Hs' H' fp, P t n' → Ext n n' Hs H Hs' H' → Ow Hs' H' v t fp → (∀ a ∈ fp, H a = none) → Q v H') ∧
  (∀ e n' cls d Hs' H', PE e n' → Ext n n' Hs H Hs' H' → DxE mg Hs' cls d e → E cls d H')
/-- a def of the text as it stands behind the top, its code object at c -/
structure FunT (K : PySem.W.Frag) (x qual : Str) (st : Stmt) (f : Addr) (fd : FuncData) (c : Addr) : Prop where
  ex : ∃ (oc : Value) (od : Option Addr) (kV doc pm : Value) (an : Option Addr) (ct : Value) (osl : Array (Option Value)),
    fd = PySem.W.fnOf x qual (defArgs st) (defBody st) (defScope st) .none kV doc pm an (.ref c) ct ∧ K.lookup f = some ⟨oc, od, .func fd, osl⟩ ∧ PySem.W.codeIn K (.ref c) qual = true
  kp : PySem.W.keepIn K (.ref f) = true
theorem FunT.binds {K : PySem.W.Frag} {x qual : Str} {st : Stmt} {f c : Addr} {fd : FuncData} {ps : List Str} (F : FunT K x qual st f fd c)
    (h : ∀ (kV doc pm : Value) (an : Option Addr) (cdv ct : Value) (us : List Value), us.length = ps.length → bindArgs (PySem.W.fnOf x qual (defArgs st) (defBody st) (defScope st) .none kV doc pm an cdv ct) ⟨us, []⟩ = pure (ps.zip us)) : Binds K fd ps [] := by
  obtain ⟨oc, od, kV, doc, pm, an, ct, osl, rfl, lk, hcd⟩ := F.ex
  exact .all (h kV doc pm an (.ref c) ct)
/-- a def's own wish of exceptions -/
abbrev WD (E : XK) : WX := fun cls d _ H => E cls d H
section
variable {P : Program} {w : World} {K : PySem.W.Frag} {mg : Str → Option Value} {base : Heap}
theorem okW {x qual : Str} {st : Stmt} {f c : Addr} {fd : FuncData} {N ps : List Str} {k : Nat} {Δ : DE → WS} (F : FunT K x qual st f fd c) (S : FnScope N ps (defScope st))
    (hb : ∀ (A : Around) (outer : List Env) (s : Shared) (H : Hp) (E : XK), Room k (A.deeper (envOfC qual (defScope st) s.heap.objs.size f (.ref c))) →
      Takes (cxOf (L2.CX P w) P w K mg base N qual (defScope st) f (.ref c) A outer s H E) (WD E) →
      PassesOwn (model P w) (A.deeper (envOfC qual (defScope st) s.heap.objs.size f (.ref c))) (envOfC qual (defScope st) s.heap.objs.size f (.ref c)) (cxOf (L2.CX P w) P w K mg base N qual (defScope st) f (.ref c) A outer s H E).xe →
      XSs tabs (WD E) (cxOf (L2.CX P w) P w K mg base N qual (defScope st) f (.ref c) A outer s H E) (defBody st) Δ) :
    FnOk P w K mg base (L2.CX P w) (k + 1) f fd ps (spW tabs mg (wDef N.length ps.length Δ)) := by
  obtain ⟨oc, od, kV, doc, pm, an, ct, osl, rfl, lk, hcd⟩ := F.ex
  refine fn_of lk hcd S (fun vs H Q E h => ?_) fun A outer s H vs Q E hr h => ?_
  · obtain ⟨Hs, n, xs, P', PE, _, h1, h2, _⟩ := h
    rw [h1.len]
    exact h2.1
  · obtain ⟨Hs, n, xs, P', PE, g, h1, h2, q, q2⟩ := h
    obtain ⟨t, p, r⟩ := hb A outer s H E hr (takes_of rfl rfl rfl rfl) (passes_of (X := cxOf (L2.CX P w) P w K mg base N qual (defScope st) f (.ref c) A outer s H E) rfl)
    refine ⟨t, p, r Hs H n _ _ Hs H n _ _ _ g.refl g (start_env h1) h2.2 fun o n' ho => ?_⟩
    cases o with
    | nx ρ => exact fun σ Hs' H' F a b c d => q _ n' _ Hs' H' [] ho a (.sh .non) fun _ z => by cases z
    | rt t ρ => exact fun v σ Hs' H' fp F a b c _ _ => q t n' v Hs' H' fp ho a b c
    | bk ρ => exact ho.elim
    | ct ρ => exact ho.elim
    | xc e ρ => exact fun σ Hs' H' F cls d a b c r' dx => q2 e n' cls d Hs' H' ho a dx
/-- the weaker promise, by what is to be shown of the function of data -/
theorem impW {f : Addr} {fd : FuncData} {ps : List Str} {k : Nat} {CX : CXT} {F F' : List Dt → W OT} (h : FnOk P w K mg base CX k f fd ps (spW tabs mg F)) (i : ∀ xs P E n, F' xs P E n → F xs P E n) : FnOk P w K mg base CX k f fd ps (spW tabs mg F') :=
  h.imp fun vs H Q E ⟨Hs, n, xs, P', PE, g, h1, h2, q⟩ => ⟨Hs, n, xs, P', PE, g, h1, i _ _ _ _ h2, q⟩
end
section
variable {e : Expr} {es : List Expr} {α : DE → W (List Dt)}
/-- a call of a def of the text -/
def wCall (F : List Dt → W OT) (α : DE → W (List Dt)) (ρ : DE) : W OT := W.bind (α ρ) F
theorem o_call {F : List Dt → W OT} (ha : XA tabs Wx X es α) (mk : ∀ t, PA X es t → PE X e (tCallS (spW tabs X.mg F) (WE Wx) t)) : XO tabs Wx [] X e (wCall F α) := by
  obtain ⟨t, p, qa⟩ := ha
  refine ⟨_, mk t p, fun H0 F' σ Hs H n ρ P E Q g r h q kx => ?_⟩
  refine qa H0 F' σ Hs H n ρ _ E _ g r h (fun xs n1 vs Hs1 H1 h1 e1 d1 => ?_) kx
  exact ⟨Hs1, n1, xs, P, E, g.ext e1, d1, h1, fun t n2 v Hs2 H2 fp hp e2 d2 f2 => q t n2 v Hs2 H2 fp hp (e1.trans e2) d2 fun a ha => .inl (e1.free (f2 a ha)), fun x n2 cls d Hs2 H2 hp e2 dx => kx x n2 cls d Hs2 H2 hp (e1.trans e2) dx⟩
end
end QD

set_option Elab.async false
set_option linter.all false
set_option maxRecDepth 100000
set_option maxHeartbeats 4000000
/-! Qf: operators and built-in functions, by value. -/
namespace QD
open PySem PySem.Spec PyProof.Rows L2 GxR XG
variable {X : Cx} {tabs : Tb} {Wx : WX}

theorem ob {α β : Type} {o : Option α} {f : α → Option β} {b : β} (h : o.bind f = some b) : ∃ a, o = some a ∧ f a = some b := by
  cases o with
  | none => cases h
  | some a => exact ⟨a, rfl, h⟩
theorem om {α β : Type} {o : Option α} {f : α → β} {b : β} (h : o.map f = some b) : ∃ a, o = some a ∧ b = f a := by
  cases o with
  | none => cases h
  | some a => cases h; exact ⟨a, rfl, rfl⟩
theorem opOr {f : Value → Value → Sem Value} {r r' : R2} (h : OpR X f r) (h' : OpR X f r') : OpR X f (fun x y H Q => r x y H Q ∨ r' x y H Q) := by
  intro pins s σ H x y v u Q I rx ry q
  rcases q with q | q
  · exact h pins s σ H x y v u Q I rx ry q
  · exact h' pins s σ H x y v u Q I rx ry q
/-- a new shared list, tuple, is handed on -/
theorem retL {n : Nat} {Hs H : Hp} {p : Addr} {vs : List L2.V} {ds : List Dt} {Q : VK} (g : G0 tabs n Hs H) (np : H p = none) (h : DxA Hs vs ds) (q : ∀ w Hs' H', Ext n n Hs H Hs' H' → Dx Hs' w (.list ds) → Q w H') : Q (.ref p) (upd H p (.lst vs)) :=
  have e := Ext.new (o := .lst vs) g np rfl rfl
  q _ _ _ e (.lst upd_same (h.mono e.ss))
theorem retT {n : Nat} {Hs H : Hp} {p : Addr} {vs : List L2.V} {ds : List Dt} {Q : VK} (g : G0 tabs n Hs H) (np : H p = none) (h : DxA Hs vs ds) (q : ∀ w Hs' H', Ext n n Hs H Hs' H' → Dx Hs' w (.tuple ds) → Q w H') : Q (.ref p) (upd H p (.tup vs)) :=
  have e := Ext.new (o := .tup vs) g np rfl rfl
  q _ _ _ e (.tup upd_same (h.mono e.ss))
theorem lt5 {n : Nat} (h : n < 100000) : n < sizeLine := Nat.lt_of_lt_of_le h (by decide)

/-! ### + -/
def dAdd : Dt → Dt → Option Dt
  | .int i, .int j => some (.int (i + j))
  | .list a, .list b => if a.length + b.length ≤ 100000 then some (.list (a ++ b)) else none
  | .tuple a, .tuple b => if a.length + b.length ≤ 100000 ∧ a ≠ [] then some (.tuple (a ++ b)) else none
  | _, _ => none
def rAddD (K : PySem.W.Frag) : R2 := fun x y H Q => rI0 (fun i j => .int (i + j)) x y H Q ∨ rCat x y H Q ∨ rCatT K x y H Q
theorem op_addD : OpR X (binaryOp .Add) (rAddD X.K) := opOr op_add (opOr op_cat op_catT)
theorem rd_add {K : PySem.W.Frag} : RD tabs (rAddD K) dAdd := fun n Hs H v u x y z Q g dx dy hz q => by
  unfold dAdd at hz
  split at hz
  · cases hz
    cases dx
    cases dy
    exact .inl ⟨_, _, rfl, rfl, q _ Hs H g.refl (.int _)⟩
  · split at hz
    case isFalse => cases hz
    rename_i hl
    cases hz
    cases dx with
    | lst h1 h2 =>
      cases dy with
      | lst h3 h4 =>
        refine .inr (.inl ⟨_, _, _, _, rfl, rfl, g.sub _ _ h1, g.sub _ _ h3, small5 (by rw [h2.len, h4.len]; exact hl), fun p np => ?_⟩)
        exact retL g np (h2.app h4) q
  · split at hz
    case isFalse => cases hz
    rename_i hl
    cases hz
    cases dx with
    | tup h1 h2 =>
      cases dy with
      | tup h3 h4 =>
        rename_i a xs b ys
        have hne : xs ≠ [] := fun z => by
          have := h2.len
          rw [z] at this
          exact hl.2 (List.eq_nil_of_length_eq_zero this.symm)
        refine .inr (.inr ⟨_, _, _, _, rfl, rfl, SqT.of (g.sub _ _ h1), SqT.of (g.sub _ _ h3), hne, small5 (by rw [h2.len, h4.len]; exact hl.1), fun z => ?_, fun _ p np => ?_⟩)
        · subst z
          cases h4
          rw [List.append_nil] at q
          exact q _ Hs H g.refl (.tup h1 h2)
        · exact retT g np (h2.app h4) q
  · cases hz

/-! ### - * // % on ints; list * int -/
def dSub : Dt → Dt → Option Dt
  | .int i, .int j => some (.int (i - j))
  | _, _ => none
theorem rd_sub : RD tabs (rI0 fun i j => .int (i - j)) dSub := fun n Hs H v u x y z Q g dx dy hz q => by
  unfold dSub at hz
  split at hz
  · cases hz
    cases dx
    cases dy
    exact ⟨_, _, rfl, rfl, q _ Hs H g.refl (.int _)⟩
  · cases hz
def dMul : Dt → Dt → Option Dt
  | .int i, .int j => if i.natAbs.log2 + j.natAbs.log2 < 1000000 then some (.int (i * j)) else none
  | .list a, .int k => if 0 ≤ k ∧ k ≤ 100000 ∧ a.length * k.toNat ≤ 100000 then some (.list (List.replicate k.toNat a).flatten) else none
  | _, _ => none
def rMulD : R2 := fun x y H Q => rI CMulW (fun i j => .int (i * j)) x y H Q ∨ rRep x y H Q
theorem op_mulD : OpR X (binaryOp .Mult) rMulD := opOr op_mulW op_rep
theorem rep_dx {H : Hp} {vs : List L2.V} {ds : List Dt} (h : DxA H vs ds) : ∀ n : Nat, DxA H (List.replicate n vs).flatten (List.replicate n ds).flatten
  | 0 => .nil
  | n + 1 => by
    rw [List.replicate_succ, List.replicate_succ, List.flatten_cons, List.flatten_cons]
    exact h.app (rep_dx h n)
theorem rd_mul : RD tabs rMulD dMul := fun n Hs H v u x y z Q g dx dy hz q => by
  unfold dMul at hz
  split at hz
  · split at hz
    case isFalse => cases hz
    rename_i hl
    cases hz
    cases dx
    cases dy
    exact .inl ⟨_, _, rfl, rfl, hl, q _ Hs H g.refl (.int _)⟩
  · split at hz
    case isFalse => cases hz
    rename_i hl
    cases hz
    cases dx with
    | lst h1 h2 =>
      cases dy
      refine .inr ⟨_, _, _, rfl, rfl, g.sub _ _ h1, by omega, by omega, small5 (by rw [h2.len]; exact hl.2.2), fun p np => ?_⟩
      exact retL g np (rep_dx h2 _) q
  · cases hz
def dMod : Dt → Dt → Option Dt
  | .int i, .int j => if 0 < j then some (.int (i % j)) else none
  | _, _ => none
theorem rd_mod : RD tabs (rI (fun _ j => 0 < j) fun i j => .int (i % j)) dMod := fun n Hs H v u x y z Q g dx dy hz q => by
  unfold dMod at hz
  split at hz
  · split at hz
    case isFalse => cases hz
    rename_i hl
    cases hz
    cases dx
    cases dy
    exact ⟨_, _, rfl, rfl, hl, q _ Hs H g.refl (.int _)⟩
  · cases hz
def dDiv : Dt → Dt → Option Dt
  | .int i, .int j => if 0 < j ∧ j.natAbs.log2 < 9000 then some (.int (i / j)) else none
  | _, _ => none
theorem rd_div : RD tabs (rI CDivW fun i j => .int (i / j)) dDiv := fun n Hs H v u x y z Q g dx dy hz q => by
  unfold dDiv at hz
  split at hz
  · split at hz
    case isFalse => cases hz
    rename_i hl
    cases hz
    cases dx
    cases dy
    exact ⟨_, _, rfl, rfl, hl, q _ Hs H g.refl (.int _)⟩
  · cases hz
def CPowW (i j : Int) : Prop := 0 ≤ j ∧ (Builtin.Int.intBits i : Int) * j ≤ 2 ^ 27
instance (i j : Int) : Decidable (CPowW i j) := inferInstanceAs (Decidable (_ ∧ _))
theorem op_powW : OpR X (binaryOp .Pow) (rI CPowW fun i j => .int (i ^ j.toNat)) := opI fun _ _ _ _ _ _ _ hc q => pow_int hc.1 hc.2 q
def dPow : Dt → Dt → Option Dt
  | .int i, .int j => if CPowW i j then some (.int (i ^ j.toNat)) else none
  | _, _ => none
theorem rd_pow : RD tabs (rI CPowW fun i j => .int (i ^ j.toNat)) dPow := fun n Hs H v u x y z Q g dx dy hz q => by
  unfold dPow at hz
  split at hz
  · split at hz
    case isFalse => cases hz
    rename_i hl
    cases hz
    cases dx
    cases dy
    exact ⟨_, _, rfl, rfl, hl, q _ Hs H g.refl (.int _)⟩
  · cases hz
def dNeg : Dt → Option Dt
  | .int i => some (.int (-i))
  | _ => none
/-- a function of one value -/
def wUn (g : Dt → Option Dt) (φ : DE → W Dt) (ρ : DE) : W Dt := W.bind (φ ρ) fun x => W.opt (g x)
theorem x_neg {a : Expr} {φ : DE → W Dt} {pos : Pos} (ha : XE tabs Wx X a φ) : XE tabs Wx X (.UnaryOp .USub a pos) (wUn dNeg φ) := by
  obtain ⟨t, p, q⟩ := ha
  refine ⟨_, pe_un un_neg p, fun H0 F σ Hs H n ρ P E Q g r h k kx => ?_⟩
  refine q H0 F σ Hs H n ρ _ E _ g r h (fun d n' v Hs' H' hd e dd => ?_) kx
  obtain ⟨x, hx, hp⟩ := hd
  unfold dNeg at hx
  split at hx
  · cases hx
    cases dd
    exact ⟨_, rfl, k _ n' _ Hs' H' hp e (.int _)⟩
  · cases hx

/-! ### comparisons -/
def dLt : Dt → Dt → Option Dt
  | .int i, .int j => some (.bool (decide (i < j)))
  | _, _ => none
def dLe : Dt → Dt → Option Dt
  | .int i, .int j => some (.bool (decide (i ≤ j)))
  | _, _ => none
def dGt : Dt → Dt → Option Dt
  | .int i, .int j => some (.bool (decide (j < i)))
  | _, _ => none
def dGe : Dt → Dt → Option Dt
  | .int i, .int j => some (.bool (decide (j ≤ i)))
  | _, _ => none
theorem rd_lt : RD tabs (rI0 fun i j => .bl (decide (i < j))) dLt := fun n Hs H v u x y z Q g dx dy hz q => by
  unfold dLt at hz
  split at hz
  · cases hz; cases dx; cases dy
    exact ⟨_, _, rfl, rfl, q _ Hs H g.refl (.bl _)⟩
  · cases hz
theorem rd_le : RD tabs (rI0 fun i j => .bl (decide (i ≤ j))) dLe := fun n Hs H v u x y z Q g dx dy hz q => by
  unfold dLe at hz
  split at hz
  · cases hz; cases dx; cases dy
    exact ⟨_, _, rfl, rfl, q _ Hs H g.refl (.bl _)⟩
  · cases hz
theorem rd_gt : RD tabs (rI0 fun i j => .bl (decide (j < i))) dGt := fun n Hs H v u x y z Q g dx dy hz q => by
  unfold dGt at hz
  split at hz
  · cases hz; cases dx; cases dy
    exact ⟨_, _, rfl, rfl, q _ Hs H g.refl (.bl _)⟩
  · cases hz
theorem rd_ge : RD tabs (rI0 fun i j => .bl (decide (j ≤ i))) dGe := fun n Hs H v u x y z Q g dx dy hz q => by
  unfold dGe at hz
  split at hz
  · cases hz; cases dx; cases dy
    exact ⟨_, _, rfl, rfl, q _ Hs H g.refl (.bl _)⟩
  · cases hz
def dEq (x y : Dt) : Option Dt := if (SeqAt.shaped x = true ∧ SeqAt.shaped y = true) ∧ noDr x = true ∧ noDr y = true then some (.bool (PyData.eqv x y)) else none
def dNe (x y : Dt) : Option Dt := if (SeqAt.shaped x = true ∧ SeqAt.shaped y = true) ∧ noDr x = true ∧ noDr y = true then some (.bool (!PyData.eqv x y)) else none
theorem rd_eq {K : PySem.W.Frag} : RD tabs (rEqD K) dEq := fun n Hs H v u x y z Q g dx dy hz q => by
  unfold dEq at hz
  split at hz
  · rename_i h
    cases hz
    exact ⟨x, y, Dx.dp g.sb.hold h.2.1 dx, Dx.dp g.sb.hold h.2.2 dy, h.1.1, h.1.2, q _ Hs H g.refl (.bl _)⟩
  · cases hz
theorem rd_ne {K : PySem.W.Frag} : RD tabs (rNeD K) dNe := fun n Hs H v u x y z Q g dx dy hz q => by
  unfold dNe at hz
  split at hz
  · rename_i h
    cases hz
    exact ⟨x, y, Dx.dp g.sb.hold h.2.1 dx, Dx.dp g.sb.hold h.2.2 dy, h.1.1, h.1.2, q _ Hs H g.refl (.bl _)⟩
  · cases hz
def isNone : Dt → Bool
  | .none => true
  | _ => false
def dIsN : Dt → Dt → Option Dt
  | x, .none => some (.bool (isNone x))
  | _, _ => none
def dNotN : Dt → Dt → Option Dt
  | x, .none => some (.bool (!isNone x))
  | _, _ => none
theorem isNone_eq {H : Hp} {v : L2.V} {x : Dt} (h : Dx H v x) : decide (v = .non) = isNone x := by
  cases h <;> rfl
theorem rd_isN : RD tabs (fun x y H Q => y = .non ∧ Q (.bl (decide (x = .non))) H) dIsN := fun n Hs H v u x y z Q g dx dy hz q => by
  unfold dIsN at hz
  split at hz
  · cases hz; cases dy
    refine ⟨rfl, ?_⟩
    rw [isNone_eq dx]
    exact q _ Hs H g.refl (.bl _)
  · cases hz
theorem rd_notN : RD tabs (fun x y H Q => y = .non ∧ Q (.bl (!decide (x = .non))) H) dNotN := fun n Hs H v u x y z Q g dx dy hz q => by
  unfold dNotN at hz
  split at hz
  · cases hz; cases dy
    refine ⟨rfl, ?_⟩
    rw [isNone_eq dx]
    exact q _ Hs H g.refl (.bl _)
  · cases hz

/-! ### subscripts, slices -/
def dIx : Dt → Dt → Option Dt
  | .list a, .int i => atI a i
  | .tuple a, .int i => atI a i
  | _, _ => none
theorem atI_dx {H : Hp} {vs : List L2.V} {ds : List Dt} {i : Int} {d : Dt} (h : DxA H vs ds) (e : atI ds i = some d) : ∃ v, atI vs i = some v ∧ Dx H v d := by
  unfold atI at e ⊢
  obtain ⟨j, h1, h2⟩ := ob e
  obtain ⟨v, h3, h4⟩ := h.get h2
  exact ⟨v, by rw [h.len, h1]; exact h3, h4⟩
theorem rd_ix {K : PySem.W.Frag} : RD tabs (rIx K) dIx := fun n Hs H v u x y z Q g dx dy hz q => by
  unfold dIx at hz
  split at hz
  · cases dy
    cases dx with
    | lst h1 h2 =>
      obtain ⟨w, h3, h4⟩ := atI_dx h2 hz
      exact .inl ⟨_, _, _, w, rfl, rfl, SqL.of (g.sub _ _ h1), h3, q _ Hs H g.refl h4⟩
  · cases dy
    cases dx with
    | tup h1 h2 =>
      obtain ⟨w, h3, h4⟩ := atI_dx h2 hz
      exact .inr (.inl ⟨_, _, _, w, rfl, rfl, SqT.of (g.sub _ _ h1), h3, q _ Hs H g.refl h4⟩)
  · cases hz
/-- a slice's end -/
def XSl (tabs : Tb) (Wx : WX) (X : Cx) (e : Option Expr) (φ : DE → W (Option Int)) : Prop := ∃ t, PO X e t ∧ ∀ (H0 : Hp) F σ Hs H n ρ P E (Q : Option Int → Hp → Prop), G0 tabs n Hs H → EnvR H0 Hs H σ ρ F → φ ρ P E n → (∀ x n' Hs' H', P x n' → Ext n n' Hs H Hs' H' → Q x H') → KX X.mg Wx σ n Hs H E → t σ H Q
theorem sl_no : XSl tabs Wx X none (fun _ => W.ret none) := ⟨_, po_none, fun H0 F σ Hs H n ρ P E Q g r hx q kx => q _ n Hs H hx g.refl⟩
def toI : Dt → Option Int
  | .int i => some i
  | _ => none
theorem toI_some {d : Dt} {i : Int} (h : toI d = some i) : d = .int i := by
  cases d <;> simp [toI] at h
  rw [h]
theorem sl_so {e : Expr} {φ : DE → W Dt} (h : XE tabs Wx X e φ) : XSl tabs Wx X (some e) (fun ρ => W.bind (φ ρ) fun d => W.opt ((toI d).map some)) := by
  obtain ⟨t, p, q⟩ := h
  refine ⟨_, po_some p, fun H0 F σ Hs H n ρ P E Q g r hx k kx => ?_⟩
  refine q H0 F σ Hs H n ρ _ E _ g r hx (fun d n' v Hs' H' hd e dd => ?_) kx
  obtain ⟨x, hx, hp⟩ := hd
  cases hi : toI d with
  | none => rw [hi] at hx; cases hx
  | some i =>
    rw [hi] at hx
    cases hx
    have := toI_some hi
    subst this
    cases dd
    exact ⟨i, rfl, k _ n' Hs' H' hp e⟩
def cutD (xs : List Dt) (lo hi : Option Int) : List Dt := (xs.drop (HT.sIx xs.length 0 lo)).take (HT.sIx xs.length xs.length hi - HT.sIx xs.length 0 lo)
theorem cut_dx {H : Hp} {vs : List L2.V} {ds : List Dt} {lo hi : Option Int} (h : DxA H vs ds) : DxA H (cutV vs lo hi) (cutD ds lo hi) := by
  unfold cutV cutD
  rw [h.len]
  exact (h.drop _).take _
theorem OwA.ofDx {Hs H : Hp} : ∀ {ds : List Dt} {vs : List L2.V}, DxA Hs vs ds → OwA Hs H vs (ds.map .sh) []
  | [], _, h => by cases h; exact .nil
  | _ :: _, _, h => by cases h with | cons h1 h2 => exact .cons (.sh h1) (OwA.ofDx h2) (fun _ z => by cases z)
theorem vals_sh : ∀ ds : List Dt, OT.vals (ds.map .sh) = ds
  | [] => rfl
  | d :: ds => by simp [OT.vals, OT.val, vals_sh ds]
/-- a new owned list, tuple of shared things is handed on -/
theorem retLO {n : Nat} {Hs H : Hp} {p : Addr} {vs : List L2.V} {ds : List Dt} {Q : VK} (g : G0 tabs n Hs H) (np : H p = none) (h : DxA Hs vs ds) (q : ∀ w Hs' H' fp, Ext n n Hs H Hs' H' → Ow Hs' H' w (.ls (ds.map .sh)) fp → (∀ a ∈ fp, H a = none) → Q w H') : Q (.ref p) (upd H p (.lst vs)) :=
  q _ _ _ [p] (Ext.newO (o := .lst vs) g np rfl) (.ls upd_same (g.sb.free np) (.ofDx h) (fun z => by cases z)) fun a ha => by rw [List.mem_singleton.mp ha]; exact np
theorem retTO {n : Nat} {Hs H : Hp} {p : Addr} {vs : List L2.V} {ds : List Dt} {Q : VK} (g : G0 tabs n Hs H) (np : H p = none) (h : DxA Hs vs ds) (q : ∀ w Hs' H' fp, Ext n n Hs H Hs' H' → Ow Hs' H' w (.tp (ds.map .sh)) fp → (∀ a ∈ fp, H a = none) → Q w H') : Q (.ref p) (upd H p (.tup vs)) :=
  q _ _ _ [p] (Ext.newO (o := .tup vs) g np rfl) (.tp upd_same (g.sb.free np) (.ofDx h) (fun z => by cases z)) fun a ha => by rw [List.mem_singleton.mp ha]; exact np
/-- of lists; of tuples, where the slice is not the whole -/
def gCut (d : Dt) (lo hi : Option Int) : Option OT := match d with
  | .list xs => some (.ls ((cutD xs lo hi).map .sh))
  | .tuple xs => if HT.sIx xs.length 0 lo = 0 ∧ HT.sIx xs.length xs.length hi = xs.length then none else some (.tp ((cutD xs lo hi).map .sh))
  | _ => none
def wCut (φ : DE → W Dt) (α β : DE → W (Option Int)) (ρ : DE) : W OT := W.bind (φ ρ) fun d => W.bind (α ρ) fun l => W.bind (β ρ) fun u => W.opt (gCut d l u)
theorem o_cut {e : Expr} {lo hi : Option Expr} {φ : DE → W Dt} {α β : DE → W (Option Int)} {p2 pos : Pos} (h : XE tabs Wx X e φ) (hl : XSl tabs Wx X lo α) (hh : XSl tabs Wx X hi β) :
    XO tabs Wx [] X (.Subscript e (.Slice lo hi none p2) pos) (wCut φ α β) := by
  obtain ⟨t, p, q⟩ := h
  obtain ⟨tl, pl, ql⟩ := hl
  obtain ⟨th, ph, qh⟩ := hh
  refine ⟨_, pe_slice (sl_list.or sl_tup) p pl ph, fun H0 F σ Hs H n ρ P E Q g r hx k kx => ?_⟩
  refine q H0 F σ Hs H n ρ _ E _ g r hx (fun d n1 v Hs1 H1 hx e1 dd => ?_) kx
  refine ql H0 F σ Hs1 H1 n1 ρ _ E _ (g.ext e1) (r.ext e1) hx (fun l n2 Hs2 H2 hx e2 => ?_) (kx.later e1)
  refine qh H0 F σ Hs2 H2 n2 ρ _ E _ ((g.ext e1).ext e2) ((r.ext e1).ext e2) hx (fun u n3 Hs3 H3 hx e3 => ?_) (kx.later (e1.trans e2))
  obtain ⟨z, hx, hp⟩ := hx
  have g3 := ((g.ext e1).ext e2).ext e3
  have e13 := (e1.trans e2).trans e3
  have d3 := (dd.mono e2.ss).mono e3.ss
  unfold gCut at hx
  split at hx
  · cases hx
    cases d3 with
    | lst h1 h2 =>
      refine .inl ⟨_, _, rfl, SqL.of (g3.sub _ _ h1), fun p np => ?_⟩
      exact retLO g3 np (cut_dx h2) fun w Hs' H' fp e4 d4 f4 => k _ n3 w Hs' H' fp hp (e13.trans e4) d4 fun a ha => .inl (e13.free (f4 a ha))
  · split at hx
    · cases hx
    · rename_i hw
      cases hx
      cases d3 with
      | tup h1 h2 =>
        refine .inr ⟨_, _, rfl, SqT.of (g3.sub _ _ h1), by rw [h2.len]; exact hw, fun p np => ?_⟩
        exact retTO g3 np (cut_dx h2) fun w Hs' H' fp e4 d4 f4 => k _ n3 w Hs' H' fp hp (e13.trans e4) d4 fun a ha => .inl (e13.free (f4 a ha))
  · cases hx
/-- xs[::-1] -/
def gRevL : Dt → Option OT
  | .list xs => some (.ls (xs.reverse.map .sh))
  | _ => none
def wUnO (g : Dt → Option OT) (φ : DE → W Dt) (ρ : DE) : W OT := W.bind (φ ρ) fun x => W.opt (g x)
theorem o_revL {e : Expr} {φ : DE → W Dt} {k : Nat} {p1 p2 p3 pos : Pos} (h : XE tabs Wx X e φ) : XO tabs Wx [] X (.Subscript e (.Slice none none (some (.UnaryOp .USub (.Constant (.int 1) k p1) p2)) p3) pos) (wUnO gRevL φ) := by
  obtain ⟨t, p, q⟩ := h
  refine ⟨_, pe_revL p, fun H0 F σ Hs H n ρ P E Q g r hx k kx => ?_⟩
  refine q H0 F σ Hs H n ρ _ E _ g r hx (fun d n1 v Hs1 H1 hx e1 dd => ?_) kx
  obtain ⟨z, hx, hp⟩ := hx
  unfold gRevL at hx
  split at hx
  · cases hx
    cases dd with
    | lst h1 h2 =>
      refine ⟨_, _, rfl, SqL.of (e1.sub _ _ h1), fun p np => ?_⟩
      exact retLO (g.ext e1) np h2.rev fun w Hs' H' fp e4 d4 f4 => k _ n1 w Hs' H' fp hp (e1.trans e4) d4 fun a ha => .inl (e1.free (f4 a ha))
  · cases hx

/-! ### built-in functions -/
def fLen : List Dt → Option Dt
  | [.list xs] => some (.int xs.length)
  | [.tuple xs] => some (.int xs.length)
  | _ => none
theorem rc_len {K : PySem.W.Frag} : RCD tabs (fun xs H Q => ∃ p ys, xs = [.ref p] ∧ (SqL K H p ys ∨ SqT K H p ys) ∧ Q (.int ys.length) H) fLen := fun n Hs H vs xs z Q g dx hz q => by
  unfold fLen at hz
  split at hz
  · cases hz
    cases dx with
    | cons h1 h2 =>
      cases h2
      cases h1 with
      | lst h1 h2 =>
        refine ⟨_, _, rfl, .inl (SqL.of (g.sub _ _ h1)), ?_⟩
        rw [h2.len]
        exact q _ Hs H g.refl (.int _)
  · cases hz
    cases dx with
    | cons h1 h2 =>
      cases h2
      cases h1 with
      | tup h1 h2 =>
        refine ⟨_, _, rfl, .inr (SqT.of (g.sub _ _ h1)), ?_⟩
        rw [h2.len]
        exact q _ Hs H g.refl (.int _)
  · cases hz
def fInt : List Dt → Option Dt
  | [.int i] => some (.int i)
  | [.bool k] => some (.int (if k then 1 else 0))
  | _ => none
theorem rc_int : RCD tabs (fun xs H Q => (∃ i, xs = [.int i] ∧ Q (.int i) H) ∨ ∃ k, xs = [.bl k] ∧ Q (.int (if k then 1 else 0)) H) fInt := fun n Hs H vs xs z Q g dx hz q => by
  unfold fInt at hz
  split at hz
  · cases hz
    cases dx with
    | cons h1 h2 => cases h2; cases h1; exact .inl ⟨_, rfl, q _ Hs H g.refl (.int _)⟩
  · cases hz
    cases dx with
    | cons h1 h2 => cases h2; cases h1; exact .inr ⟨_, rfl, q _ Hs H g.refl (.int _)⟩
  · cases hz
def fMax2 : List Dt → Option Dt
  | [.int i, .int j] => some (.int (if j > i then j else i))
  | _ => none
def fMin2 : List Dt → Option Dt
  | [.int i, .int j] => some (.int (if j < i then j else i))
  | _ => none
theorem rc_max2 : RCD tabs (fun xs H Q => ∃ i j, xs = [.int i, .int j] ∧ Q (.int (if j > i then j else i)) H) fMax2 := fun n Hs H vs xs z Q g dx hz q => by
  unfold fMax2 at hz
  split at hz
  · cases hz
    cases dx with
    | cons h1 h2 => cases h2 with | cons h3 h4 => cases h4; cases h1; cases h3; exact ⟨_, _, rfl, q _ Hs H g.refl (.int _)⟩
  · cases hz
theorem rc_min2 : RCD tabs (fun xs H Q => ∃ i j, xs = [.int i, .int j] ∧ Q (.int (if j < i then j else i)) H) fMin2 := fun n Hs H vs xs z Q g dx hz q => by
  unfold fMin2 at hz
  split at hz
  · cases hz
    cases dx with
    | cons h1 h2 => cases h2 with | cons h3 h4 => cases h4; cases h1; cases h3; exact ⟨_, _, rfl, q _ Hs H g.refl (.int _)⟩
  · cases hz
/-- a list of ints -/
def dInts : List Dt → Option (List Int)
  | [] => some []
  | .int i :: r => (dInts r).map fun t => i :: t
  | _ :: _ => none
theorem ints_some : ∀ {ds : List Dt} {ns : List Int}, dInts ds = some ns → ds = ns.map .int
  | [], ns, h => by cases h; rfl
  | .int i :: r, ns, h => by
    obtain ⟨t, h1, rfl⟩ := om h
    rw [ints_some h1]; rfl
  | .none :: _, _, h => by cases h
  | .bool _ :: _, _, h => by cases h
  | .str _ :: _, _, h => by cases h
  | .list _ :: _, _, h => by cases h
  | .tuple _ :: _, _, h => by cases h
  | .dict _ :: _, _, h => by cases h
theorem ints_map (ns : List Int) : dInts (ns.map .int) = some ns := by
  induction ns with
  | nil => rfl
  | cons i r ih => show (dInts (r.map .int)).map _ = _; rw [ih]; rfl
def maxL : List Int → Int → Int
  | [], m => m
  | i :: r, m => maxL r (if m < i then i else m)
def minL : List Int → Int → Int
  | [], m => m
  | i :: r, m => minL r (if i < m then i else m)
theorem maxL_spec : ∀ (ns : List Int) (m : Int), (maxL ns m = m ∨ maxL ns m ∈ ns) ∧ m ≤ maxL ns m ∧ ∀ y ∈ ns, y ≤ maxL ns m
  | [], m => ⟨.inl rfl, Int.le_refl _, by simp⟩
  | i :: r, m => by
    obtain ⟨h1, h2, h3⟩ := maxL_spec r (if m < i then i else m)
    refine ⟨?_, ?_, fun y hy => ?_⟩
    · show maxL r _ = m ∨ maxL r _ ∈ i :: r
      rcases h1 with h1 | h1
      · rw [h1]
        split
        · exact .inr List.mem_cons_self
        · exact .inl rfl
      · exact .inr (List.mem_cons_of_mem _ h1)
    · show m ≤ maxL r _
      split at h2 <;> split <;> omega
    · show y ≤ maxL r _
      rcases List.mem_cons.mp hy with rfl | hy
      · split at h2 <;> split <;> omega
      · exact h3 y hy
theorem minL_spec : ∀ (ns : List Int) (m : Int), (minL ns m = m ∨ minL ns m ∈ ns) ∧ minL ns m ≤ m ∧ ∀ y ∈ ns, minL ns m ≤ y
  | [], m => ⟨.inl rfl, Int.le_refl _, by simp⟩
  | i :: r, m => by
    obtain ⟨h1, h2, h3⟩ := minL_spec r (if i < m then i else m)
    refine ⟨?_, ?_, fun y hy => ?_⟩
    · show minL r _ = m ∨ minL r _ ∈ i :: r
      rcases h1 with h1 | h1
      · rw [h1]
        split
        · exact .inr List.mem_cons_self
        · exact .inl rfl
      · exact .inr (List.mem_cons_of_mem _ h1)
    · show minL r _ ≤ m
      split at h2 <;> split <;> omega
    · show minL r _ ≤ y
      rcases List.mem_cons.mp hy with rfl | hy
      · split at h2 <;> split <;> omega
      · exact h3 y hy
def fMaxL : List Dt → Option Dt
  | [.list ds] => (dInts ds).bind fun ns => match ns with
    | [] => none
    | i :: r => some (.int (maxL r i))
  | _ => none
def fMinL : List Dt → Option Dt
  | [.list ds] => (dInts ds).bind fun ns => match ns with
    | [] => none
    | i :: r => some (.int (minL r i))
  | _ => none
def fSum : List Dt → Option Dt
  | [.list ds] => (dInts ds).map fun ns => .int ns.sum
  | _ => none
theorem rc_maxL {K : PySem.W.Frag} : RCD tabs (rMax K) fMaxL := fun n Hs H vs xs z Q g dx hz q => by
  unfold fMaxL at hz
  split at hz
  case h_2 => cases hz
  obtain ⟨ns, hn, hz⟩ := ob hz
  split at hz
  case h_1 => cases hz
  rename_i i r
  cases hz
  have := ints_some hn
  subst this
  cases dx with
  | cons h1 h2 =>
    cases h2
    cases h1 with
    | lst h1 h2 =>
      have := h2.ints
      subst this
      refine ⟨_, i :: r, rfl, SqL.of (g.sub _ _ h1), Nat.succ_pos _, fun m hm hle => ?_⟩
      obtain ⟨s1, s2, s3⟩ := maxL_spec r i
      have e : m = maxL r i := by
        have a1 : maxL r i ≤ m := hle _ (by rcases s1 with s1 | s1; (rw [s1]; exact List.mem_cons_self); exact List.mem_cons_of_mem _ s1)
        have a2 : m ≤ maxL r i := by
          rcases List.mem_cons.mp hm with rfl | hm
          · exact s2
          · exact s3 _ hm
        omega
      rw [e]
      exact q _ Hs H g.refl (.int _)
theorem rc_minL {K : PySem.W.Frag} : RCD tabs (rMin K) fMinL := fun n Hs H vs xs z Q g dx hz q => by
  unfold fMinL at hz
  split at hz
  case h_2 => cases hz
  obtain ⟨ns, hn, hz⟩ := ob hz
  split at hz
  case h_1 => cases hz
  rename_i i r
  cases hz
  have := ints_some hn
  subst this
  cases dx with
  | cons h1 h2 =>
    cases h2
    cases h1 with
    | lst h1 h2 =>
      have := h2.ints
      subst this
      refine ⟨_, i :: r, rfl, SqL.of (g.sub _ _ h1), Nat.succ_pos _, fun m hm hle => ?_⟩
      obtain ⟨s1, s2, s3⟩ := minL_spec r i
      have e : m = minL r i := by
        have a1 : m ≤ minL r i := hle _ (by rcases s1 with s1 | s1; (rw [s1]; exact List.mem_cons_self); exact List.mem_cons_of_mem _ s1)
        have a2 : minL r i ≤ m := by
          rcases List.mem_cons.mp hm with rfl | hm
          · exact s2
          · exact s3 _ hm
        omega
      rw [e]
      exact q _ Hs H g.refl (.int _)
theorem rc_sum {K : PySem.W.Frag} : RCD tabs (rSum K) fSum := fun n Hs H vs xs z Q g dx hz q => by
  unfold fSum at hz
  split at hz
  case h_2 => cases hz
  obtain ⟨ns, hn, rfl⟩ := om hz
  have := ints_some hn
  subst this
  cases dx with
  | cons h1 h2 =>
    cases h2
    cases h1 with
    | lst h1 h2 =>
      have := h2.ints
      subst this
      exact ⟨_, ns, rfl, SqL.of (g.sub _ _ h1), q _ Hs H g.refl (.int _)⟩
/-- list(xs), tuple(xs) of lists and tuples -/
def fList : List Dt → Option Dt
  | [.list ds] => some (.list ds)
  | [.tuple ds] => some (.list ds)
  | _ => none
def fTuple : List Dt → Option Dt
  | [.list ds] => some (.tuple ds)
  | [.tuple ds] => some (.tuple ds)
  | _ => none
theorem rc_list {K : PySem.W.Frag} : RCD tabs (fun xs H Q => ∃ p ys, xs = [.ref p] ∧ (SqL K H p ys ∨ SqT K H p ys) ∧ ∀ l, H l = none → Q (.ref l) (upd H l (.lst ys))) fList := fun n Hs H vs xs z Q g dx hz q => by
  unfold fList at hz
  split at hz
  · cases hz
    cases dx with
    | cons h1 h2 =>
      cases h2
      cases h1 with
      | lst h1 h2 =>
        refine ⟨_, _, rfl, .inl (SqL.of (g.sub _ _ h1)), fun p np => ?_⟩
        exact retL g np h2 q
  · cases hz
    cases dx with
    | cons h1 h2 =>
      cases h2
      cases h1 with
      | tup h1 h2 =>
        refine ⟨_, _, rfl, .inr (SqT.of (g.sub _ _ h1)), fun p np => ?_⟩
        exact retL g np h2 q
  · cases hz
theorem rc_tuple {K : PySem.W.Frag} : RCD tabs (fun xs H Q => ∃ p ys, xs = [.ref p] ∧ ((SqL K H p ys ∧ ∀ l, H l = none → Q (.ref l) (upd H l (.tup ys))) ∨ (SqT K H p ys ∧ Q (.ref p) H))) fTuple := fun n Hs H vs xs z Q g dx hz q => by
  unfold fTuple at hz
  split at hz
  · cases hz
    cases dx with
    | cons h1 h2 =>
      cases h2
      cases h1 with
      | lst h1 h2 =>
        refine ⟨_, _, rfl, .inl ⟨SqL.of (g.sub _ _ h1), fun p np => ?_⟩⟩
        exact retT g np h2 q
  · cases hz
    cases dx with
    | cons h1 h2 =>
      cases h2
      cases h1 with
      | tup h1 h2 => exact ⟨_, _, rfl, .inr ⟨SqT.of (g.sub _ _ h1), q _ Hs H g.refl (.tup h1 h2)⟩⟩
  · cases hz
/-! ### isinstance(x, T), T a built-in class -/
def tyN : Dt → String
  | .none => "NoneType"
  | .bool _ => "bool"
  | .int _ => "int"
  | .str _ => "str"
  | .list _ => "list"
  | .tuple _ => "tuple"
  | .dict _ => "dict"
def isDict : Dt → Bool
  | .dict _ => true
  | _ => false
theorem ty_of {K : PySem.W.Frag} {Hs H : Hp} {v : L2.V} {d : Dt} (nd : ¬ isDict d = true) (s : Hold Hs H) (h : Dx Hs v d) : TyX K H v (.type (tyN d)) := by
  cases h with
  | non => exact .base .non
  | bl b => exact .base (.bl b)
  | int i => exact .base (.int i)
  | str x => exact .base (.str x)
  | lst h1 h2 => exact .base (.lst (s _ _ h1 rfl))
  | tup h1 h2 => exact .base (.tup (s _ _ h1 rfl))
  | drw h1 h2 => exact absurd rfl nd
  | scr => exact absurd rfl nd
def dIsi (T : String) (d : Dt) : Option Dt := if isDict d = true then none else (kitB (tyN d) T).map .bool
theorem x_isi {e a : Expr} {φ : DE → W Dt} {T : String} (h : XE tabs Wx X a φ) (mk : ∀ te, PE X a te → PE X e (tCB (rIsi X.K) (tCons te (tCons (tC (.ty T)) tNil)))) : XE tabs Wx X e (wUn (dIsi T) φ) := by
  obtain ⟨t, p, q⟩ := h
  refine ⟨_, mk t p, fun H0 F σ Hs H n ρ P E Q g r hx k kx => ?_⟩
  refine q H0 F σ Hs H n ρ _ E _ g r hx (fun d n1 v Hs1 H1 hx e1 dd => ?_) kx
  obtain ⟨z, hx, hp⟩ := hx
  unfold dIsi at hx
  split at hx
  · cases hx
  · cases hb : kitB (tyN d) T with
    | none => rw [hb] at hx; cases hx
    | some b =>
      rw [hb] at hx
      cases hx
      exact ⟨v, .ty T, _, _, b, rfl, .ty T, ty_of (by assumption) e1.sb.hold dd, kit_ty hb, k _ n1 _ Hs1 H1 hp e1 (.bl b)⟩
end QD

set_option Elab.async false
set_option linter.all false
set_option maxRecDepth 100000
set_option maxHeartbeats 4000000
/-! Qg: decided scopes; words for the proofs of meaning. -/
namespace QD
open PySem PySem.Spec PyProof.Rows L2 GxR XG
variable {X : Cx} {tabs : Tb} {Wx : WX}
theorem takes0 {X : Cx} : L2.Takes X (fun _ _ _ _ => False) := fun u s' ⟨a, B, sI, pins, σ, H, cls, d, e, I, nb, up, sky, na, os, ag, w⟩ => w.elim
def gblkC (N : List Str) (sc scope : Scope) (own : List (Str × Nat)) : Bool :=
  blkC N sc scope own && !scope.isCoroutine && (scope.names.all fun y => match y.2 with | .cell => false | _ => true) && (match scope.names.lookup (".0" : Str) with | some .local => true | _ => false)
theorem gblk_by {N : List Str} {sc scope : Scope} {own : List (Str × Nat)} (h : gblkC N sc scope own = true) : GBlk N sc scope own := by
  unfold gblkC at h
  simp only [Bool.and_eq_true, List.all_eq_true, Bool.not_eq_true'] at h
  obtain ⟨⟨⟨h1, h2⟩, h3⟩, h4⟩ := h
  have b := blkOk_by h1
  refine ⟨b.kind, h2, fun y hy e => ?_, ?_, b.uniq, b.ix, b.free, b.own⟩
  · have := h3 y hy
    rw [e] at this
    cases this
  · split at h4
    · assumption
    · cases h4
/-- a whole number of the module -/
theorem x_cst {x : Str} {i : Int} {pos : Pos} (hg : Gl X x) (h : ∃ t, X.mg x = some (.int i t)) (hd : (x == ("__debug__" : Str)) = false := by decide) : XE tabs Wx X (.Name x pos) (fun _ => W.ret (.int i)) := by
  obtain ⟨t, h⟩ := h
  exact x_c (v := .int i) (pe_glob hg h ⟨_, rfl⟩ hd) fun _ => .int i
/-! ### words for the proofs of meaning -/
/-- one argument, two, three -/
theorem sp1 {F : Dt → W OT} {xs : List Dt} {P : OT → Nat → Prop} {E : Ex → Nat → Prop} {n : Nat} {R : Prop} (h : (match xs with | [a] => F a | _ => W.no) P E n) (k : ∀ a, xs = [a] → F a P E n → R) : R := by
  match xs, h, k with
  | [], h, _ => exact h.elim
  | [a], h, k => exact k a rfl h
  | _ :: _ :: _, h, _ => exact h.elim
theorem sp2 {F : Dt → Dt → W OT} {xs : List Dt} {P : OT → Nat → Prop} {E : Ex → Nat → Prop} {n : Nat} {R : Prop} (h : (match xs with | [a, b] => F a b | _ => W.no) P E n) (k : ∀ a b, xs = [a, b] → F a b P E n → R) : R := by
  match xs, h, k with
  | [], h, _ => exact h.elim
  | [a], h, k => exact h.elim
  | [a, b], h, k => exact k a b rfl h
  | _ :: _ :: _ :: _, h, _ => exact h.elim
theorem sp3 {F : Dt → Dt → Dt → W OT} {xs : List Dt} {P : OT → Nat → Prop} {E : Ex → Nat → Prop} {n : Nat} {R : Prop} (h : (match xs with | [a, b, c] => F a b c | _ => W.no) P E n) (k : ∀ a b c, xs = [a, b, c] → F a b c P E n → R) : R := by
  match xs, h, k with
  | [], h, _ => exact h.elim
  | [a], h, k => exact h.elim
  | [a, b], h, k => exact h.elim
  | [a, b, c], h, k => exact k a b c rfl h
  | _ :: _ :: _ :: _ :: _, h, _ => exact h.elim
def S1 (F : Dt → W OT) (xs : List Dt) : W OT := match xs with | [a] => F a | _ => W.no
def S2 (F : Dt → Dt → W OT) (xs : List Dt) : W OT := match xs with | [a, b] => F a b | _ => W.no
def S3 (F : Dt → Dt → Dt → W OT) (xs : List Dt) : W OT := match xs with | [a, b, c] => F a b c | _ => W.no
def isInt : Dt → Bool
  | .int _ => true
  | .bool _ => true
  | _ => false
def isBool : Dt → Bool
  | .bool _ => true
  | _ => false
def isList : Dt → Bool
  | .list _ => true
  | _ => false
theorem isi_int {d : Dt} (h : isDict d = false) : dIsi "int" d = some (.bool (isInt d)) := by cases d <;> first | with_unfolding_all rfl | (simp [isDict] at h)
theorem isi_bool {d : Dt} (h : isDict d = false) : dIsi "bool" d = some (.bool (isBool d)) := by cases d <;> first | with_unfolding_all rfl | (simp [isDict] at h)
theorem isi_list {d : Dt} (h : isDict d = false) : dIsi "list" d = some (.bool (isList d)) := by cases d <;> first | with_unfolding_all rfl | (simp [isDict] at h)
@[simp] theorem toB_bool {b : Bool} : toB (.bool b) = some b := rfl
def enumF (i : Nat) (ds : List Dt) : List Dt := (ds.zipIdx i).map fun p => .tuple [.int (p.2 : Nat), p.1]
theorem dEnum_F (ds : List Dt) : dEnum ds = enumF 0 ds := rfl
theorem enumF_cons (i : Nat) (d : Dt) (ds : List Dt) : enumF i (d :: ds) = .tuple [.int (i : Nat), d] :: enumF (i + 1) ds := rfl
theorem enumF_nil (i : Nat) : enumF i [] = [] := rfl
theorem filterMap_some {α : Type} : ∀ l : List α, List.filterMap id (l.map some) = l
  | [] => rfl
  | a :: l => by simp [filterMap_some l]
theorem filterMap_somes {α β : Type} (f : α → β) (l : List α) : List.filterMap id (l.map fun a => some (f a)) = l.map f := by
  have := filterMap_some (l.map f)
  rwa [List.map_map] at this
def intsD (xs : List Int) : Dt := .list (xs.map .int)
theorem dIx_list {ds : List Dt} {i : Int} {d : Dt} (h0 : 0 ≤ i) (h : ds[i.toNat]? = some d) : dIx (.list ds) (.int i) = some d := by
  have hl : i.toNat < ds.length := by
    obtain ⟨q, _⟩ := List.getElem?_eq_some_iff.mp h
    exact q
  show atI ds i = some d
  unfold atI ixN
  rw [if_pos h0, if_pos (by omega)]
  exact h
theorem dIx_ints {xs : List Int} {i : Int} {z : Int} (h0 : 0 ≤ i) (h : xs[i.toNat]? = some z) : dIx (.list (xs.map .int)) (.int i) = some (.int z) :=
  dIx_list h0 (by rw [List.getElem?_map, h]; rfl)
end QD

set_option Elab.async false
set_option linter.all false
set_option maxRecDepth 100000
set_option maxHeartbeats 4000000
/-! Qh: [elt for .. for ..]. -/
namespace QD
open PySem PySem.Spec PyProof.Rows L2 GxR XG
variable {X : Cx} {tabs : Tb} {Wx : WX}
theorem EnvR.put {H0 Hs H : Hp} {σ : L2.St} {ρ : DE} {F : Nat → List Addr} (r : EnvR H0 Hs H σ ρ F) {D : Addr} {o : HO} (h : ∀ i t, ρ[i]? = some (.ow t) → D ∉ F i) : EnvR H0 Hs (upd H D o) σ ρ F where
  len := r.len
  d := r.d
  ow := fun i t hi => by
    obtain ⟨⟨v, h1, h2⟩, h3⟩ := r.ow i t hi
    exact ⟨⟨v, h1, h2.keep (Same.refl _) fun a ha => ⟨upd_ne fun z => h i t hi (z ▸ ha), (h2.own a ha).1⟩⟩, h3⟩
  sep := r.sep
def cleanF (ρ : DE) (F : Nat → List Addr) : Nat → List Addr := fun i => match ρ[i]? with
  | some (.ow _) => F i
  | _ => []
theorem cleanF_ow {ρ : DE} {F : Nat → List Addr} {i : Nat} {t : OT} (h : ρ[i]? = some (.ow t)) : cleanF ρ F i = F i := by unfold cleanF; rw [h]
theorem EnvR.clean {H0 Hs H : Hp} {σ : L2.St} {ρ : DE} {F : Nat → List Addr} (r : EnvR H0 Hs H σ ρ F) : EnvR H0 Hs H σ ρ (cleanF ρ F) where
  len := r.len
  d := r.d
  ow := fun i t h => by rw [cleanF_ow h]; exact r.ow i t h
  sep := fun i j t u hij h1 h2 => by rw [cleanF_ow h1, cleanF_ow h2]; exact r.sep i j t u hij h1 h2
theorem EnvR.cleanD {H0 Hs H : Hp} {σ : L2.St} {ρ : DE} {F : Nat → List Addr} (r : EnvR H0 Hs H σ ρ F) {D : Addr} (nD : H D = none) (i : Nat) : D ∉ cleanF ρ F i := fun z => by
  unfold cleanF at z
  split at z
  · rename_i t ht
    obtain ⟨⟨v, _, h2⟩, _⟩ := r.ow i t ht
    obtain ⟨_, o, ho, _⟩ := h2.own D z
    rw [nD] at ho; cases ho
  · cases z
/-- by invariants: of the outer walk, of each inner one -/
def wLc2 (κ : DE → W (List Dt)) (vs : List Nat) (γ : Dt → DE → Option DE) (θ : DE → W Bool) (κ1 : DE → W (List Dt)) (vs1 : List Nat) (γ1 : Dt → DE → Option DE) (θ1 : DE → W Bool) (Φ : DE → W OT) (ρ : DE) : W OT :=
  W.bind (κ ρ) fun ds => fun P _ n => ∃ I : List Dt → List OT → Nat → Prop, I ds [] n ∧
    (∀ d r ts n, I (d :: r) ts n → ∃ ρ1, γ d (wipeD ρ vs) = some ρ1 ∧ θ ρ1 (fun b n' => if b = true then κ1 ρ1 (fun ds1 n2 => ∃ I1 : List Dt → List OT → Nat → Prop, I1 ds1 ts n2 ∧
      (∀ d1 r1 ts n, I1 (d1 :: r1) ts n → ts.length ≤ 1000000 ∧ wClause γ1 θ1 Φ (wipeD ρ1 vs1) d1 (fun o n' => I1 r1 (ts ++ o.toList) n') noE n) ∧ ∀ ts n, I1 [] ts n → I r ts n) noE n' else I r ts n') noE n) ∧
    ∀ ts n, I [] ts n → P (.ls ts) n
theorem lc2_read {mg : Str → Option Value} {is vs is1 vs1 : List Nat} {κ κ1 : DE → W (List Dt)} {γ γ1 : Dt → DE → Option DE} {θ θ1 : DE → W Bool} {Φ : DE → W OT} (hiv : ∀ i ∈ is, i ∈ vs) (hiv1 : ∀ i ∈ is1, i ∈ vs1) :
    RdO tabs mg Wx [] (tLc2 (cI tabs mg Wx κ) (cG is γ) (cT tabs mg W0 θ) (cI tabs mg W0 κ1) (cG is1 γ1) (cT tabs mg W0 θ1) (cO tabs mg W0 [] Φ) vs vs1) (wLc2 κ vs γ θ κ1 vs1 γ1 θ1 Φ) := fun H0 F σ Hs H n ρ P E Q g r hx q kx => by
  refine ⟨H0, F, Hs, n, ρ, _, E, g, r, hx, fun ds n1 J Hs1 H1 hds e1 it D nD => ?_, kx⟩
  obtain ⟨I, hI, step, fin⟩ := hds
  have s1D : Hs1 D = none := e1.sb.free nD
  have r0 := r.ext e1
  have r1 : EnvR H0 Hs1 H1 σ ρ (cleanF ρ F) := r0.clean
  have nDF : ∀ i, D ∉ cleanF ρ F i := fun i => r0.cleanD nD i
  let Base : Nat → Hp → Hp → List L2.V → List OT → List Addr → Prop := fun n' Hs' H' acc ts fp => Ext n1 n' Hs1 H1 Hs' H' ∧ G0 tabs n' Hs' H' ∧ H' D = some (.lst acc) ∧ Hs' D = none ∧ OwA Hs' H' acc ts fp ∧ D ∉ fp ∧ (∀ a ∈ fp, H1 a = none)
  have stepE : ∀ {n' n'' Hs' H' Hs'' H'' acc ts fp}, Base n' Hs' H' acc ts fp → Ext n' n'' Hs' H' Hs'' H'' → Base n'' Hs'' H'' acc ts fp := fun ⟨a, b, c, d, e, f, g⟩ x => by
    obtain ⟨k1, k2⟩ := own_keep x c d
    exact ⟨a.trans x, b.ext x, k1, k2, e.ext x, f, g⟩
  refine ⟨fun i m H' => m = ds.length - i ∧ i ≤ ds.length ∧ ∃ n2 Hs' acc ts fp, Base n2 Hs' H' acc ts fp ∧ I (ds.drop i) ts n2,
    ⟨ds.length, by simp, Nat.zero_le _, n1, Hs1, [], [], [], ⟨Ext.newO (g.ext e1) nD rfl, (g.ext e1).ext (Ext.newO (g.ext e1) nD rfl), upd_same, s1D, .nil, (fun z => by cases z), (fun _ z => by cases z)⟩, hI⟩, ?_⟩
  rintro i m H2 ⟨rfl, hi, n2, Hs2, acc, ts, fp, B2, hw⟩
  have e2 := B2.1
  have g2 := B2.2.1
  obtain ⟨turn, stop⟩ := it n2 Hs2 H2 g2 e2.ss
  by_cases hlt : i < ds.length
  · obtain ⟨go, yl⟩ := turn i hlt
    refine .inr ⟨go, fun H' => ∃ n2 Hs' acc ts fp, Base n2 Hs' H' acc ts fp ∧ I (ds.drop (i + 1)) ts n2, fun H' h => ⟨ds.length - (i + 1), by omega, rfl, hlt, h⟩, fun y H3 hy => ?_⟩
    obtain ⟨Hs3, d, hdi, e3, dd⟩ := yl y H3 hy
    have hdr : ds.drop i = d :: ds.drop (i + 1) := by
      obtain ⟨hl, hv⟩ := List.getElem?_eq_some_iff.mp hdi
      rw [List.drop_eq_getElem_cons hl, hv]
    rw [hdr] at hw
    obtain ⟨ρ1, hg1, hw⟩ := step d _ ts n2 hw
    have B3 := stepE B2 e3
    have g3 := B3.2.1
    have r3 : EnvR H0 Hs3 H3 (L2.wipe σ vs) (wipeD ρ vs) (cleanF ρ F) := (r1.ext B3.1).wipe vs
    refine ⟨H0, cleanF ρ F, Hs3, wipeD ρ vs, d, ρ1, g3.sb.hold, r3, dd, hg1, fun σ2 r4 hl4 keep => ⟨?_, ?_⟩⟩
    · rw [wipe_eq (σ := L2.wipe σ vs) hl4 fun j hj => keep j fun z => hj (hiv j z)]
      exact wipe_eq (wipe_length _ _) fun j hj => by rw [wipe_get, if_neg hj]
    · refine ⟨H0, cleanF ρ F, Hs3, n2, ρ1, _, _, g3, r4, hw, fun b n4 Hs4 H4 hb e4 => ?_, KX.no0⟩
      have B4 := stepE B3 e4
      cases b with
      | false =>
        rw [if_neg Bool.false_ne_true] at hb
        exact iteF ⟨n4, Hs4, acc, ts, fp, B4, hb⟩
      | true =>
        rw [if_pos rfl] at hb
        refine iteT ⟨H0, cleanF ρ F, Hs4, n4, ρ1, _, _, B4.2.1, r4.ext e4, hb, fun ds1 n5 J1 Hs5 H5 h5 e5 it1 => ?_, KX.no0⟩
        obtain ⟨I1, hI1, step1, fin1⟩ := h5
        have B5 := stepE B4 e5
        refine ⟨fun j k H' => k = ds1.length - j ∧ j ≤ ds1.length ∧ ∃ n6 Hs' acc ts fp, Base n6 Hs' H' acc ts fp ∧ Same Hs5 Hs' ∧ EnvR H0 Hs' H' σ2 ρ1 (cleanF ρ F) ∧ I1 (ds1.drop j) ts n6, ⟨ds1.length, by simp, Nat.zero_le _, n5, Hs5, acc, ts, fp, B5, Same.refl _, (r4.ext e4).ext e5, hI1⟩, ?_⟩
        rintro j k H6 ⟨rfl, hj, n6, Hs6, acc6, ts6, fp6, B6, s6, r6, hw6⟩
        obtain ⟨turn1, stop1⟩ := it1 n6 Hs6 H6 B6.2.1 s6
        by_cases hlt1 : j < ds1.length
        · obtain ⟨go1, yl1⟩ := turn1 j hlt1
          refine .inr ⟨go1, fun H' => ∃ n6 Hs' acc ts fp, Base n6 Hs' H' acc ts fp ∧ Same Hs5 Hs' ∧ EnvR H0 Hs' H' σ2 ρ1 (cleanF ρ F) ∧ I1 (ds1.drop (j + 1)) ts n6, fun H' h => ⟨ds1.length - (j + 1), by omega, rfl, hlt1, h⟩, fun y7 H7 hy7 => ?_⟩
          obtain ⟨Hs7, d7, hd7, e7, dd7⟩ := yl1 y7 H7 hy7
          have hdr1 : ds1.drop j = d7 :: ds1.drop (j + 1) := by
            obtain ⟨hl, hv⟩ := List.getElem?_eq_some_iff.mp hd7
            rw [List.drop_eq_getElem_cons hl, hv]
          rw [hdr1] at hw6
          obtain ⟨hsz, ρ3, hg7, hw7⟩ := step1 d7 _ ts6 n6 hw6
          have B7 := stepE B6 e7
          have r7 := r6.ext e7
          refine ⟨H0, cleanF ρ F, Hs7, wipeD ρ1 vs1, d7, ρ3, B7.2.1.sb.hold, r7.wipe vs1, dd7, hg7, fun σ8 r8 hl8 keep8 => ⟨?_, ?_⟩⟩
          · rw [wipe_eq (σ := L2.wipe σ2 vs1) hl8 fun j hj => keep8 j fun z => hj (hiv1 j z)]
            exact wipe_eq (wipe_length _ _) fun j hj => by rw [wipe_get, if_neg hj]
          · refine ⟨H0, cleanF ρ F, Hs7, n6, ρ3, _, _, B7.2.1, r8, hw7, fun b n9 Hs9 H9 hb e9 => ?_, KX.no0⟩
            have B9 := stepE B7 e9
            unfold W.ite at hb
            cases b with
            | false =>
              rw [if_neg Bool.false_ne_true] at hb
              have q9 : I1 (ds1.drop (j + 1)) (ts6 ++ (none : Option OT).toList) n9 := hb
              exact iteF ⟨n9, Hs9, acc6, ts6, fp6, B9, (s6.trans e7.ss).trans e9.ss, r7.ext e9, by simpa using q9⟩
            | true =>
              rw [if_pos rfl] at hb
              refine iteT ⟨H0, cleanF ρ F, Hs9, n9, ρ3, _, _, B9.2.1, r8.ext e9, hb, fun t n10 v Hs10 H10 fq ht e10 d10 f10 => ?_, KX.no0⟩
              obtain ⟨b1, b2, b3, b4, b5, b6, b7⟩ := stepE B9 e10
              have fr10 : ∀ a ∈ fq, H9 a = none := fun a ha => (f10 a ha).elim id fun ⟨_, z, _⟩ => by cases z
              obtain ⟨fr, q1, q2⟩ := OwA.snoc b5 d10 fun a ha z => by
                obtain ⟨_, o, ho, _⟩ := B9.2.2.2.2.1.own a z
                rw [fr10 a ha] at ho; cases ho
              have nDr : D ∉ fr := fun z => by
                rcases (q2 D).mp z with y | y
                · exact b6 y
                · have := B9.2.2.1
                  rw [fr10 D y] at this; cases this
              have r10 := (r7.ext e9).ext e10
              refine ⟨acc6, b3, Nat.lt_of_le_of_lt (by rw [b5.len]; exact hsz) (by decide : 1000000 < 16777216), n10, Hs10, acc6 ++ [v], ts6 ++ [t], fr, ⟨b1.put nD b4 rfl, b2.put b3 rfl b4 rfl, upd_same, b4, q1.keep (Same.refl _) fun a ha => ⟨upd_ne fun z => nDr (z ▸ ha), (q1.own a ha).1⟩, nDr, fun a ha => ?_⟩, ((s6.trans e7.ss).trans e9.ss).trans e10.ss, r10.put (fun i _ _ => nDF i), ht⟩
              rcases (q2 a).mp ha with y | y
              · exact b7 a y
              · exact B9.1.free (fr10 a y)
        · have ei : j = ds1.length := by omega
          subst ei
          rw [List.drop_length] at hw6
          exact .inl ⟨stop1, n6, Hs6, acc6, ts6, fp6, B6, fin1 ts6 n6 hw6⟩
  · have ei : i = ds.length := by omega
    subst ei
    rw [List.drop_length] at hw
    obtain ⟨b1, b2, b3, b4, b5, b6, b7⟩ := B2
    refine .inl ⟨stop, q _ n2 _ Hs2 H2 (D :: fp) (fin ts n2 hw) (e1.trans b1) (.ls b3 b4 b5 b6) fun a ha => ?_⟩
    rcases List.mem_cons.mp ha with rfl | z
    · exact .inl (e1.free nD)
    · exact .inl (e1.free (b7 a z))
section
variable {elt tg iter tg1 iter1 : Expr} {ifs ifs1 : List Expr} {scope : Scope} {own : List (Str × Nat)} {pos : Pos} {is is1 vs1 : List Nat} {κ κ1 : DE → W (List Dt)} {γ γ1 : Dt → DE → Option DE} {θ θ1 : DE → W Bool} {Φ : DE → W OT}
theorem o_lc2 (hc : X.calm = true) (hN : X.N.Nodup) (hi : XI tabs Wx X tg iter κ) (ok : BlkOk X.N X.env.scope scope own) (hv : ∀ i ∈ vs1, i ∈ own.map (·.2)) (hiv : ∀ i ∈ is, i ∈ own.map (·.2)) (hiv1 : ∀ i ∈ is1, i ∈ vs1)
    (hg : ∀ (s : Shared) (H : Hp) (C : Addr) (cl : List (Str × Addr)) (fp : List Addr), XTg (X.blk s H scope (compEnvC scope cl C X.env) fp) tg is γ) (ht : ∀ (s : Shared) (H : Hp) (C : Addr) (cl : List (Str × Addr)) (fp : List Addr), XTs tabs W0 (X.blk s H scope (compEnvC scope cl C X.env) fp) ifs θ)
    (hi1 : ∀ (s : Shared) (H : Hp) (C : Addr) (cl : List (Str × Addr)) (fp : List Addr), XI tabs W0 (X.blk s H scope (compEnvC scope cl C X.env) fp) tg1 iter1 κ1)
    (hg1 : ∀ (s : Shared) (H : Hp) (C : Addr) (cl : List (Str × Addr)) (fp : List Addr), XTg (X.blk s H scope (compEnvC scope cl C X.env) fp) tg1 is1 γ1) (ht1 : ∀ (s : Shared) (H : Hp) (C : Addr) (cl : List (Str × Addr)) (fp : List Addr), XTs tabs W0 (X.blk s H scope (compEnvC scope cl C X.env) fp) ifs1 θ1)
    (he : ∀ (s : Shared) (H : Hp) (C : Addr) (cl : List (Str × Addr)) (fp : List Addr), XO tabs W0 [] (X.blk s H scope (compEnvC scope cl C X.env) fp) elt Φ) (hs : ∀ x, foldedSetIterable iter X.env x = pure x := by intro _; rfl) (hs1 : ∀ env x, foldedSetIterable iter1 env x = pure x := by intro _ _; rfl) :
    XO tabs Wx [] X (.ListComp elt [⟨tg, iter, ifs, 0⟩, ⟨tg1, iter1, ifs1, 0⟩] scope pos) (wLc2 κ (own.map (·.2)) γ θ κ1 vs1 γ1 θ1 Φ) :=
  ⟨_, pe_lc2 hc hN hi.can ok hv (fun s H C cl fp => (hg s H C cl fp).can) (fun s H C cl fp => (ht s H C cl fp).can) (fun s H C cl fp => (hi1 s H C cl fp).can) (fun s H C cl fp => (hg1 s H C cl fp).can) (fun s H C cl fp => (ht1 s H C cl fp).can) (fun s H C cl fp => (he s H C cl fp).can) hs hs1, lc2_read hiv hiv1⟩
end
end QD

set_option Elab.async false
set_option linter.all false
set_option maxRecDepth 100000
set_option maxHeartbeats 4000000
/-! Qi: owned trees changed in place. -/
namespace QD
open PySem PySem.Spec PyProof.Rows L2 GxR XG
variable {X : Cx} {tabs : Tb} {Wx : WX}
/-- a slot's tree changed in place -/
theorem EnvR.mut {H0 Hs H H' : Hp} {σ : L2.St} {ρ : DE} {F : Nat → List Addr} {i : Nat} {v : L2.V} {t : OT} {fp : List Addr} (r : EnvR H0 Hs H σ ρ F) (hv : σ[i]? = some (some v)) (h : Ow Hs H' v t fp) (h0 : ∀ a ∈ fp, H0 a = none)
    (hs : ∀ j u, j ≠ i → ρ[j]? = some (.ow u) → (∀ a ∈ fp, a ∉ F j) ∧ ∀ a ∈ F j, H' a = H a) : EnvR H0 Hs H' σ (ρ.set i (.ow t)) (updF F i fp) where
  len := by simpa using r.len
  d := fun j y hj => by
    rcases set_get hj with ⟨rfl, hl, e⟩ | ⟨ne, hj⟩
    · cases e
    · exact r.d j y hj
  ow := fun j u hj => by
    rcases set_get hj with ⟨rfl, hl, e⟩ | ⟨ne, hj⟩
    · cases e
      rw [updF_same]
      exact ⟨⟨v, hv, h⟩, h0⟩
    · rw [updF_ne ne]
      obtain ⟨⟨w, q1, q2⟩, q3⟩ := r.ow j u hj
      exact ⟨⟨w, q1, q2.keep (Same.refl _) fun a ha => ⟨(hs j u (Ne.symm ne) hj).2 a ha, (q2.own a ha).1⟩⟩, q3⟩
  sep := fun j k t' u hjk h1 h2 a ha hb => by
    rcases set_get h1 with ⟨rfl, _, e⟩ | ⟨ne, h1⟩
    · rcases set_get h2 with ⟨e2, _, _⟩ | ⟨ne2, h2⟩
      · exact hjk e2
      · rw [updF_same] at ha
        rw [updF_ne ne2] at hb
        exact (hs k u (Ne.symm ne2) h2).1 a ha hb
    · rw [updF_ne ne] at ha
      rcases set_get h2 with ⟨rfl, _, e⟩ | ⟨ne2, h2⟩
      · rw [updF_same] at hb
        exact (hs j t' (Ne.symm ne) h1).1 a hb ha
      · rw [updF_ne ne2] at hb
        exact r.sep j k t' u hjk h1 h2 a ha hb
/-- one thing of an owned row, changed -/
theorem OwA.focus {Hs H : Hp} : ∀ {ts : List OT} {vs : List L2.V} {fp : List Addr} {j : Nat} {t : OT}, OwA Hs H vs ts fp → ts[j]? = some t → ∃ v fj, vs[j]? = some v ∧ Ow Hs H v t fj ∧ (∀ a ∈ fj, a ∈ fp) ∧
    ∀ H' t' fj', (∀ a ∈ fp, a ∉ fj → H' a = H a) → Ow Hs H' v t' fj' → (∀ a ∈ fj', a ∈ fp → a ∈ fj) → ∃ fp', OwA Hs H' vs (ts.set j t') fp' ∧ ∀ a ∈ fp', a ∈ fj' ∨ (a ∈ fp ∧ a ∉ fj)
  | [], _, _, _, _, _, h => by simp at h
  | t0 :: ts, _, _, 0, t, h, e => by
    simp at e
    subst e
    cases h with
    | cons h1 h2 h3 =>
      rename_i v vs fp fq
      refine ⟨v, fp, rfl, h1, fun a ha => List.mem_append_left _ ha, fun H' t' fj' k o s => ?_⟩
      refine ⟨_, .cons o (h2.keep (Same.refl _) fun a ha => ⟨k a (List.mem_append_right _ ha) fun z => h3 a z ha, (h2.own a ha).1⟩) fun a ha hb => h3 a (s a ha (List.mem_append_right _ hb)) hb, fun a ha => ?_⟩
      rcases List.mem_append.mp ha with z | z
      · exact .inl z
      · exact .inr ⟨List.mem_append_right _ z, fun y => h3 a y z⟩
  | t0 :: ts, _, _, j + 1, t, h, e => by
    cases h with
    | cons h1 h2 h3 =>
      rename_i v0 vs fp fq
      obtain ⟨v, fj, q1, q2, q3, q4⟩ := OwA.focus (j := j) h2 (by simpa using e)
      refine ⟨v, fj, by simpa using q1, q2, fun a ha => List.mem_append_right _ (q3 a ha), fun H' t' fj' k o s => ?_⟩
      obtain ⟨fr, o2, m⟩ := q4 H' t' fj' (fun a ha hn => k a (List.mem_append_right _ ha) hn) o fun a ha hb => s a ha (List.mem_append_right _ hb)
      refine ⟨_, .cons (h1.keep (Same.refl _) fun a ha => ⟨k a (List.mem_append_left _ ha) fun z => h3 a ha (q3 a z), (h1.own a ha).1⟩) o2 fun a ha hb => ?_, fun a ha => ?_⟩
      · rcases m a hb with y | ⟨y, _⟩
        · exact h3 a ha (q3 a (s a y (List.mem_append_left _ ha)))
        · exact h3 a ha y
      · rcases List.mem_append.mp ha with z | z
        · exact .inr ⟨List.mem_append_left _ z, fun y => h3 a z (q3 a y)⟩
        · rcases m a z with y | ⟨y1, y2⟩
          · exact .inl y
          · exact .inr ⟨List.mem_append_right _ y1, y2⟩
/-- the things of an owned list -/
def kids : OT → Option (List OT)
  | .ls ts => some ts
  | .rt _ t => kids t
  | _ => none
def withK : OT → List OT → OT
  | .ls _, us => .ls us
  | .rt a t, us => .rt a (withK t us)
  | t, _ => t
@[simp] theorem kids_ls {ts : List OT} : kids (.ls ts) = some ts := rfl
@[simp] theorem kids_rt {a : Addr} {t : OT} : kids (.rt a t) = kids t := rfl
@[simp] theorem withK_ls {ts us : List OT} : withK (.ls ts) us = .ls us := rfl
@[simp] theorem withK_rt {a : Addr} {t : OT} {us : List OT} : withK (.rt a t) us = .rt a (withK t us) := rfl
theorem Ow.kids {Hs H : Hp} : ∀ {T : OT} {v : L2.V} {fp : List Addr} {ts : List OT}, Ow Hs H v T fp → QD.kids T = some ts → ∃ a vs fq, v = .ref a ∧ fp = a :: fq ∧ H a = some (.lst vs) ∧ Hs a = none ∧ OwA Hs H vs ts fq ∧ a ∉ fq ∧
    ∀ Hs' H' us ws fq', H' a = some (.lst ws) → Hs' a = none → OwA Hs' H' ws us fq' → a ∉ fq' → Ow Hs' H' (.ref a) (withK T us) (a :: fq')
  | .sh _, _, _, _, _, e => by cases e
  | .tp _, _, _, _, _, e => by cases e
  | .ls _, _, _, _, h, e => by
    cases e
    cases h with
    | ls h1 h2 h3 h4 => exact ⟨_, _, _, rfl, rfl, h1, h2, h3, h4, fun _ _ _ _ _ a b c d => .ls a b c d⟩
  | .rt _ _, _, _, _, h, e => by
    cases h with
    | rt h =>
      obtain ⟨a, vs, fq, e1, e2, h1, h2, h3, h4, k⟩ := Ow.kids h e
      cases e1
      exact ⟨_, vs, fq, rfl, e2, h1, h2, h3, h4, fun _ _ _ _ _ p q r s => .rt (k _ _ _ _ _ p q r s)⟩
/-- one thing replaced -/
theorem OwA.put {Hs H : Hp} : ∀ {ts : List OT} {vs : List L2.V} {fp : List Addr} (j : Nat) {v : L2.V} {t : OT} {fq : List Addr}, OwA Hs H vs ts fp → Ow Hs H v t fq → (∀ a ∈ fq, a ∉ fp) → ∃ fr, OwA Hs H (vs.set j v) (ts.set j t) fr ∧ ∀ a ∈ fr, a ∈ fp ∨ a ∈ fq
  | [], _, _, _, _, _, _, h, _, _ => by cases h; exact ⟨[], .nil, fun _ z => by cases z⟩
  | _ :: _, _, _, 0, _, _, fq, h, k, d => by
    cases h with
    | cons h1 h2 h3 =>
      exact ⟨_, .cons k h2 (fun a ha hb => d a ha (List.mem_append_right _ hb)), fun a ha => by
        rcases List.mem_append.mp ha with z | z
        · exact .inr z
        · exact .inl (List.mem_append_right _ z)⟩
  | _ :: _, _, _, j + 1, _, _, fq, h, k, d => by
    cases h with
    | cons h1 h2 h3 =>
      obtain ⟨fr, o, m⟩ := OwA.put j h2 k fun a ha z => d a ha (List.mem_append_right _ z)
      refine ⟨_, .cons h1 o (fun a ha hb => ?_), fun a ha => ?_⟩
      · rcases m a hb with z | z
        · exact h3 a ha z
        · exact d a z (List.mem_append_left _ ha)
      · rcases List.mem_append.mp ha with z | z
        · exact .inl (List.mem_append_left _ z)
        · rcases m a z with y | y
          · exact .inl (List.mem_append_right _ y)
          · exact .inr y
/-- a slot's list, its things changed: what is wanted goes on -/
theorem slot_ch {Hs0 H0 : Hp} {n0 n n' : Nat} {F : Nat → List Addr} {σ : L2.St} {Hs H Hs' H' : Hp} {ρ : DE} {i : Nat} {M : List Nat} {T : OT} {us : List OT} {a : Addr} {fp fp' fq : List Addr}
    (e : Ext n0 n Hs0 H0 Hs H) (g : G0 tabs n Hs H) (r : EnvR H0 Hs H σ ρ F) (e' : Ext n n' Hs H Hs' H') (hT : ρ[i]? = some (.ow T)) (hiM : i ∉ M) (hσ : σ[i]? = some (some (.ref a))) (hF : F i = a :: fp) (H2 : Hp)
    (hb : ∀ x, x ≠ a → x ∉ fp → H2 x = H' x)
    (fo : FpOk H F ρ M fq) (hfp' : ∀ x ∈ fp', x ∈ fp ∨ x ∈ fq) (ow : Ow Hs' H2 (.ref a) (withK T us) (a :: fp')) : EnvR H0 Hs' H2 σ ((wipeD ρ M).set i (.ow (withK T us))) (updF F i (a :: fp')) := by
  have r' := r.ext e'
  have h3 := (r.ow i T hT).2
  rw [hF] at h3
  have h0q := fp_new e r fo
  have apart : ∀ {j : Nat} {u : OT}, (wipeD ρ M)[j]? = some (.ow u) → ∀ x ∈ fq, x ∉ F j := fun hj => fp_apart r fo hj
  refine EnvR.mut (wipe_weak r' M) hσ ow (fun x hx => ?_) fun j u hj hu => ⟨fun x hx hxj => ?_, fun x hx => ?_⟩
  · rcases List.mem_cons.mp hx with rfl | z
    · exact h3 _ List.mem_cons_self
    · rcases hfp' x z with y | y
      · exact h3 x (List.mem_cons_of_mem _ y)
      · exact h0q x y
  · obtain ⟨hjM, hu'⟩ := wipe_ow hu
    rcases List.mem_cons.mp hx with rfl | z
    · exact r.sep j i u _ hj hu' hT _ hxj (by rw [hF]; exact List.mem_cons_self)
    · rcases hfp' x z with y | y
      · exact r.sep j i u _ hj hu' hT x hxj (by rw [hF]; exact List.mem_cons_of_mem _ y)
      · exact apart hu x y hxj
  · obtain ⟨hjM, hu'⟩ := wipe_ow hu
    refine hb x (fun z => ?_) fun z => ?_
    · exact r.sep j i u _ hj hu' hT x hx (by rw [hF, z]; exact List.mem_cons_self)
    · exact r.sep j i u _ hj hu' hT x hx (by rw [hF]; exact List.mem_cons_of_mem _ z)
theorem fq_out {H0 Hs H : Hp} {σ : L2.St} {ρ : DE} {F : Nat → List Addr} (r : EnvR H0 Hs H σ ρ F) {M : List Nat} {i : Nat} {T : OT} {a : Addr} {fp fq : List Addr} (hT : ρ[i]? = some (.ow T)) (hiM : i ∉ M) (hF : F i = a :: fp) (fo : FpOk H F ρ M fq) : ∀ x ∈ fq, x ≠ a ∧ x ∉ fp := fun x hx => by
  have hwi : (wipeD ρ M)[i]? = some (.ow T) := by rw [wipeD_get, if_neg hiM]; exact hT
  have q := fp_apart r fo hwi x hx
  rw [hF] at q
  exact ⟨fun z => q (z ▸ List.mem_cons_self), fun z => q (List.mem_cons_of_mem _ z)⟩
section
variable {st : Stmt} {e : Expr} {φ ψ : DE → W Dt} {Φ : DE → W OT} {i : Nat} {M : List Nat}
/-- x.append(e) -/
def wApp (i : Nat) (M : List Nat) (Φ : DE → W OT) (ρ : DE) : WS := fun P n => ∃ T ts, ρ[i]? = some (.ow T) ∧ kids T = some ts ∧ ts.length < 100000 ∧ i ∉ M ∧ wE (Φ ρ) ρ (fun t => wNext ((wipeD ρ M).set i (.ow (withK T (ts ++ [t]))))) P n
theorem s_app {K : PySem.W.Frag} (h : XO tabs Wx M X e Φ) (mk : ∀ te, PE X e te → PS X st (tDrop (tBM K "list" rAppend (tVar i) (tCons te tNil)))) : XS tabs Wx X st (wApp i M Φ) := by
  obtain ⟨t, p, q⟩ := h
  refine ⟨_, mk t p, fun Hs0 H0 n0 F σ Hs H n ρ P D e g r h f => ?_⟩
  obtain ⟨T, ts, hT, hk, hl, hiM, h⟩ := h
  obtain ⟨⟨v0, h1, h2⟩, h3⟩ := r.ow i _ hT
  obtain ⟨a, vs, fp, rfl, hF, k1, k2, k3, k4, kk⟩ := h2.kids hk
  refine ⟨_, h1, .inl ⟨rfl, vs, SqL.of k1⟩, q H0 F σ Hs H n ρ _ _ _ g r h (fun t n' v Hs' H' fq hd e' dd fo => ?_) (kx_of e g r f)⟩
  obtain ⟨m1, m2⟩ := own_keep e' k1 k2
  have out := fq_out r hT hiM hF fo
  obtain ⟨fr, q1, q2⟩ := OwA.snoc (k3.ext e') dd fun x hx => (out x hx).2
  have afr : a ∉ fr := fun z => by
    rcases (q2 a).mp z with y | y
    · exact k4 y
    · exact (out a y).1 rfl
  refine ⟨a, vs, v, rfl, rfl, m1, ?_, ?_⟩
  · rw [k3.len]
    exact Nat.lt_of_lt_of_le hl (by decide)
  · have ha0 : H0 a = none := h3 a (by rw [hF]; exact List.mem_cons_self)
    have es := (e.trans e').put ha0 m2 (o := .lst (vs ++ [v])) rfl
    refine f _ n' hd σ Hs' _ (updF F i (a :: fr)) es ((g.ext e').put m1 rfl m2 rfl) e'.ss ?_
    exact slot_ch e g r e' hT hiM h1 hF _ (fun x hx _ => upd_ne hx) fo (fun x hx => (q2 x).mp hx) (kk _ _ _ _ _ upd_same m2 (q1.keep (Same.refl _) fun x hx => ⟨upd_ne fun z => afr (z ▸ hx), (q1.own x hx).1⟩) afr)
/-- x[j] = e -/
def wPut (i : Nat) (φ : DE → W Dt) (M : List Nat) (Φ : DE → W OT) (ρ : DE) : WS := fun P n => ∃ T ts, ρ[i]? = some (.ow T) ∧ kids T = some ts ∧ i ∉ M ∧ wE (Φ ρ) ρ (fun t P n => wE (φ ρ) ρ (fun d P n => ∃ k j, d = .int k ∧ ixN ts.length k = some j ∧
  wNext ((wipeD ρ M).set i (.ow (withK T (ts.set j t)))) P n) P n) P n
theorem s_put {ej : Expr} (h : XO tabs Wx M X e Φ) (hj : XE tabs Wx X ej φ) (mk : ∀ te tj, PE X e te → PE X ej tj → PS X st (tAsg te (gSub (tVar i) tj rSetL))) : XS tabs Wx X st (wPut i φ M Φ) := by
  obtain ⟨t, p, q⟩ := h
  obtain ⟨tj, pj, qj⟩ := hj
  refine ⟨_, mk t tj p pj, fun Hs0 H0 n0 F σ Hs H n ρ P D e g r h f => ?_⟩
  obtain ⟨T, ts, hT, hk, hiM, h⟩ := h
  obtain ⟨⟨v0, h1, h2⟩, h3⟩ := r.ow i _ hT
  obtain ⟨a, vs, fp, rfl, hF, k1, k2, k3, k4, kk⟩ := h2.kids hk
  refine q H0 F σ Hs H n ρ _ _ _ g r h (fun t n1 v Hs1 H1 fq hd e1 dd fo => ?_) (kx_of e g r f)
  refine ⟨_, h1, qj H0 F σ Hs1 H1 n1 ρ _ _ _ (g.ext e1) (r.ext e1) hd (fun d n' u Hs' H' hd e2 du => ?_) (kx_of (e.trans e1) (g.ext e1) (r.ext e1) fun o n' ho => (f o n' ho).later e1.ss)⟩
  obtain ⟨k, j, rfl, hkj, hd⟩ := hd
  cases du
  have e' := e1.trans e2
  obtain ⟨m1, m2⟩ := own_keep e' k1 k2
  have out := fq_out r hT hiM hF fo
  obtain ⟨fr, q1, q2⟩ := OwA.put j (k3.ext e') (dd.ext e2) fun x hx => (out x hx).2
  have afr : a ∉ fr := fun z => by
    rcases q2 a z with y | y
    · exact k4 y
    · exact (out a y).1 rfl
  refine ⟨a, vs, k, j, rfl, rfl, m1, by rw [k3.len]; exact hkj, ?_⟩
  have ha0 : H0 a = none := h3 a (by rw [hF]; exact List.mem_cons_self)
  have es := (e.trans e').put ha0 m2 (o := .lst (vs.set j v)) rfl
  refine f _ n' hd σ Hs' _ (updF F i (a :: fr)) es ((g.ext e').put m1 rfl m2 rfl) e'.ss ?_
  exact slot_ch e g r e' hT hiM h1 hF _ (fun x hx _ => upd_ne hx) fo q2 (kk _ _ _ _ _ upd_same m2 (q1.keep (Same.refl _) fun x hx => ⟨upd_ne fun z => afr (z ▸ hx), (q1.own x hx).1⟩) afr)
/-- x[j].append(e) -/
def wApp1 (i : Nat) (φ : DE → W Dt) (M : List Nat) (Φ : DE → W OT) (ρ : DE) : WS := fun P n => ∃ T ts, ρ[i]? = some (.ow T) ∧ kids T = some ts ∧ i ∉ M ∧ wE (φ ρ) ρ (fun d P n => ∃ k j U us, d = .int k ∧ ixN ts.length k = some j ∧ ts[j]? = some U ∧ kids U = some us ∧ us.length < 100000 ∧
  wE (Φ ρ) ρ (fun t => wNext ((wipeD ρ M).set i (.ow (withK T (ts.set j (withK U (us ++ [t]))))))) P n) P n
theorem s_app1 {K : PySem.W.Frag} {ej : Expr} (hj : XE tabs Wx X ej φ) (h : XO tabs Wx M X e Φ) (mk : ∀ tj te, PE X ej tj → PE X e te → PS X st (tDrop (tBM K "list" rAppend (tOp (rIx X.K) (tVar i) tj) (tCons te tNil)))) : XS tabs Wx X st (wApp1 i φ M Φ) := by
  obtain ⟨tj, pj, qj⟩ := hj
  obtain ⟨t, p, q⟩ := h
  refine ⟨_, mk tj t pj p, fun Hs0 H0 n0 F σ Hs H n ρ P D e g r h f => ?_⟩
  obtain ⟨T, ts, hT, hk, hiM, h⟩ := h
  obtain ⟨⟨v0, h1, h2⟩, h3⟩ := r.ow i _ hT
  obtain ⟨a, vs, fp, rfl, hF, k1, k2, k3, k4, kk⟩ := h2.kids hk
  refine ⟨_, h1, qj H0 F σ Hs H n ρ _ _ _ g r h (fun d n1 u Hs1 H1 hd e1 du => ?_) (kx_of e g r f)⟩
  obtain ⟨k, j, U, us, rfl, hkj, hju, hU, hl, hd⟩ := hd
  cases du
  obtain ⟨m1, m2⟩ := own_keep e1 k1 k2
  have k31 := k3.ext e1
  obtain ⟨w, fj, w1, w2, w3, w4⟩ := k31.focus hju
  obtain ⟨b, vsb, fb, rfl, rfl, b1, b2, b3, b4, bb⟩ := w2.kids hU
  refine .inl ⟨_, _, _, .ref b, rfl, rfl, SqL.of m1, ?_, .inl ⟨rfl, vsb, SqL.of b1⟩, q H0 F σ Hs1 H1 n1 ρ _ _ _ (g.ext e1) (r.ext e1) hd (fun t n' v Hs' H' fq hd e' dd fo => ?_) (kx_of (e.trans e1) (g.ext e1) (r.ext e1) fun o n' ho => (f o n' ho).later e1.ss)⟩
  · unfold atI
    rw [k3.len, hkj]
    exact w1
  have e1' := e1.trans e'
  obtain ⟨c1, c2⟩ := own_keep e' b1 b2
  obtain ⟨a1, a2⟩ := own_keep e' m1 m2
  have fo0 : FpOk H F ρ M fq := fun x hx => (fo x hx).imp (fun z => e1.free z) id
  have out := fq_out r hT hiM hF fo0
  obtain ⟨w', fj2, y1, y2, y3, y4⟩ := (k31.ext e').focus hju
  rw [w1] at y1
  cases y1
  obtain ⟨b', vsb', fb2, hb', rfl, d1, d2, d3, d4, dk⟩ := y2.kids hU
  cases hb'
  rw [c1] at d1
  cases d1
  have bp : b ∈ fp := y3 b List.mem_cons_self
  have hab : a ≠ b := fun z => k4 (z ▸ bp)
  obtain ⟨fr, q1, q2⟩ := OwA.snoc d3 dd fun x hx z => (out x hx).2 (y3 x (List.mem_cons_of_mem _ z))
  have bfr : b ∉ fr := fun z => by
    rcases (q2 b).mp z with y | y
    · exact d4 y
    · exact (out b y).2 bp
  have on : Ow Hs' (upd H' b (.lst (vsb ++ [v]))) (.ref b) (withK U (us ++ [t])) (b :: fr) := dk _ _ _ _ _ upd_same c2 (q1.keep (Same.refl _) fun x hx => ⟨upd_ne fun z => bfr (z ▸ hx), (q1.own x hx).1⟩) bfr
  obtain ⟨fp', o2, m⟩ := y4 (upd H' b (.lst (vsb ++ [v]))) _ _ (fun x hx hn => upd_ne fun z => hn (z ▸ List.mem_cons_self)) on fun x hx hxp => by
    rcases List.mem_cons.mp hx with rfl | z
    · exact List.mem_cons_self
    · rcases (q2 x).mp z with y | y
      · exact List.mem_cons_of_mem _ y
      · exact absurd hxp (out x y).2
  have mem : ∀ x ∈ fp', x ∈ fp ∨ x ∈ fq := fun x hx => by
    rcases m x hx with y | y
    · rcases List.mem_cons.mp y with rfl | z
      · exact .inl bp
      · rcases (q2 x).mp z with y | y
        · exact .inl (y3 x (List.mem_cons_of_mem _ y))
        · exact .inr y
    · exact .inl y.1
  have afp : a ∉ fp' := fun z => by
    rcases mem a z with y | y
    · exact k4 y
    · exact (out a y).1 rfl
  refine ⟨b, vsb, v, rfl, rfl, c1, ?_, ?_⟩
  · rw [b3.len]
    exact Nat.lt_of_lt_of_le hl (by decide)
  · have hb0 : H0 b = none := h3 b (by rw [hF]; exact List.mem_cons_of_mem _ bp)
    have es := (e.trans e1').put hb0 c2 (o := .lst (vsb ++ [v])) rfl
    refine f _ n' hd σ Hs' _ (updF F i (a :: fp')) es ((g.ext e1').put c1 rfl c2 rfl) e1'.ss ?_
    exact slot_ch e g r e1' hT hiM h1 hF _ (fun x _ hx => upd_ne fun z => hx (z ▸ bp)) fo0 mem (kk _ _ _ _ _ (by rw [upd_ne hab]; exact a1) a2 o2 afp)
/-- x[j][l] = e -/
def wPut1 (i : Nat) (φ ψ : DE → W Dt) (M : List Nat) (Φ : DE → W OT) (ρ : DE) : WS := fun P n => ∃ T ts, ρ[i]? = some (.ow T) ∧ kids T = some ts ∧ i ∉ M ∧ wE (Φ ρ) ρ (fun t P n => wE (φ ρ) ρ (fun d P n => ∃ k j U us, d = .int k ∧ ixN ts.length k = some j ∧ ts[j]? = some U ∧ kids U = some us ∧
  wE (ψ ρ) ρ (fun d2 P n => ∃ k2 j2, d2 = .int k2 ∧ ixN us.length k2 = some j2 ∧ wNext ((wipeD ρ M).set i (.ow (withK T (ts.set j (withK U (us.set j2 t)))))) P n) P n) P n) P n
theorem s_put1 {ej el : Expr} (h : XO tabs Wx M X e Φ) (hj : XE tabs Wx X ej φ) (hl : XE tabs Wx X el ψ) (mk : ∀ te tj tl, PE X e te → PE X ej tj → PE X el tl → PS X st (tAsg te (gSub (tOp (rIx X.K) (tVar i) tj) tl rSetL))) : XS tabs Wx X st (wPut1 i φ ψ M Φ) := by
  obtain ⟨t, p, q⟩ := h
  obtain ⟨tj, pj, qj⟩ := hj
  obtain ⟨tl, pl, ql⟩ := hl
  refine ⟨_, mk t tj tl p pj pl, fun Hs0 H0 n0 F σ Hs H n ρ P D e g r h f => ?_⟩
  obtain ⟨T, ts, hT, hk, hiM, h⟩ := h
  obtain ⟨⟨v0, h1, h2⟩, h3⟩ := r.ow i _ hT
  obtain ⟨a, vs, fp, rfl, hF, k1, k2, k3, k4, kk⟩ := h2.kids hk
  refine q H0 F σ Hs H n ρ _ _ _ g r h (fun t n1 v Hs1 H1 fq hd e1 dd fo => ?_) (kx_of e g r f)
  refine ⟨_, h1, qj H0 F σ Hs1 H1 n1 ρ _ _ _ (g.ext e1) (r.ext e1) hd (fun d n2 u Hs2 H2 hd e2 du => ?_) (kx_of (e.trans e1) (g.ext e1) (r.ext e1) fun o n' ho => (f o n' ho).later e1.ss)⟩
  obtain ⟨k, j, U, us, rfl, hkj, hju, hU, hd⟩ := hd
  cases du
  have e12 := e1.trans e2
  obtain ⟨m1, m2⟩ := own_keep e12 k1 k2
  have k31 := k3.ext e12
  obtain ⟨w, fj, w1, w2, w3, w4⟩ := k31.focus hju
  obtain ⟨b, vsb, fb, rfl, rfl, b1, b2, b3, b4, bb⟩ := w2.kids hU
  refine .inl ⟨_, _, _, .ref b, rfl, rfl, SqL.of m1, ?_, ql H0 F σ Hs2 H2 n2 ρ _ _ _ (g.ext e12) (r.ext e12) hd (fun d2 n' u2 Hs' H' hd e3 du => ?_) (kx_of (e.trans e12) (g.ext e12) (r.ext e12) fun o n' ho => (f o n' ho).later e12.ss)⟩
  · unfold atI
    rw [k3.len, hkj]
    exact w1
  obtain ⟨kk2, j2, rfl, hkj2, hd⟩ := hd
  cases du
  have e' := e12.trans e3
  obtain ⟨c1, c2⟩ := own_keep e3 b1 b2
  obtain ⟨a1, a2⟩ := own_keep e3 m1 m2
  have out := fq_out r hT hiM hF fo
  obtain ⟨w', fj2, y1, y2, y3, y4⟩ := (k31.ext e3).focus hju
  rw [w1] at y1
  cases y1
  obtain ⟨b', vsb', fb2, hb', rfl, d1, d2, d3, d4, dk⟩ := y2.kids hU
  cases hb'
  rw [c1] at d1
  cases d1
  have bp : b ∈ fp := y3 b List.mem_cons_self
  have hab : a ≠ b := fun z => k4 (z ▸ bp)
  obtain ⟨fr, q1, q2⟩ := OwA.put j2 d3 ((dd.ext e2).ext e3) fun x hx z => (out x hx).2 (y3 x (List.mem_cons_of_mem _ z))
  have bfr : b ∉ fr := fun z => by
    rcases q2 b z with y | y
    · exact d4 y
    · exact (out b y).2 bp
  have on : Ow Hs' (upd H' b (.lst (vsb.set j2 v))) (.ref b) (withK U (us.set j2 t)) (b :: fr) := dk _ _ _ _ _ upd_same c2 (q1.keep (Same.refl _) fun x hx => ⟨upd_ne fun z => bfr (z ▸ hx), (q1.own x hx).1⟩) bfr
  obtain ⟨fp', o2, m⟩ := y4 (upd H' b (.lst (vsb.set j2 v))) _ _ (fun x hx hn => upd_ne fun z => hn (z ▸ List.mem_cons_self)) on fun x hx hxp => by
    rcases List.mem_cons.mp hx with rfl | z
    · exact List.mem_cons_self
    · rcases q2 x z with y | y
      · exact List.mem_cons_of_mem _ y
      · exact absurd hxp (out x y).2
  have mem : ∀ x ∈ fp', x ∈ fp ∨ x ∈ fq := fun x hx => by
    rcases m x hx with y | y
    · rcases List.mem_cons.mp y with rfl | z
      · exact .inl bp
      · rcases q2 x z with y | y
        · exact .inl (y3 x (List.mem_cons_of_mem _ y))
        · exact .inr y
    · exact .inl y.1
  have afp : a ∉ fp' := fun z => by
    rcases mem a z with y | y
    · exact k4 y
    · exact (out a y).1 rfl
  refine ⟨b, vsb, kk2, j2, rfl, rfl, c1, by rw [b3.len]; exact hkj2, ?_⟩
  have hb0 : H0 b = none := h3 b (by rw [hF]; exact List.mem_cons_of_mem _ bp)
  have es := (e.trans e').put hb0 c2 (o := .lst (vsb.set j2 v)) rfl
  refine f _ n' hd σ Hs' _ (updF F i (a :: fp')) es ((g.ext e').put c1 rfl c2 rfl) e'.ss ?_
  exact slot_ch e g r e' hT hiM h1 hF _ (fun x _ hx => upd_ne fun z => hx (z ▸ bp)) fo mem (kk _ _ _ _ _ (by rw [upd_ne hab]; exact a1) a2 o2 afp)
end
end QD

set_option Elab.async false
set_option linter.all false
set_option maxRecDepth 100000
set_option maxHeartbeats 4000000
/-! Qj: parameters that are changed in place; draws as such a parameter. -/
namespace QD
open PySem PySem.Spec PyProof.Rows L2 GxR XG
variable {X : Cx} {tabs : Tb} {Wx : WX}
def delL (H : Hp) (fp : List Addr) : Hp := fun b => if b ∈ fp then none else H b
theorem delL_in {H : Hp} {fp : List Addr} {b : Addr} (h : b ∈ fp) : delL H fp b = none := if_pos h
theorem delL_out {H : Hp} {fp : List Addr} {b : Addr} (h : b ∉ fp) : delL H fp b = H b := if_neg h
theorem delL_some {H : Hp} {fp : List Addr} {b : Addr} {o : HO} (h : delL H fp b = some o) : b ∉ fp ∧ H b = some o := by
  by_cases m : b ∈ fp
  · rw [delL_in m] at h; cases h
  · rw [delL_out m] at h; exact ⟨m, h⟩
theorem Ext.lent {n : Nat} {Hs H : Hp} {fp : List Addr} (g : G0 tabs n Hs H) : Ext n n Hs (delL H fp) Hs H :=
  ⟨Nat.le_refl _, fun a o h => .inr (.inl (delL_some h).2), Same.refl _, g.sb, fun _ _ h _ => h, g.nt, g.nb⟩
theorem DxA.of_get {Hs : Hp} : ∀ {xs : List Dt} {vs : List L2.V}, vs.length = xs.length → (∀ (j : Nat) v x, vs[j]? = some v → xs[j]? = some x → Dx Hs v x) → DxA Hs vs xs
  | [], [], _, _ => .nil
  | _ :: _, _ :: _, h, k => .cons (k 0 _ _ rfl rfl) (DxA.of_get (by simpa using h) fun j v x a b => k (j + 1) v x (by simpa using a) (by simpa using b))
  | [], _ :: _, h, _ => by simp at h
  | _ :: _, [], h, _ => by simp at h
theorem startD_no {N : Nat} {xs : List Dt} {i : Nat} {t : OT} : ¬ (startD N xs)[i]? = some (.ow t) := fun h => by
  unfold startD at h
  by_cases hlt : i < xs.length
  · rw [List.getElem?_append_left (by simpa using hlt), List.getElem?_map] at h
    cases hq : xs[i]? with
    | none => rw [hq] at h; cases h
    | some x => rw [hq] at h; cases h
  · rw [List.getElem?_append_right (by simpa using hlt)] at h
    have := List.eq_of_mem_replicate (List.mem_of_getElem? h)
    cases this
/-- a wish of a result and of what a changed tree is then -/
abbrev WM := (OT → OT → Nat → Prop) → (Ex → OT → Nat → Prop) → Nat → Prop
def wDefM (N m i : Nat) (Δ : DE → WS) (t : OT) (xs : List Dt) : WM := fun P E k => xs.length = m ∧ ∀ a, Δ ((startD N xs).set i (.ow (.rt a t))) (fun o k' => match o with
  | .rt r ρ => ∃ t', ρ[i]? = some (.ow (.rt a t')) ∧ P r t' k'
  | .nx ρ => ∃ t', ρ[i]? = some (.ow (.rt a t')) ∧ P (.sh .none) t' k'
  | .xc e ρ => ∃ t', ρ[i]? = some (.ow (.rt a t')) ∧ E e t' k'
  | _ => False) k
/-- what a def promises whose i-th parameter is changed in place -/
def spM (tabs : Tb) (mg : Str → Option Value) (i : Nat) (F : OT → List Dt → WM) : Sp := fun vs H Q E => ∃ Hs n a t fp xs P PE, G0 tabs n Hs H ∧ vs.length = xs.length ∧ vs[i]? = some (.ref a) ∧ Ow Hs H (.ref a) t fp ∧
  (∀ (j : Nat) v x, j ≠ i → vs[j]? = some v → xs[j]? = some x → Dx Hs v x) ∧ F t xs P PE n ∧
  (∀ r t' n' v Hs' H' fr fp', P r t' n' → Ext n n' Hs (delL H fp) Hs' H' → Ow Hs' H' v r fr → Ow Hs' H' (.ref a) t' fp' → (∀ b ∈ fr, b ∉ fp') → (∀ b, b ∈ fr ∨ b ∈ fp' → delL H fp b = none) → Q v H') ∧
  (∀ e t' n' cls d Hs' H' fp', PE e t' n' → Ext n n' Hs (delL H fp) Hs' H' → DxE mg Hs' cls d e → Ow Hs' H' (.ref a) t' fp' → (∀ b ∈ fp', delL H fp b = none) → E cls d H')
theorem start_envM {N : List Str} {Hs H : Hp} {vs : List L2.V} {xs : List Dt} {i a : Nat} {t : OT} {fp : List Addr} (hl : vs.length = xs.length) (hi : vs[i]? = some (.ref a)) (ht : Ow Hs H (.ref a) t fp)
    (hd : ∀ (j : Nat) v x, j ≠ i → vs[j]? = some v → xs[j]? = some x → Dx Hs v x) : EnvR (delL H fp) Hs H (L2.start N vs) ((startD N.length xs).set i (.ow (.rt a t))) (updF (fun _ => []) i fp) := by
  have hlt : i < vs.length := by
    obtain ⟨q, _⟩ := List.getElem?_eq_some_iff.mp hi
    exact q
  have d0 : DxA Hs (vs.set i .non) (xs.set i .none) := DxA.of_get (by simpa using hl) fun j v x h1 h2 => by
    rcases set_get h1 with ⟨rfl, _, rfl⟩ | ⟨ne, h1⟩
    · rw [List.getElem?_set_self (by omega)] at h2
      cases h2
      exact .non
    · rw [List.getElem?_set_ne ne] at h2
      exact hd j v x (Ne.symm ne) h1 h2
  have r0 : EnvR H Hs H (L2.start N (vs.set i .non)) (startD N.length (xs.set i .none)) (fun _ => []) := start_env d0
  have r1 : EnvR (delL H fp) Hs H (L2.start N (vs.set i .non)) (startD N.length (xs.set i .none)) (fun _ => []) := ⟨r0.len, r0.d, fun j u h => (startD_no h).elim, fun j k u w _ h => (startD_no h).elim⟩
  have r2 := r1.setO (i := i) (.rt ht) (fun b hb => delL_in hb) fun j u _ h => (startD_no h).elim
  have e1 : (L2.start N (vs.set i .non)).set i (some (.ref a)) = L2.start N vs := by
    unfold L2.start
    rw [List.length_set, List.map_set, List.set_append_left _ _ (by simpa using hlt), List.set_set]
    congr 1
    apply List.ext_getElem?
    intro j
    by_cases e : i = j
    · subst e
      rw [List.getElem?_set_self (by simpa using hlt), List.getElem?_map, hi]
      rfl
    · rw [List.getElem?_set_ne e]
  have e2 : (startD N.length (xs.set i .none)).set i (.ow (.rt a t)) = (startD N.length xs).set i (.ow (.rt a t)) := by
    unfold startD
    rw [List.length_set, List.map_set, List.set_append_left _ _ (by simp; omega), List.set_append_left _ _ (by simp; omega), List.set_set]
  rw [e1, e2] at r2
  exact r2
section
variable {P : Program} {w : World} {K : PySem.W.Frag} {mg : Str → Option Value} {base : Heap}
theorem okM {x qual : Str} {st : Stmt} {f c : Addr} {fd : FuncData} {N ps : List Str} {k i : Nat} {Δ : DE → WS} (F : FunT K x qual st f fd c) (S : FnScope N ps (defScope st))
    (hb : ∀ (A : Around) (outer : List Env) (s : Shared) (H : Hp) (E : XK), Room k (A.deeper (envOfC qual (defScope st) s.heap.objs.size f (.ref c))) →
      Takes (cxOf (L2.CX P w) P w K mg base N qual (defScope st) f (.ref c) A outer s H E) (WD E) →
      PassesOwn (model P w) (A.deeper (envOfC qual (defScope st) s.heap.objs.size f (.ref c))) (envOfC qual (defScope st) s.heap.objs.size f (.ref c)) (cxOf (L2.CX P w) P w K mg base N qual (defScope st) f (.ref c) A outer s H E).xe →
      XSs tabs (WD E) (cxOf (L2.CX P w) P w K mg base N qual (defScope st) f (.ref c) A outer s H E) (defBody st) Δ) :
    FnOk P w K mg base (L2.CX P w) (k + 1) f fd ps (spM tabs mg i (wDefM N.length ps.length i Δ)) := by
  obtain ⟨oc, od, kV, doc, pm, an, ct, osl, rfl, lk, hcd⟩ := F.ex
  refine fn_of lk hcd S (fun vs H Q E h => ?_) fun A outer s H vs Q E hr h => ?_
  · obtain ⟨Hs, n, a, t, fp, xs, P', PE, _, h1, _, _, _, h2, _⟩ := h
    rw [h1]
    exact h2.1
  · obtain ⟨Hs, n, a, t, fp, xs, P', PE, g, h1, hi, ht, hd, h2, q, q2⟩ := h
    obtain ⟨tt, p, r⟩ := hb A outer s H E hr (takes_of rfl rfl rfl rfl) (passes_of (X := cxOf (L2.CX P w) P w K mg base N qual (defScope st) f (.ref c) A outer s H E) rfl)
    refine ⟨tt, p, r Hs (delL H fp) n _ _ Hs H n _ _ _ (Ext.lent g) g (start_envM h1 hi ht hd) (h2.2 a) fun o n' ho => ?_⟩
    cases o with
    | nx ρ =>
      obtain ⟨t', e, hp⟩ := ho
      intro σ Hs' H' F' x1 x2 x3 x4
      obtain ⟨⟨v, _, o1⟩, o2⟩ := x4.ow i _ e
      have vr : v = .ref a := by cases o1; rfl
      subst vr
      cases o1 with
      | rt o1 => exact q _ t' n' _ Hs' H' [] _ hp x1 (.sh .non) o1 (fun _ z => by cases z) fun b hb => hb.elim (fun z => by cases z) (o2 b)
    | rt u ρ =>
      obtain ⟨t', e, hp⟩ := ho
      intro v σ Hs' H' fr F' x1 x2 x3 x4 x5
      obtain ⟨⟨v', _, o1⟩, o2⟩ := x4.ow i _ e
      have x5' := x5 i _ e
      cases o1 with
      | rt o1 => exact q _ t' n' _ Hs' H' fr _ hp x1 x2 o1 x5' fun b hb => hb.elim (x3 b) (o2 b)
    | bk ρ => exact ho.elim
    | ct ρ => exact ho.elim
    | xc e ρ =>
      obtain ⟨t', e', hp⟩ := ho
      intro σ Hs' H' F' cls d x1 x2 x3 x4 dx
      obtain ⟨⟨v', _, o1⟩, o2⟩ := x4.ow i _ e'
      cases o1 with
      | rt o1 => exact q2 _ t' n' cls d Hs' H' _ hp x1 dx o1 o2
end

/-! ### draws -/
def drawT (x k : Int) (b : Bool) : OT := .ls [.sh (.int x), .sh (.int k), .sh (.bool b)]
theorem drawT_at {Hs H : Hp} {a : Addr} {x k : Int} {b : Bool} {fp : List Addr} (h : Ow Hs H (.ref a) (drawT x k b) fp) : H a = some (.lst [.int x, .int k, .bl b]) ∧ Hs a = none ∧ fp = [a] := by
  unfold drawT at h
  cases h with
  | ls h1 h2 h3 h4 =>
    cases h3 with
    | cons a1 b1 _ =>
      cases b1 with
      | cons a2 b2 _ =>
        cases b2 with
        | cons a3 b3 _ =>
          cases b3
          cases a1 with
          | sh a1 =>
            cases a2 with
            | sh a2 =>
              cases a3 with
              | sh a3 =>
                cases a1
                cases a2
                cases a3
                exact ⟨h1, h2, rfl⟩
theorem drawT_of {Hs H : Hp} {a : Addr} {x k : Int} {b : Bool} (h : H a = some (.lst [.int x, .int k, .bl b])) (hs : Hs a = none) : Ow Hs H (.ref a) (drawT x k b) [a] :=
  .ls (fp := [] ++ ([] ++ ([] ++ []))) h hs (.cons (.sh (.int x)) (.cons (.sh (.int k)) (.cons (.sh (.bl b)) .nil (fun _ z => by cases z)) (fun _ z => by cases z)) (fun _ z => by cases z)) (fun z => by cases z)
def DOk (n : Nat) (x k : Int) : Prop := 0 ≤ x ∧ 0 ≤ k ∧ k + n ≤ 1000000 ∧ x.natAbs.log2 < 100000
theorem G0.del {n : Nat} {Hs H : Hp} (g : G0 tabs n Hs H) (fp : List Addr) : G0 tabs n (delL Hs fp) H :=
  ⟨⟨fun a o h hm => g.sb.hold a o (delL_some h).2 hm, fun a o h hm => g.sb.drw a o (delL_some h).2 hm⟩, g.nt, g.tab, fun b ps h => g.nb b ps (delL_some h).2⟩
/-- behind a run that has changed draws -/
theorem Ext.drawn {n m : Nat} {Hs H Hs' H' : Hp} {a : Addr} {o : HO} (hm : m < n) (ho : Hs a = some o) (im : isMk o = true) (e : Ext n n (delL Hs [a]) (delL H [a]) Hs' H') (hd : DrawAt m (H' a)) (hs : Hs' a = none) : Ext n m Hs H (upd Hs' a o) H' := by
  have out : ∀ {b : Addr}, b ≠ a → b ∉ [a] := fun h z => h (List.mem_singleton.mp z)
  refine ⟨by omega, fun b u h => ?_, fun b u h => ?_, ⟨fun b u h im' => ?_, fun b u h im' => ?_⟩, fun b u h1 h2 => ?_, e.nt, fun b ps h => ?_⟩
  · by_cases hb : b = a
    · subst hb
      exact .inl ⟨by omega, o, ho, im⟩
    · rcases e.gr b u ((delL_out (out hb)).trans h) with ⟨z, _⟩ | z
      · exact absurd rfl z
      · exact .inr z
  · by_cases hb : b = a
    · subst hb
      rw [upd_same, ← ho]; exact h
    · rw [upd_ne hb]
      exact e.ss b u ((delL_out (out hb)).trans h)
  · by_cases hb : b = a
    · subst hb
      rw [upd_same] at h; cases h; rw [im] at im'; cases im'
    · rw [upd_ne hb] at h
      exact e.sb.hold b u h im'
  · by_cases hb : b = a
    · subst hb
      exact hd
    · rw [upd_ne hb] at h
      exact (e.sb.drw b u h im').le (by omega)
  · have hb : b ≠ a := fun z => by subst z; rw [ho] at h1; cases h1
    rw [upd_ne hb]
    exact e.fr b u ((delL_out (out hb)).trans h1) ((delL_out (out hb)).trans h2)
  · by_cases hb : b = a
    · subst hb
      rw [upd_same] at h; cases h; cases im
    · rw [upd_ne hb] at h
      exact e.nb b ps h
/-- a def that changes draws, a draw each call -/
def sDraw (F : OT → List Dt → WM) : List Dt → W OT := S1 fun d P _ n => d = drawD ∧ ∃ m, n = m + 1 ∧ ∀ x k b, DOk n x k → F (drawT x k b) [.none] (fun r t' n' => n' = n ∧ ∃ x' k' b' d', t' = drawT x' k' b' ∧ DOk m x' k' ∧ r = .sh d' ∧ atom d' = true ∧ P r m) (fun _ _ _ => False) n
section
variable {P : Program} {w : World} {K : PySem.W.Frag} {mg : Str → Option Value} {base : Heap}
theorem draw_of {f : Addr} {fd : FuncData} {ps : List Str} {k : Nat} {CX : CXT} {F : OT → List Dt → WM} (h : FnOk P w K mg base CX k f fd ps (spM tabs mg 0 F)) : FnOk P w K mg base CX k f fd ps (spW tabs mg (sDraw F)) :=
  h.imp fun vs H Q E ⟨Hs, n, xs, P', PE, g, hd, hF, q, q2⟩ => by
    unfold sDraw S1 at hF
    match xs, hd, hF with
    | [d], hd, hF =>
      obtain ⟨rfl, m, rfl, hF⟩ := hF
      cases hd with
      | cons h1 h2 =>
        cases h2
        cases h1 with
        | drw h1 im =>
          rename_i a o hh
          obtain ⟨x, kk, b, ha, hx, hk, hl, hz⟩ := g.sb.drw a o h1 im
          have hn : delL Hs [a] a = none := delL_in (List.mem_singleton.mpr rfl)
          refine ⟨delL Hs [a], m + 1, a, drawT x kk b, [a], [.none], _, _, g.del [a], rfl, rfl, drawT_of ha hn, fun j v x hj h1 h2 => ?_, hF x kk b ⟨hx, hk, hl, hz⟩, fun r t' n' v Hs' H' fr fp' hp e o1 o2 ap fr0 => ?_, fun _ _ _ _ _ _ _ _ z => z.elim⟩
          · cases j with
            | zero => exact absurd rfl hj
            | succ j => simp at h1
          · obtain ⟨rfl, x', k', b', d', rfl, ⟨c1, c2, c3, c4⟩, rfl, at', hp⟩ := hp
            obtain ⟨a1, a2, _⟩ := drawT_at o2
            cases o1 with
            | sh o1 => exact q _ m v _ H' [] hp (e.drawn (by omega) h1 im ⟨x', k', b', a1, c1, c2, by omega, c4⟩ a2) (.sh (atom_dx at' o1)) fun _ z => by cases z
    | [], _, hF => exact hF.elim
    | _ :: _ :: _, _, hF => exact hF.elim
/-- new draws are shared as such -/
theorem Ext.freezeD {n n' : Nat} {Hs0 H0 Hs H : Hp} {p : Addr} (e : Ext n n' Hs0 H0 Hs H) (h0 : H0 p = none) (hs : Hs p = none) (hd : DrawAt n' (H p)) : Ext n n' Hs0 H0 (upd Hs p mark) H := by
  refine ⟨e.le, e.gr, fun b u q => ?_, ⟨fun b u q hm => ?_, fun b u q hm => ?_⟩, fun b u q1 q2 => by rw [upd_ne (ne_of_none q2 h0)]; exact e.fr b u q1 q2, e.nt, fun b ps q => ?_⟩
  · have := e.ss b u q
    rw [upd_ne (ne_of_none this hs)]; exact this
  · by_cases hb : b = p
    · subst hb; rw [upd_same] at q; cases q; cases hm
    · rw [upd_ne hb] at q; exact e.sb.hold b u q hm
  · by_cases hb : b = p
    · subst hb; exact hd
    · rw [upd_ne hb] at q; exact e.sb.drw b u q hm
  · by_cases hb : b = p
    · subst hb; rw [upd_same] at q; cases q
    · rw [upd_ne hb] at q; exact e.nb b ps q
def sNewDraws (F : List Dt → W OT) : List Dt → W OT := fun xs P E n => F xs (fun t n' => ∃ x k b, t = drawT x k b ∧ DOk n' x k ∧ P (.sh drawD) n') E n
theorem newdraws_of {f : Addr} {fd : FuncData} {ps : List Str} {k : Nat} {CX : CXT} {F : List Dt → W OT} (h : FnOk P w K mg base CX k f fd ps (spW tabs mg F)) : FnOk P w K mg base CX k f fd ps (spW tabs mg (sNewDraws F)) :=
  h.imp fun vs H Q E ⟨Hs, n, xs, P', PE, g, hd, hF, q, q2⟩ => by
    refine ⟨Hs, n, xs, _, PE, g, hd, hF, fun t n' v Hs' H' fp hp e o fr => ?_, q2⟩
    obtain ⟨x, k, b, rfl, ⟨c1, c2, c3, c4⟩, hp⟩ := hp
    obtain ⟨a, rfl⟩ : ∃ a, v = .ref a := by unfold drawT at o; cases o; exact ⟨_, rfl⟩
    obtain ⟨a1, a2, rfl⟩ := drawT_at o
    exact q _ n' _ _ H' [] hp (e.freezeD (fr a (List.mem_singleton.mpr rfl)) a2 ⟨x, k, b, a1, c1, c2, c3, c4⟩) (.sh (.drw upd_same rfl)) fun _ z => by cases z
end
end QD

set_option Elab.async false
set_option linter.all false
set_option maxRecDepth 100000
set_option maxHeartbeats 4000000
/-! Qk: calls by keywords; where no text of an object is being made (guards); repr; sum of lists. -/
namespace QD
open PySem PySem.Spec PyProof.Rows L2 GxR XG
variable {X : Cx} {tabs : Tb} {Wx : WX}

/-! ### a promise where nothing is being written out -/
structure FnG (P : Program) (w : World) (K : PySem.W.Frag) (mg : Str → Option Value) (base : Heap) (cx : CXT) (k : Nat) (f : Addr) (fd : FuncData) (ps : List Str) (sp : Sp) : Prop where
  len : ∀ vs H Q E, sp vs H Q E → vs.length = ps.length
  run : ∀ (A : Around) (out : List Env) (s : Shared) (H : Hp) (ar : Args) (us : List Value) (vs : List L2.V) (Q : VK) (E : XK), A.guards = some [] → Room k A → Env0 P w K mg base A out s H →
    BindsTo s fd ar (ps.zip us) → Vals vs us → sp vs H Q E → codeAny (model P w) A (.call (.ref f) ar) (CR cx out P w H s Q E) s
section
variable {P : Program} {w : World} {K : PySem.W.Frag} {mg : Str → Option Value} {base : Heap} {cx : CXT} {k : Nat} {f : Addr} {fd : FuncData} {ps : List Str} {sp sp' : Sp}
theorem FnG.of (F : FnOk P w K mg base cx k f fd ps sp) : FnG P w K mg base cx k f fd ps sp := ⟨F.len, fun A out s H ar us vs Q E _ => F.run A out s H ar us vs Q E⟩
theorem FnG.imp (F : FnG P w K mg base cx k f fd ps sp) (h : ∀ vs H Q E, sp' vs H Q E → sp vs H Q E) : FnG P w K mg base cx k f fd ps sp' :=
  ⟨fun vs H Q E q => F.len vs H Q E (h _ _ _ _ q), fun A out s H ar us vs Q E hg hr he hb hv hs => F.run A out s H ar us vs Q E hg hr he hb hv (h _ _ _ _ hs)⟩
end
theorem fnG_of {cx : CXT} {P : Program} {w : World} {K : PySem.W.Frag} {mg : Str → Option Value} {base : Heap} {k : Nat} {f : Addr} {nm qual : Str} {params : Arguments} {body : List Stmt} {sc : Scope} {dV kV doc pm cdv ct oc : Value} {an od : Option Addr}
    {osl : Array (Option Value)} {N ps : List Str} {sp : Sp} (lk : K.lookup f = some ⟨oc, od, .func (PySem.W.fnOf nm qual params body sc dV kV doc pm an cdv ct), osl⟩) (hcd : PySem.W.codeIn K cdv qual = true) (S : FnScope N ps sc)
    (len : ∀ vs H Q E, sp vs H Q E → vs.length = ps.length)
    (hbody : ∀ (A : Around) (out : List Env) (s : Shared) (H : Hp) (vs : List L2.V) (Q : VK) (E : XK), A.guards = some [] → Room k (A.deeper (envOfC qual sc s.heap.objs.size f cdv)) → sp vs H Q E →
      ∃ t, PSs (cxOf cx P w K mg base N qual sc f cdv A out s H E) body t ∧ t { nx := fun _ H' => Q .non H', rt := Q } (L2.start N vs) H) :
    FnG P w K mg base cx (k + 1) f (PySem.W.fnOf nm qual params body sc dV kV doc pm an cdv ct) ps sp := by
  refine ⟨len, fun A out s H ar us vs Q E hg room at0 bnd rel want => ?_⟩
  have vl := len _ _ _ _ want
  have inK : K.In s.heap := at0.mod.kin.keeps fun b o e => (at0.bs b o e).1
  have noL : s.heap.NoLimit := at0.mod.nolimit.keeps fun b o e => (at0.bs b o e).1
  have kinds : ∀ y ∈ ps.zip us, sc.names.lookup y.1 = some .local ∨ (sc.names.lookup y.1 = some .cell ∧ ((cellsFrom (s.heap.objs.size + 1) sc.names []).lookup y.1).isSome = true) := by
    rintro ⟨n, v⟩ hy
    exact (S.par n (List.of_mem_zip hy).1).imp id fun q => ⟨q, PySem.W.cellsFrom_some _ _ _ (.inl q)⟩
  refine codeAny_call_function room.depth (inK _ _ lk) rfl S.co S.gen rfl (PySem.W.codeRec_of inK hcd) (bnd _ _ _ _ ?_)
  refine wpAny_newFunctionEnv_cells S.kind kinds fun env he s1 x => ?_
  subst he
  refine ⟨noL.keeps x.toInCall.keep, codeAny_func ?_⟩
  obtain ⟨t, ht, hq⟩ := hbody A out s H vs Q E hg (room.deeper _) want
  have inv : Inv (cxOf cx P w K mg base N qual sc f cdv A out s H E) [] (L2.start N vs) H s1 := inv_start S room.hd at0 vl rel x
  refine wpAny_mono (ht.run [] s1 (L2.start N vs) H _ inv hq) (fun fl s' hs => ?_) fun e s' hs => hs
  cases fl with
  | ret u =>
    obtain ⟨v, σ', H', J, rv, q⟩ := hs
    exact ⟨v, H', J.os, J.bare, J.base, J.hok, rv, q⟩
  | next =>
    obtain ⟨σ', H', J, q⟩ := hs
    exact ⟨.non, H', J.os, J.bare, J.base, J.hok, rfl, q⟩
  | brk =>
    obtain ⟨_, _, _, q⟩ := hs
    exact q.elim
  | cont =>
    obtain ⟨_, _, _, q⟩ := hs
    exact q.elim
section
variable {cx : CXT} {k : Nat} {f : Addr} {fd : FuncData} {ps : List Str} {sp : Sp} {E : L2.St → XK} {x : Str} {p pos : Pos} {e : Expr} {es : List Expr} {t : TA}
theorem codeG {pins : List (Addr × Obj)} {σ : L2.St} {H : Hp} {s : Shared} {Q : VK} {us : List Value} {kw : List (Str × Value)} {vs : List L2.V} {zs : List Value} (F : FnG X.prog X.w X.K X.mg X.base cx k f fd ps sp) (hg : X.A.guards = some []) (hr : Room k X.A)
    (b : BindsTo s fd ⟨us, kw⟩ (ps.zip zs)) (hx : PassesAt cx X σ (E σ)) (I : Inv X pins σ H s) (r : Vals vs zs) (h : sp vs H Q (E σ)) : wpAny (model X.prog X.w) X.A (call (.ref f) us kw) (EP X pins σ Q) X.xe s := by
  refine wpAny_call (codeAny_mono (F.run X.A X.stack s H ⟨us, kw⟩ zs vs Q (E σ) hg hr I.env0 b r h) fun res s' hq => ?_)
  match res, hq with
  | .error e, hq => exact hx pins H s e s' I hq
  | .ok (.ret u), hq => exact I.after hq
  | .ok .next, hq => exact hq.elim
  | .ok .brk, hq => exact hq.elim
  | .ok .cont, hq => exact hq.elim
theorem codeO {pins : List (Addr × Obj)} {σ : L2.St} {H : Hp} {s : Shared} {Q : VK} {us : List Value} {kw : List (Str × Value)} {vs : List L2.V} {zs : List Value} (F : FnOk X.prog X.w X.K X.mg X.base cx k f fd ps sp) (hr : Room k X.A)
    (b : BindsTo s fd ⟨us, kw⟩ (ps.zip zs)) (hx : PassesAt cx X σ (E σ)) (I : Inv X pins σ H s) (r : Vals vs zs) (h : sp vs H Q (E σ)) : wpAny (model X.prog X.w) X.A (call (.ref f) us kw) (EP X pins σ Q) X.xe s := by
  refine wpAny_call (codeAny_mono (F.run X.A X.stack s H ⟨us, kw⟩ zs vs Q (E σ) hr I.env0 b r h) fun res s' hq => ?_)
  match res, hq with
  | .error e, hq => exact hx pins H s e s' I hq
  | .ok (.ret u), hq => exact I.after hq
  | .ok .next, hq => exact hq.elim
  | .ok .brk, hq => exact hq.elim
  | .ok .cont, hq => exact hq.elim
/-- f(e, ..), where nothing is being written out -/
theorem pe_callG (F : FnG X.prog X.w X.K X.mg X.base cx k f fd ps sp) (hgd : X.A.guards = some []) (hr : Room k X.A) (hg : Gl X x) (hm : X.mg x = some (.ref f)) (hk : PySem.W.keepIn X.K (.ref f) = true) (hb : Binds X.K fd ps []) (hx : ∀ σ, PassesAt cx X σ (E σ))
    (ha : PA X (e :: es) t) (hdb : (x == ("__debug__" : Str)) = false := by decide) (he : starEach (e :: es) X.env = (false, eval e X.env) :: starEach es X.env := by rfl) (hpl : (backTo pos (starEach es X.env)).any (·.1) = false := by rfl) :
    PE X (.Call (.Name x p) (e :: es) [] pos) (tCallS sp E t) := by
  constructor
  intro pins s σ H Q I h
  refine wpAny_Call_Name_kw (ld_glob I hg hm ?_ hdb)
  refine PySem.W.callWith_K (h₀ := X.base) I.ok.mod.kin hk (thn (ha.run pos pins s σ H _ I h) fun us s1 ⟨vs, H1, I1, r, q⟩ => ⟨I1.kIn, ?_⟩) he hpl
  have hl : (us ++ []).length = ps.length := by rw [List.append_nil, ← r.length]; exact F.len _ _ _ _ q
  have b := hb s1 us I1.kIn hl
  rw [List.append_nil] at b
  exact codeG (kw := []) F hgd hr b (hx σ) I1 r q
/-- f(), no argument -/
theorem pe_callG0 (F : FnG X.prog X.w X.K X.mg X.base cx k f fd ps sp) (hgd : X.A.guards = some []) (hr : Room k X.A) (hg : Gl X x) (hm : X.mg x = some (.ref f)) (hk : PySem.W.keepIn X.K (.ref f) = true) (hb : Binds X.K fd ps []) (hx : ∀ σ, PassesAt cx X σ (E σ))
    (hdb : (x == ("__debug__" : Str)) = false := by decide) : PE X (.Call (.Name x p) [] [] pos) (tCallS sp E tNil) := by
  constructor
  intro pins s σ H Q I h
  refine wpAny_Call_Name_kw (ld_glob I hg hm ?_ hdb)
  have hl : (([] : List Value) ++ []).length = ps.length := by rw [List.append_nil]; exact F.len _ _ _ _ h
  exact PySem.W.callWith_K0 I.kIn hk (codeG (us := []) (kw := []) F hgd hr (hb s [] I.kIn hl) (hx σ) I .nil h)
end

/-! ### keywords -/
def pick {α : Type} (d : α) (perm : List Nat) (xs : List α) : List α := perm.map fun i => xs.getD i d
structure KB (K : PySem.W.Frag) (fd : FuncData) (ps : List Str) (n : Nat) (ks : List Str) (perm : List Nat) : Prop where
  to : ∀ (s : Shared) (us ws : List Value), K.In s.heap → us.length = n → ws.length = ks.length → BindsTo s fd ⟨us, ks.zip ws⟩ (ps.zip (pick Value.none perm (us ++ ws)))
theorem pick_vals {vs : List L2.V} {us : List Value} (r : Vals vs us) (perm : List Nat) : Vals (pick L2.V.non perm vs) (pick Value.none perm us) := by
  unfold pick
  induction perm with
  | nil => exact .nil
  | cons i perm ih =>
    refine .cons ?_ ih
    have key : ∀ {vs : List L2.V} {us : List Value}, Vals vs us → ∀ i : Nat, RelV (vs.getD i .non) (us.getD i .none) := fun {vs us} r => by
      induction r with
      | nil => intro i; exact rfl
      | cons h _ k =>
        intro i
        cases i with
        | zero => simpa using h
        | succ i => simpa using k i
    exact key r i
theorem pick_dx {H : Hp} {vs : List L2.V} {xs : List Dt} (r : DxA H vs xs) (perm : List Nat) : DxA H (pick L2.V.non perm vs) (pick PyData.none perm xs) := by
  unfold pick
  induction perm with
  | nil => exact .nil
  | cons i perm ih =>
    refine .cons ?_ ih
    dsimp only
    rw [List.getD_eq_getElem?_getD, List.getD_eq_getElem?_getD]
    cases h : xs[i]? with
    | none =>
      have : vs[i]? = none := by
        rw [List.getElem?_eq_none_iff] at h ⊢
        rw [r.len]; exact h
      rw [this]
      exact .non
    | some d =>
      obtain ⟨v, h1, h2⟩ := r.get h
      rw [h1]
      exact h2
theorem FunT.kb {K : PySem.W.Frag} {x qual : Str} {st : Stmt} {f c : Addr} {fd : FuncData} {ps ks : List Str} {n : Nat} {perm : List Nat} (F : FunT K x qual st f fd c)
    (h : ∀ (kV doc pm : Value) (an : Option Addr) (cdv ct : Value) (us ws : List Value), us.length = n → ws.length = ks.length → bindArgs (PySem.W.fnOf x qual (defArgs st) (defBody st) (defScope st) .none kV doc pm an cdv ct) ⟨us, ks.zip ws⟩ = pure (ps.zip (pick Value.none perm (us ++ ws)))) : KB K fd ps n ks perm := by
  obtain ⟨oc, od, kV, doc, pm, an, ct, osl, rfl, lk, hcd⟩ := F.ex
  exact ⟨fun s us ws _ h1 h2 => .of_eq (h kV doc pm an (.ref c) ct us ws h1 h2)⟩
def XKw (tabs : Tb) (Wx : WX) (X : Cx) (kws : List Keyword) (Φ : DE → W (List Dt)) : Prop := ∃ t, PK X kws t ∧ RdA tabs X.mg Wx t Φ
section
variable {nm : Option Str} {e : Expr} {kpos : Pos} {kws : List Keyword} {φ : DE → W Dt} {α β : DE → W (List Dt)} {es : List Expr}
theorem k_nil : XKw tabs Wx X [] (fun _ => W.ret []) := ⟨_, pk_nil, fun H0 F σ Hs H n ρ P E Q g0 r0 h q kx => q [] n [] Hs H h g0.refl .nil⟩
theorem k_cons (ha : XE tabs Wx X e φ) (hb : XKw tabs Wx X kws α) : XKw tabs Wx X (⟨nm, e, kpos⟩ :: kws) (wCons φ α) := by
  obtain ⟨ta, pa, qa⟩ := ha
  obtain ⟨tb, pb, qb⟩ := hb
  refine ⟨_, pk_cons pa pb, fun H0 F σ Hs H n ρ P E Q g0 r0 h q kx => ?_⟩
  refine qa H0 F σ Hs H n ρ _ E _ g0 r0 h (fun x n1 v Hs1 H1 h1 e1 d1 => ?_) kx
  refine qb H0 F σ Hs1 H1 n1 ρ _ E _ (g0.ext e1) (r0.ext e1) h1 (fun xs n2 vs Hs2 H2 h2 e2 d2 => ?_) (kx.later e1)
  exact q _ n2 _ Hs2 H2 h2 (e1.trans e2) (.cons (d1.mono e2.ss) d2)
def wCallK (F : List Dt → W OT) (n m : Nat) (perm : List Nat) (α β : DE → W (List Dt)) (ρ : DE) : W OT := W.bind (α ρ) fun xs => W.bind (β ρ) fun ys P E k => xs.length = n ∧ ys.length = m ∧ F (pick PyData.none perm (xs ++ ys)) P E k
def tCallKS (n m : Nat) (perm : List Nat) (sp : Sp) (E : L2.St → XK) (t tk : TA) : TE := fun σ H Q => t σ H fun vs H1 => tk σ H1 fun zs H2 => (vs.length = n ∧ zs.length = m) ∧ sp (pick L2.V.non perm (vs ++ zs)) H2 Q (E σ)
theorem o_callK {F : List Dt → W OT} {perm : List Nat} {n m : Nat} {e : Expr} (ha : XA tabs Wx X es α) (hb : XKw tabs Wx X kws β) (hl : ∀ t tk, PA X es t → PK X kws tk → PE X e (tCallKS n m perm (spW tabs X.mg F) (WE Wx) t tk)) : XO tabs Wx [] X e (wCallK F n m perm α β) := by
  obtain ⟨t, p, qa⟩ := ha
  obtain ⟨tk, pk, qb⟩ := hb
  refine ⟨_, hl t tk p pk, fun H0 F' σ Hs H n ρ P E Q g r h q kx => ?_⟩
  refine qa H0 F' σ Hs H n ρ _ E _ g r h (fun xs n1 vs Hs1 H1 h1 e1 d1 => ?_) kx
  refine qb H0 F' σ Hs1 H1 n1 ρ _ E _ (g.ext e1) (r.ext e1) h1 (fun ys n2 zs Hs2 H2 h2 e2 d2 => ?_) (kx.later e1)
  obtain ⟨l1, l2, h2⟩ := h2
  have e12 := e1.trans e2
  exact ⟨⟨by rw [d1.len]; exact l1, by rw [d2.len]; exact l2⟩, Hs2, n2, _, P, E, g.ext e12, pick_dx ((d1.mono e2.ss).app d2) perm, h2, fun t n3 v Hs3 H3 fp hp e3 d3 f3 => q t n3 v Hs3 H3 fp hp (e12.trans e3) d3 fun a ha => .inl (e12.free (f3 a ha)), fun x n3 cls d Hs3 H3 hp e3 dx => kx x n3 cls d Hs3 H3 hp (e12.trans e3) dx⟩
theorem o_callK0 {F : List Dt → W OT} {perm : List Nat} {m : Nat} {e : Expr} (hb : XKw tabs Wx X kws β) (hl : ∀ tk, PK X kws tk → PE X e (tCallKS 0 m perm (spW tabs X.mg F) (WE Wx) tNil tk)) : XO tabs Wx [] X e (wCallK F 0 m perm (fun _ => W.ret []) β) := by
  obtain ⟨tk, pk, qb⟩ := hb
  refine ⟨_, hl tk pk, fun H0 F' σ Hs H n ρ P E Q g r h q kx => ?_⟩
  refine qb H0 F' σ Hs H n ρ _ E _ g r h (fun ys n2 zs Hs2 H2 h2 e2 d2 => ?_) kx
  obtain ⟨l1, l2, h2⟩ := h2
  exact ⟨⟨rfl, by rw [d2.len]; exact l2⟩, Hs2, n2, _, P, E, g.ext e2, pick_dx (DxA.nil.app d2) perm, h2, fun t n3 v Hs3 H3 fp hp e3 d3 f3 => q t n3 v Hs3 H3 fp hp (e2.trans e3) d3 fun a ha => .inl (e2.free (f3 a ha)), fun x n3 cls d Hs3 H3 hp e3 dx => kx x n3 cls d Hs3 H3 hp (e2.trans e3) dx⟩
end
section
variable {cx : CXT} {k n : Nat} {f : Addr} {fd : FuncData} {ps ks : List Str} {perm : List Nat} {sp : Sp} {E : L2.St → XK} {x : Str} {p pos : Pos} {e : Expr} {es : List Expr} {kws : List Keyword} {t tk : TA}
/-- f(e, .., k = e, ..) -/
theorem pe_callKS (F : FnOk X.prog X.w X.K X.mg X.base cx k f fd ps sp) (hr : Room k X.A) (hg : Gl X x) (hm : X.mg x = some (.ref f)) (hk : PySem.W.keepIn X.K (.ref f) = true) (hb : KB X.K fd ps n ks perm) (hx : ∀ σ, PassesAt cx X σ (E σ))
    (ha : PA X (e :: es) t) (hkw : PK X kws tk) (hall : (backToKw pos (keywordEach kws X.env)).all (·.1.isSome) = true := by rfl) (hks : (backToKw pos (keywordEach kws X.env)).filterMap (·.1) = ks := by rfl)
    (hdb : (x == ("__debug__" : Str)) = false := by decide) (he : starEach (e :: es) X.env = (false, eval e X.env) :: starEach es X.env := by rfl)
    (hpl : ((backTo pos (starEach (e :: es) X.env)).any (·.1) || (backToKw pos (keywordEach kws X.env)).any (·.1.isNone)) = false := by rfl) :
    PE X (.Call (.Name x p) (e :: es) kws pos) (tCallKS n ks.length perm sp E t tk) := by
  constructor
  intro pins s σ H Q I h
  refine wpAny_Call_Name_kw (ld_glob I hg hm ?_ hdb)
  refine PySem.W.callWith_KW (h₀ := X.base) I.ok.mod.kin hk hall (thn (ha.run pos pins s σ H _ I h) fun us s1 ⟨vs, H1, I1, r, q⟩ => ?_) hpl he
  refine thn (hkw.run pos pins s1 σ H1 _ I1 q) fun ws s2 ⟨zs, H2, I2, rz, l, q2⟩ => ⟨I2.kIn, ?_⟩
  rw [hks]
  exact codeO F hr (hb.to s2 us ws I2.kIn (by rw [← r.length]; exact l.1) (by rw [← rz.length]; exact l.2)) (hx σ) I2 (pick_vals (r.append rz) perm) q2
/-- f(k = e, ..) -/
theorem pe_callKS0 (F : FnOk X.prog X.w X.K X.mg X.base cx k f fd ps sp) (hr : Room k X.A) (hg : Gl X x) (hm : X.mg x = some (.ref f)) (hk : PySem.W.keepIn X.K (.ref f) = true) (hb : KB X.K fd ps 0 ks perm) (hx : ∀ σ, PassesAt cx X σ (E σ))
    (hkw : PK X kws tk) (hall : (backToKw pos (keywordEach kws X.env)).all (·.1.isSome) = true := by rfl) (hks : (backToKw pos (keywordEach kws X.env)).filterMap (·.1) = ks := by rfl)
    (hdb : (x == ("__debug__" : Str)) = false := by decide) (hpl : ((backTo pos (starEach [] X.env)).any (·.1) || (backToKw pos (keywordEach kws X.env)).any (·.1.isNone)) = false := by rfl) :
    PE X (.Call (.Name x p) [] kws pos) (tCallKS 0 ks.length perm sp E tNil tk) := by
  constructor
  intro pins s σ H Q I h
  refine wpAny_Call_Name_kw (ld_glob I hg hm ?_ hdb)
  refine PySem.W.callWith_KW0 (h₀ := X.base) I.ok.mod.kin hk hall (thn (hkw.run pos pins s σ H _ I h) fun ws s2 ⟨zs, H2, I2, rz, l, q2⟩ => ⟨I2.kIn, ?_⟩) hpl
  rw [hks]
  exact codeO (us := []) F hr (hb.to s2 [] ws I2.kIn rfl (by rw [← rz.length]; exact l.2)) (hx σ) I2 (pick_vals (.append .nil rz) perm) q2
end
end QD

set_option Elab.async false
set_option linter.all false
set_option maxRecDepth 100000
set_option maxHeartbeats 4000000
/-! Ql: repr of lists and tuples; sum of a list of lists. -/
namespace QD
open PySem PySem.Spec PyProof.Rows L2 GxR XG
variable {X : Cx} {tabs : Tb} {Wx : WX}
mutual
def smallD : Dt → Bool
  | .none => true
  | .bool _ => true
  | .int i => decide (i.natAbs.log2 < 300)
  | .str _ => false
  | .list xs => smallA xs
  | .tuple xs => smallA xs
  | .dict _ => false
def smallA : List Dt → Bool
  | [] => true
  | x :: xs => smallD x && smallA xs
end
mutual
def nodes : Dt → Nat
  | .list xs => nodesA xs + 1
  | .tuple xs => nodesA xs + 1
  | .none => 1
  | .bool _ => 1
  | .int _ => 1
  | .str _ => 1
  | .dict _ => 1
def nodesA : List Dt → Nat
  | [] => 0
  | x :: xs => nodes x + nodesA xs
end
theorem listText_le (ts : List Str) : (listText ts).length ≤ piled ts + 2 := by
  unfold listText
  rw [strLen_append]
  cases ts with
  | nil => show (("[" : Str).length) + _ ≤ _; exact Nat.le_refl _
  | cons t r =>
    show (textFrom 1 (("[" : Str) ++ ("" : String) ++ t) r).length + _ ≤ _
    rw [textFrom_length_pos r 1 _ (by omega), strLen_append, strLen_append, piled_cons]
    show (1 + 0 + t.length + piled r) + 1 ≤ t.length + 2 + piled r + 2
    omega
theorem tupText_le (ts : List Str) : (tupleText ts).length ≤ piled ts + 3 := by
  unfold tupleText
  rw [strLen_append, strLen_append]
  have e : ((if (ts.length == 1) = true then (",)" : String) else ")" : String) : Str).length ≤ 2 := by
    by_cases h : (ts.length == 1) = true
    · rw [if_pos h]; exact Nat.le_refl _
    · rw [if_neg h]; exact Nat.le_succ _
  have e2 : ("(" : Str).length = 1 := rfl
  cases ts with
  | nil => show ("(" : Str).length + 0 + 1 ≤ _; rw [e2]; show 1 + 0 + 1 ≤ 0 + 3; omega
  | cons t r =>
    have := join_length_add (t :: r) (by simp)
    omega
mutual
theorem shown_len : ∀ d : Dt, smallD d = true → d.shown.length + 2 ≤ 310 * nodes d
  | .none, _ => by show (4 : Nat) + 2 ≤ 310 * 1; omega
  | .bool b, _ => by
    cases b
    · show (5 : Nat) + 2 ≤ 310 * 1; omega
    · show (4 : Nat) + 2 ≤ 310 * 1; omega
  | .int i, h => by
    have h' : i.natAbs.log2 < 300 := of_decide_eq_true h
    have e := int_text_length_le (k := 300) (by decide) h'
    show (Str.ofString (toString i)).length + 2 ≤ 310 * 1
    rw [PySem.ofString_length]; omega
  | .str _, h => by cases h
  | .list xs, h => by
    have e := shown_lenA xs (by simpa [smallD] using h)
    have e2 := listText_le (PyData.shownAll xs)
    show (listText (PyData.shownAll xs)).length + 2 ≤ 310 * (nodesA xs + 1)
    omega
  | .tuple xs, h => by
    have e := shown_lenA xs (by simpa [smallD] using h)
    have e2 := tupText_le (PyData.shownAll xs)
    show (tupleText (PyData.shownAll xs)).length + 2 ≤ 310 * (nodesA xs + 1)
    omega
  | .dict _, h => by cases h
theorem shown_lenA : ∀ xs : List Dt, smallA xs = true → piled (PyData.shownAll xs) ≤ 310 * nodesA xs
  | [], _ => Nat.zero_le _
  | x :: xs, h => by
    simp only [smallA, Bool.and_eq_true] at h
    have h1 := shown_len x h.1
    have h2 := shown_lenA xs h.2
    show piled (PyData.shown x :: PyData.shownAll xs) ≤ 310 * (nodes x + nodesA xs)
    rw [piled_cons]; omega
end
mutual
theorem small_show : ∀ d : Dt, smallD d = true → d.showable = true ∧ d.hasDict = false ∧ noDr d = true
  | .none, _ => ⟨rfl, rfl, rfl⟩
  | .bool _, _ => ⟨rfl, rfl, rfl⟩
  | .int i, h => ⟨by
    have h' : i.natAbs.log2 < 300 := of_decide_eq_true h
    show decide (i.natAbs.log2 < 1920) = true
    exact decide_eq_true (by omega), rfl, rfl⟩
  | .str _, h => by cases h
  | .list xs, h => small_showA xs (by simpa [smallD] using h)
  | .tuple xs, h => small_showA xs (by simpa [smallD] using h)
  | .dict _, h => by cases h
theorem small_showA : ∀ xs : List Dt, smallA xs = true → PyData.showableAll xs = true ∧ PyData.hasDictAll xs = false ∧ noDrA xs = true
  | [], _ => ⟨rfl, rfl, rfl⟩
  | x :: xs, h => by
    simp only [smallA, Bool.and_eq_true] at h
    obtain ⟨a, b, c⟩ := small_show x h.1
    obtain ⟨a', b', c'⟩ := small_showA xs h.2
    simp [PyData.showableAll, PyData.hasDictAll, noDrA, a, b, c, a', b', c']
end
def rRepr (K : PySem.W.Frag) : List L2.V → Hp → VK → Prop := fun vs H Q => ∃ v d, vs = [v] ∧ Dp K H v d ∧ isDisplay d = true ∧ smallD d = true ∧ nodes d ≤ 30000 ∧ d.depth ≤ 60 ∧ Q (.str d.shown) H
theorem cr_repr (hg : X.A.guards = some []) (hu : X.A.units + 64 < cLine) : CallR X (.builtin "repr") (rRepr X.K) := by
  intro pins s σ H xs us Q I r h
  obtain ⟨v, d, rfl, hd, hdis, hs, hn, hdep, q⟩ := h
  obtain ⟨u, rfl, ru⟩ := vals1 r
  obtain ⟨as, r1⟩ := Dp.reads I d v u hd ru
  obtain ⟨a, rfl⟩ := isRef_of_reads r1 hdis
  obtain ⟨s1, s2, _⟩ := small_show d hs
  have hl := shown_len d hs
  refine repr_of_reads' r1 s1 (PyData.noDict_hsm s2) hg (by omega) (fun _ _ e => e) (fun h' u tk hk => ⟨.str _, H, I.kept hk, ⟨_, rfl⟩, q⟩) (by rw [sizeLine_eq]; omega)
def fRepr : List Dt → Option Dt
  | [d] => if isDisplay d = true ∧ smallD d = true ∧ nodes d ≤ 30000 ∧ d.depth ≤ 60 then some (.str d.shown) else none
  | _ => none
theorem rc_repr {K : PySem.W.Frag} : RCD tabs (rRepr K) fRepr := fun n Hs H vs xs z Q g dx hz q => by
  unfold fRepr at hz
  split at hz
  · split at hz
    · rename_i d h
      cases hz
      cases dx with
      | cons h1 h2 =>
        cases h2
        obtain ⟨_, _, s3⟩ := small_show _ h.2.1
        exact ⟨_, _, rfl, h1.dp g.sb.hold s3, h.1, h.2.1, h.2.2.1, h.2.2.2, q _ Hs H g.refl (.str _)⟩
    · cases hz
  · cases hz

/-! ### sum(xs, []) of lists -/
def preC (c : Nat → List Value) : Nat → List Value
  | 0 => []
  | i + 1 => preC c i ++ c i
def isLs (h : Heap) (a : Addr) (its : List Value) : Prop := ∃ m, h.get? a = some { cls := .type "list", data := .seq its.toArray m }
theorem isLs.lst {h : Heap} {a : Addr} {its : List Value} (x : isLs h a its) : h.IsList a its.toArray := by
  obtain ⟨m, e⟩ := x
  exact ⟨_, e, rfl, m, rfl⟩
section
variable {prog : Program} {w : World} {A : Around} {E : Value → Shared → Prop} {R : Result → Shared → Prop} {I ax : Addr} {n : Nat}
theorem sum_loopC (hh : A.handled = none) (b : Nat → Addr) (c : Nat → List Value) (items : Array Value) (hn : items.size = n) (hval : ∀ i, i < n → items[i]? = some (.ref (b i))) (S : Addr) (hSI : S ≠ I) (hSa : S ≠ ax) (hIa : I ≠ ax)
    (hb : ∀ i, i < n → b i ≠ I ∧ b i ≠ S) (hz : ∀ i, i ≤ n → (preC c i).length ≤ sizeLine) (B : Nat) :
    ∀ (k i : Nat) (s : Shared) (T : Addr) (cS : Nat), n - i = k → i ≤ n → s.heap.IsListIter I ax i → s.heap.IsList ax items → s.heap.get? S = some { cls := .type "list", data := .seq #[.ref T] cS } → T ≠ I → T ≠ S → isLs s.heap T (preC c i) → (∀ j, j < n → isLs s.heap (b j) (c j)) →
    B ≤ s.heap.objs.size → (i ≠ 0 → B ≤ T) →
    (∀ h' tk T', (∀ x o, x ≠ I → x ≠ S → s.heap.get? x = some o → h'.get? x = some o) → isLs h' T' (preC c n) → (n ≠ 0 → B ≤ T') → (i = n → T' = T) → R (.ok (.ret (.ref T'))) { s with heap := h', toks := tk }) →
    codeAny (model prog w) A (.builtin "sum.loop" ⟨[.ref I, .ref S, rawInt 2, rawInt 0], []⟩) R s := by
  intro k
  induction k with
  | zero =>
    intro i s T cS hk hi hit hax hS hTI hTS hT hbs hB hTB hR
    have hin : i = n := by omega
    subst hin
    refine codeAny_builtin F.entry_sum_loop ?_
    rw [Around.under_plainId F.plain_sum_loop _]
    show wpAny _ A.in1 (seqItems? (.ref S) >>= _) _ _ s
    refine wpAny_bind (wpAny_seqItems hS rfl ?_)
    show wpAny _ A.in1 (tryCatch (pyNext (.ref I)) _ >>= _) _ _ s
    refine wpAny_bind (wpAny_tryCatch (wpAny_pyNext_list_end hh hit hax (by rw [Array.getElem?_eq_none_iff]; omega) fun h' hk' => ?_))
    refine wpAny_pure (hR h' s.toks T (fun x o hx _ e => hk' x o hx e) ?_ hTB fun _ => rfl)
    obtain ⟨m, e⟩ := hT
    exact ⟨m, hk' T _ hTI e⟩
  | succ k ih =>
    intro i s T cS hk hi hit hax hS hTI hTS hT hbs hB hTB hR
    have hlt : i < n := by omega
    refine codeAny_builtin F.entry_sum_loop ?_
    rw [Around.under_plainId F.plain_sum_loop _]
    show wpAny _ A.in1 (seqItems? (.ref S) >>= _) _ _ s
    refine wpAny_bind (wpAny_seqItems hS rfl ?_)
    show wpAny _ A.in1 (tryCatch (pyNext (.ref I)) _ >>= _) _ _ s
    refine wpAny_bind (wpAny_tryCatch (wpAny_pyNext_list_item hit hax (hval i hlt) fun h' hit' hs' => ?_))
    have hk' := hs'.extBut
    have hS' := hk' S _ hSI hS
    obtain ⟨mT, eT⟩ := hT
    have eT' := hk' T _ hTI eT
    obtain ⟨mb, eb⟩ := hbs i hlt
    have eb' := hk' (b i) _ (hb i hlt).1 eb
    show wpAny _ A.in1 ((holding [Value.ref (b i)] (binaryOp .Add (.ref T) (.ref (b i)))).attempt >>= _) _ _ _
    have hz' := hz (i + 1) hlt
    simp only [preC, List.length_append] at hz'
    refine wpAny_bind (wpAny_attempt (wpAny_holding (PySem.P.add_list eT' eb' ?_ (by rw [List.size_toArray, List.size_toArray]; exact hz'))))
    have eO : ∀ (o o' : Obj) (x : Addr), h'.get? x = some o' → (h'.push o).get? x = some o' := fun o o' x e => Heap.get?_push_of_some _ e
    have hsz : h'.objs.size = s.heap.objs.size := hs'.1
    show wpAny _ A.in1 (updateSeq S (fun _ => #[.ref h'.objs.size]) >>= _) _ _ _
    refine wpAny_bind ?_
    have hS2 := eO { cls := .type "list", data := .seq ((preC c i).toArray ++ (c i).toArray) } _ S hS'
    refine wpAny_updateSeq hS2 rfl ?_
    have hS3 := Heap.get?_update_self (Obj.mapSeq fun _ => #[Value.ref h'.objs.size]) hS2 rfl
    refine wpAny_bind (wpAny_letGo ?_)
    refine wpAny_bind ?_
    refine wpAny_updateSeq hS3 rfl (wpAny_pure ⟨plainId_quiet F.plain_sum_loop _, ?_⟩)
    have hS4 := Heap.get?_update_self (Obj.mapSeq fun _ => #[Value.ref h'.objs.size]) hS3 rfl
    have old : ∀ (x : Addr) (o : Obj), x ≠ S → (h'.push { cls := .type "list", data := .seq ((preC c i).toArray ++ (c i).toArray) }).get? x = some o → (((h'.push { cls := .type "list", data := .seq ((preC c i).toArray ++ (c i).toArray) }).update S (Obj.mapSeq fun _ => #[Value.ref h'.objs.size])).update S (Obj.mapSeq fun _ => #[Value.ref h'.objs.size])).get? x = some o := fun x o hx e =>
      (Heap.get?_update_other _ _ (Ne.symm hx)).trans ((Heap.get?_update_other _ _ (Ne.symm hx)).trans e)
    have sN : S ≠ h'.objs.size := Nat.ne_of_lt (Heap.lt_size hS')
    have eI : ∃ o, h'.get? I = some o := by obtain ⟨o, e, _⟩ := hit'; exact ⟨o, e⟩
    have iN : I ≠ h'.objs.size := by obtain ⟨o, e⟩ := eI; exact Nat.ne_of_lt (Heap.lt_size e)
    have szz : (((h'.push { cls := .type "list", data := .seq ((preC c i).toArray ++ (c i).toArray) }).update S (Obj.mapSeq fun _ => #[Value.ref h'.objs.size])).update S (Obj.mapSeq fun _ => #[Value.ref h'.objs.size])).objs.size = h'.objs.size + 1 := by
      rw [Heap.size_after_update, Heap.size_after_update, Heap.size_push]
    refine ih (i + 1) _ h'.objs.size _ (by omega) hlt (hit'.at fun o e => old _ _ (Ne.symm hSI) (eO _ _ _ e)) ((hax.extBut hk' (Ne.symm hIa)).at fun o e => old _ _ (Ne.symm hSa) (eO _ _ _ e)) hS4 (Ne.symm iN) (Ne.symm sN) ⟨0, old _ _ (Ne.symm sN) ?_⟩ (fun j hj => ?_) (by rw [szz]; omega) (fun _ => by omega) fun h'' tk'' T' hk'' hT' hn1 hn2 => ?_
    · have := Heap.get?_push_size h' (o := { cls := .type "list", data := .seq ((preC c i).toArray ++ (c i).toArray) }) rfl
      rw [this]
      simp [preC]
    · obtain ⟨m, e⟩ := hbs j hj
      exact ⟨m, old _ _ (hb j hj).2 (eO _ _ _ (hk' _ _ (hb j hj).1 e))⟩
    · exact hR h'' tk'' T' (fun x o hx1 hx2 e => hk'' x o hx1 hx2 (old _ _ hx2 (eO _ _ _ (hk' x o hx1 e)))) hT' hn1 (fun z => by omega)
theorem args_sum2 (a b : Value) : argsOk "sum" ⟨[a, b], []⟩ := by unfold argsOk; kernel_rfl
theorem call_sumC {s : Shared} {Q : Value → Shared → Prop} (hh : A.handled = none) {ax b0 : Addr} (b : Nat → Addr) (c : Nat → List Value) (items : List Value) (n : Nat) (hn : items.length = n) (h0 : 0 < n) (hval : ∀ i, i < n → items[i]? = some (.ref (b i))) (hax : isLs s.heap ax items) (hb0 : isLs s.heap b0 [])
    (hbs : ∀ j, j < n → isLs s.heap (b j) (c j)) (hz : ∀ i, i ≤ n → (preC c i).length ≤ sizeLine)
    (h : ∀ h' tk T', (∀ x o, s.heap.get? x = some o → h'.get? x = some o) → isLs h' T' (preC c n) → s.heap.objs.size ≤ T' → Q (.ref T') { s with heap := h', toks := tk }) :
    wpAny (model prog w) A (call (.builtin "sum") [.ref ax, .ref b0]) Q E s := by
  refine call_function_tree F.kind_sum F.plain_sum F.entry_sum (args_sum2 _ _) ?_
  unfold Builtin.«sum»
  simp only [List.length_cons, List.length_nil]
  rw [if_neg (by decide)]
  refine wpAny_bind (wpAny_of_eq (show Builtin.Builtins.bindParams "sum" ["start"] 0 ⟨[Value.ref b0], []⟩ = pure [some (.ref b0)] from rfl) ?_)
  refine wpAny_bind (wpAny_pyIter_list hax.lst ?_)
  refine wpAny_bind (wpAny_pure ?_)
  have lt : ∀ {x its}, isLs s.heap x its → x < s.heap.objs.size := fun ⟨_, e⟩ => Heap.lt_size e
  have tb : ({ s with heap := s.heap.push { cls := .type "list_iterator", data := .fields #[.ref ax, .int 0 0] } } : Shared).TypeIs (.ref b0) "list" := by
    obtain ⟨m, e⟩ := hb0
    exact ⟨_, Heap.get?_push_of_some _ e, rfl⟩
  have s1 : isSubtype (.type "list") (.type "str") = pure false := F.sub_list_str
  have s2 : isSubtype (.type "list") (.type "bytes") = pure false := by rw [isSubtype_type]; kernel_rfl
  have s3 : isSubtype (.type "list") (.type "bytearray") = pure false := by rw [isSubtype_type]; kernel_rfl
  simp only [List.forIn_cons, List.forIn_nil]
  refine wpAny_bind (wpAny_bind (wpAny_bind (wpAny_isInstance (T := "list") (b := false) tb s1 ?_)))
  simp only [Bool.false_eq_true, if_false]
  refine wpAny_pure (wpAny_bind (wpAny_bind (wpAny_isInstance (T := "list") (b := false) tb s2 ?_)))
  simp only [Bool.false_eq_true, if_false]
  refine wpAny_pure (wpAny_bind (wpAny_bind (wpAny_isInstance (T := "list") (b := false) tb s3 ?_)))
  simp only [Bool.false_eq_true, if_false]
  refine wpAny_pure (wpAny_pure ?_)
  refine wpAny_bind (wpAny_newObj_type ?_)
  have e1 : ∀ {x : Addr} {o : Obj} {o1 o2 : Obj}, s.heap.get? x = some o → ((s.heap.push o1).push o2).get? x = some o := fun e => Heap.get?_push_of_some _ (Heap.get?_push_of_some _ e)
  have up : ∀ {x its}, isLs s.heap x its → isLs ((s.heap.push { cls := .type "list_iterator", data := .fields #[.ref ax, .int 0 0] }).push { cls := .type "list", data := .seq #[Value.ref b0] }) x its := fun ⟨m, e⟩ => ⟨m, e1 e⟩
  have sz1 : (s.heap.push { cls := .type "list_iterator", data := .fields #[.ref ax, .int 0 0] }).objs.size = s.heap.objs.size + 1 := Heap.size_push _ _
  have szn : ∀ {x : Addr}, x < s.heap.objs.size → x ≠ (s.heap.push { cls := .type "list_iterator", data := .fields #[.ref ax, .int 0 0] }).objs.size := fun h => by
    rw [sz1]; exact Nat.ne_of_lt (Nat.lt_succ_of_lt h)
  refine wpAny_pure ⟨plainId_quiet F.plain_sum_loop _, sum_loopC (I := s.heap.objs.size) (ax := ax) hh b c items.toArray (by rw [List.size_toArray]; exact hn) (fun i hi => by rw [List.getElem?_toArray]; exact hval i hi) _
    (by show (s.heap.push _).objs.size ≠ _; rw [sz1]; exact Nat.ne_of_gt (Nat.lt_succ_self _)) (Ne.symm (szn (lt hax))) (Ne.symm (Nat.ne_of_lt (lt hax))) (fun i hi => ⟨Nat.ne_of_lt (lt (hbs i hi)), szn (lt (hbs i hi))⟩) hz s.heap.objs.size n 0 _ b0 0 rfl (Nat.zero_le _)
    ⟨_, Heap.get?_push_of_some _ (Heap.get?_push_size _ rfl), rfl, rfl⟩ (up hax).lst (Heap.get?_push_size _ rfl) (Nat.ne_of_lt (lt hb0)) (szn (lt hb0)) (up hb0) (fun j hj => up (hbs j hj)) (by show _ ≤ ((s.heap.push _).push _).objs.size; rw [Heap.size_push, sz1]; omega) (fun z => absurd rfl z) fun h' tk T' hk hT hB _ => ?_⟩
  exact h h' tk T' (fun x o e => hk x o (Nat.ne_of_lt (Heap.lt_size e)) (szn (Heap.lt_size e)) (e1 e)) hT (hB (by omega))
end
def rSumL : List L2.V → Hp → VK → Prop := fun vs H Q => ∃ (a b0 : Addr) (as : List Addr) (cs : List (List L2.V)), vs = [.ref a, .ref b0] ∧ H a = some (.lst (as.map .ref)) ∧ H b0 = some (.lst []) ∧ as.length = cs.length ∧ 0 < as.length ∧ (∀ (j : Nat) x c, as[j]? = some x → cs[j]? = some c → H x = some (.lst c)) ∧ cs.flatten.length ≤ 1000000 ∧
  ∀ p, H p = none → Q (.ref p) (upd H p (.lst cs.flatten))
theorem flat_take {α : Type} : ∀ (cs : List (List α)) (i : Nat), (cs.take i).flatten.length ≤ cs.flatten.length
  | [], i => by simp
  | c :: cs, 0 => by simp
  | c :: cs, i + 1 => by
    have := flat_take cs i
    simp only [List.take_succ_cons, List.flatten_cons, List.length_append]
    omega
theorem vals_refs {as : List Addr} {us : List Value} (r : Vals (as.map L2.V.ref) us) : us = as.map Value.ref := by
  induction as generalizing us with
  | nil => cases r; rfl
  | cons a as ih =>
    rw [List.map_cons] at r
    cases r with
    | cons r1 r2 =>
      cases r1
      rw [ih r2, List.map_cons]
theorem preC_flat (C : List (List Value)) : ∀ i, i ≤ C.length → preC (fun j => C.getD j []) i = (C.take i).flatten
  | 0, _ => by simp [preC]
  | i + 1, h => by
    have hi : i < C.length := h
    rw [preC, preC_flat C i (by omega), List.take_succ, List.getElem?_eq_getElem hi, List.flatten_append]
    simp [List.getD_eq_getElem?_getD, hi]
theorem vals_flat {cs : List (List L2.V)} {C : List (List Value)} (h : Paired Vals cs C) : Vals cs.flatten C.flatten := by
  induction h with
  | nil => exact .nil
  | cons a _ k => rw [List.flatten_cons, List.flatten_cons]; exact L2.Vals.append a k
theorem cr_sumL (hc : X.calm = true) : CallR X (.builtin "sum") rSumL := by
  intro pins s σ H vs us Q I r h
  obtain ⟨a, b0, as, cs, rfl, ha, hb, hl, h0, hj, hz, q⟩ := h
  obtain ⟨u1, u2, rfl, r1, r2⟩ := vals2 r
  cases r1
  cases r2
  obtain ⟨_, its, n, rv, _, e⟩ := I.lstM ha
  obtain ⟨_, its0, n0, rv0, _, e0⟩ := I.lstM hb
  have z0 : its0 = [] := by cases rv0; rfl
  subst z0
  have zi := vals_refs rv
  subst zi
  have ex : ∀ (cs : List (List L2.V)) (as : List Addr), as.length = cs.length → (∀ (j : Nat) x c, as[j]? = some x → cs[j]? = some c → H x = some (.lst c)) → ∃ C : List (List Value), Paired Vals cs C ∧ ∀ (j : Nat) x z, as[j]? = some x → C[j]? = some z → isLs s.heap x z := by
    intro cs
    induction cs with
    | nil => exact fun _ _ _ => ⟨[], .nil, fun j x z _ h => by simp at h⟩
    | cons c cs ih =>
      intro as hl hj
      cases as with
      | nil => simp at hl
      | cons x as =>
        obtain ⟨C, h1, h2⟩ := ih as (by simpa using hl) fun j y z p q => hj (j + 1) y z (by simpa using p) (by simpa using q)
        obtain ⟨_, iz, m, rz, _, ez⟩ := I.lstM (hj 0 x c rfl rfl)
        refine ⟨iz :: C, .cons rz h1, fun j y z p q => ?_⟩
        cases j with
        | zero => cases p; cases q; exact ⟨m, ez⟩
        | succ j => exact h2 j y z (by simpa using p) (by simpa using q)
  obtain ⟨C, hC, hCj⟩ := ex cs as hl hj
  have hlC : cs.length = C.length := Paired.length hC
  have vf := vals_flat hC
  have lf := vf.length
  have pz : preC (fun j => C.getD j []) as.length = C.flatten := by rw [preC_flat C _ (by omega), List.take_of_length_le (by omega)]
  refine call_sumC (I.ok.hd hc) (fun j => as.getD j 0) (fun j => C.getD j []) (as.map .ref) as.length (by simp) h0 (fun i hi => ?_) ⟨n, e⟩ ⟨n0, e0⟩ (fun j hj' => ?_) (fun i hi => ?_) fun h' tk T' hk hT hB => ?_
  · rw [List.getElem?_map, List.getElem?_eq_getElem hi]
    simp [List.getD_eq_getElem?_getD, hi]
  · have h1 : as[j]? = some (as.getD j 0) := by rw [List.getElem?_eq_getElem hj']; simp [List.getD_eq_getElem?_getD, hj']
    have h2 : C[j]? = some (C.getD j []) := by
      have : j < C.length := by omega
      rw [List.getElem?_eq_getElem this]; simp [List.getD_eq_getElem?_getD, this]
    exact hCj j _ _ h1 h2
  · rw [preC_flat C i (by omega)]
    have := flat_take C i
    rw [sizeLine_eq]; omega
  · rw [pz] at hT
    obtain ⟨m, eT⟩ := hT
    exact ⟨.ref T', _, I.laid (o := .lst cs.flatten) (t' := tk) hk hB ⟨by rw [sizeLine_eq]; omega, C.flatten, m, vf, eT⟩, rfl, q T' (I.hok.fresh hB)⟩
def dLs : List Dt → Option (List (List Dt))
  | [] => some []
  | .list xs :: r => (dLs r).map fun t => xs :: t
  | _ :: _ => none
theorem dLs_map (rs : List (List Dt)) : dLs (rs.map .list) = some rs := by
  induction rs with
  | nil => rfl
  | cons r rs ih => show (dLs (rs.map .list)).map _ = _; rw [ih]; rfl
def fSumL : List Dt → Option OT
  | [.list ds, .list []] => (dLs ds).bind fun rs => if rs ≠ [] ∧ rs.flatten.length ≤ 1000000 then some (.ls (rs.flatten.map .sh)) else none
  | _ => none
theorem dLs_dx {H : Hp} : ∀ {ds : List Dt} {rs : List (List Dt)} {vs : List L2.V}, dLs ds = some rs → DxA H vs ds → ∃ (as : List Addr) (cs : List (List L2.V)), vs = as.map .ref ∧ as.length = cs.length ∧ cs.length = rs.length ∧ (∀ (j : Nat) x c, as[j]? = some x → cs[j]? = some c → H x = some (.lst c)) ∧ DxA H cs.flatten rs.flatten
  | [], rs, _, h, d => by
    cases h
    cases d
    exact ⟨[], [], rfl, rfl, rfl, fun j x c h _ => by simp at h, .nil⟩
  | .list xs :: r, _, _, h, d => by
    obtain ⟨t, h1, rfl⟩ := om h
    cases d with
    | cons a b =>
      cases a with
      | lst a1 a2 =>
        rename_i a0 ys
        obtain ⟨as, cs, e1, e2, e3, e4, e5⟩ := dLs_dx h1 b
        subst e1
        refine ⟨a0 :: as, ys :: cs, rfl, by simp [e2], by simp [e3], fun j x c p q => ?_, ?_⟩
        · cases j with
          | zero => cases p; cases q; exact a1
          | succ j => exact e4 j x c (by simpa using p) (by simpa using q)
        · rw [List.flatten_cons, List.flatten_cons]
          exact a2.app e5
  | .none :: _, _, _, h, _ => by cases h
  | .bool _ :: _, _, _, h, _ => by cases h
  | .int _ :: _, _, _, h, _ => by cases h
  | .str _ :: _, _, _, h, _ => by cases h
  | .tuple _ :: _, _, _, h, _ => by cases h
  | .dict _ :: _, _, _, h, _ => by cases h
theorem rc_sumL : RCO tabs rSumL fSumL := fun n Hs H vs xs z Q g dx hz q => by
  unfold fSumL at hz
  split at hz
  · obtain ⟨rs, hr, hz⟩ := ob hz
    split at hz
    · rename_i hne
      cases hz
      cases dx with
      | cons h1 h2 =>
        cases h2 with
        | cons h3 h4 =>
          cases h4
          cases h1 with
          | lst a1 a2 =>
            cases h3 with
            | lst b1 b2 =>
              cases b2
              obtain ⟨as, cs, rfl, e2, e3, e4, e5⟩ := dLs_dx hr a2
              have hp : 0 < rs.length := List.length_pos_iff.mpr hne.1
              refine ⟨_, _, as, cs, rfl, g.sub _ _ a1, g.sub _ _ b1, e2, by omega, fun j x c p q => g.sub _ _ (e4 j x c p q), by rw [e5.len]; exact hne.2, fun p np => ?_⟩
              exact retLO g np e5 q
    · cases hz
  · cases hz
end QD

set_option Elab.async false
set_option linter.all false
set_option maxRecDepth 100000
set_option maxHeartbeats 4000000
/-! Qm: defs that write things out; the law's call. -/
namespace QD
open PySem PySem.Spec PyProof.Rows L2 GxR XG LamX
variable {X : Cx} {tabs : Tb} {Wx : WX}
section
variable {P : Program} {w : World} {K : PySem.W.Frag} {mg : Str → Option Value} {base : Heap}
theorem okG {x qual : Str} {st : Stmt} {f c : Addr} {fd : FuncData} {N ps : List Str} {k : Nat} {Δ : DE → WS} (F : FunT K x qual st f fd c) (S : FnScope N ps (defScope st))
    (hb : ∀ (A : Around) (outer : List Env) (s : Shared) (H : Hp) (E : XK), A.guards = some [] → Room k (A.deeper (envOfC qual (defScope st) s.heap.objs.size f (.ref c))) →
      Takes (cxOf (L2.CX P w) P w K mg base N qual (defScope st) f (.ref c) A outer s H E) (WD E) →
      PassesOwn (model P w) (A.deeper (envOfC qual (defScope st) s.heap.objs.size f (.ref c))) (envOfC qual (defScope st) s.heap.objs.size f (.ref c)) (cxOf (L2.CX P w) P w K mg base N qual (defScope st) f (.ref c) A outer s H E).xe →
      XSs tabs (WD E) (cxOf (L2.CX P w) P w K mg base N qual (defScope st) f (.ref c) A outer s H E) (defBody st) Δ) :
    FnG P w K mg base (L2.CX P w) (k + 1) f fd ps (spW tabs mg (wDef N.length ps.length Δ)) := by
  obtain ⟨oc, od, kV, doc, pm, an, ct, osl, rfl, lk, hcd⟩ := F.ex
  refine fnG_of lk hcd S (fun vs H Q E h => ?_) fun A outer s H vs Q E hg hr h => ?_
  · obtain ⟨Hs, n, xs, P', PE, _, h1, h2, _⟩ := h
    rw [h1.len]
    exact h2.1
  · obtain ⟨Hs, n, xs, P', PE, g, h1, h2, q, q2⟩ := h
    obtain ⟨t, p, r⟩ := hb A outer s H E hg hr (takes_of rfl rfl rfl rfl) (passes_of (X := cxOf (L2.CX P w) P w K mg base N qual (defScope st) f (.ref c) A outer s H E) rfl)
    refine ⟨t, p, r Hs H n _ _ Hs H n _ _ _ g.refl g (start_env h1) h2.2 fun o n' ho => ?_⟩
    cases o with
    | nx ρ => exact fun σ Hs' H' F a b c d => q _ n' _ Hs' H' [] ho a (.sh .non) fun _ z => by cases z
    | rt t ρ => exact fun v σ Hs' H' fp F a b c _ _ => q t n' v Hs' H' fp ho a b c
    | bk ρ => exact ho.elim
    | ct ρ => exact ho.elim
    | xc e ρ => exact fun σ Hs' H' F cls d a b c r' dx => q2 e n' cls d Hs' H' ho a dx
theorem impG {f : Addr} {fd : FuncData} {ps : List Str} {k : Nat} {cx : CXT} {F F' : List Dt → W OT} (h : FnG P w K mg base cx k f fd ps (spW tabs mg F)) (i : ∀ xs P E n, F' xs P E n → F xs P E n) : FnG P w K mg base cx k f fd ps (spW tabs mg F') :=
  h.imp fun vs H Q E ⟨Hs, n, xs, P', PE, g, h1, h2, q⟩ => ⟨Hs, n, xs, P', PE, g, h1, i _ _ _ _ h2, q⟩
end

/-! ### the script -/
def scrD (a : Addr) : Dt := .dict [(.int (a : Nat), .none)]
def wScr (t : Tb) (i : Nat) (β : DE → W (Option Int)) (ρ : DE) : W OT := fun P E n => t.on = true ∧ ρ[i]? = some (.d (scrD t.a)) ∧ β ρ (fun u n' => P (.ls ((cutD (t.ns.map .int) none u).map .sh)) n') E n
theorem o_cutScr {e : Expr} {hi : Option Expr} {β : DE → W (Option Int)} {i : Nat} {p2 pos : Pos} (hK : X.K = tabs.K) (h : PE X e (tVar i)) (hh : XSl tabs Wx X hi β) :
    XO tabs Wx [] X (.Subscript e (.Slice none hi none p2) pos) (wScr tabs i β) := by
  obtain ⟨th, ph, qh⟩ := hh
  refine ⟨_, pe_slice sl_list h po_none ph, fun H0 F σ Hs H n ρ P E Q g r hx k kx => ?_⟩
  obtain ⟨on, hρ, hx⟩ := hx
  obtain ⟨v, h1, h2⟩ := r.d i _ hρ
  obtain rfl : v = .ref tabs.a := by
    unfold scrD at h2
    generalize tabs.a = z at h2
    cases h2
    rfl
  have hS : ScrAt tabs.K H tabs.a (tabs.ns.map .int) := g.tab.2 on
  refine ⟨_, h1, qh H0 F σ Hs H n ρ _ E _ g r hx (fun u n' Hs' H' hp e1 => ?_) kx⟩
  have dI : DxA Hs' (tabs.ns.map L2.V.int) (tabs.ns.map .int) := DxA.ofInts _
  refine ⟨_, _, rfl, by rw [hK]; exact (e1.scr g.sb hS).sq, fun p np => ?_⟩
  exact retLO (g.ext e1) np (cut_dx dI) fun w Hs2 H2 fp e4 d4 f4 => k _ n' w Hs2 H2 fp hp (e1.trans e4) d4 fun a ha => .inl (e1.free (f4 a ha))

/-! ### the call of the law -/
section
variable {P : Program} {w : World} {K : PySem.W.Frag} {mg mb : Str → Option Value} {cx : CXT} {k : Nat} {fa a : Addr} {cs : List (Addr × Addr)} {fd : FuncData} {x : Str} {sp : Sp} {s₁ : Shared} {vs : List Value} {ns : List Int}
/-- the tables' places and, where it is no thing of the written part, the script -/
def lawH (K : PySem.W.Frag) (cs : List (Addr × Addr)) (a : Addr) (vs : List Value) (ns : List Int) : Hp := fun b =>
  if b ∈ cs.map (·.2) then some (.tbl #[]) else if b = a ∧ K.lookup a = none then some (.frz { cls := .type "list", data := .seq vs.toArray } (.lst (ns.map V.int))) else none
theorem lawH_tab {b : Addr} (h : b ∈ cs.map (·.2)) : lawH K cs a vs ns b = some (.tbl #[]) := if_pos h
theorem lawH_cases (b : Addr) : (b ∈ cs.map (·.2) ∧ lawH K cs a vs ns b = some (.tbl #[])) ∨ (b ∉ cs.map (·.2) ∧ b = a ∧ K.lookup a = none ∧ lawH K cs a vs ns b = some (.frz { cls := .type "list", data := .seq vs.toArray } (.lst (ns.map V.int)))) ∨
    (b ∉ cs.map (·.2) ∧ ¬ (b = a ∧ K.lookup a = none) ∧ lawH K cs a vs ns b = none) := by
  by_cases h : b ∈ cs.map (·.2)
  · exact .inl ⟨h, if_pos h⟩
  · by_cases h2 : b = a ∧ K.lookup a = none
    · exact .inr (.inl ⟨h, h2.1, h2.2, (if_neg h).trans (if_pos h2)⟩)
    · exact .inr (.inr ⟨h, h2, (if_neg h).trans (if_neg h2)⟩)
theorem law_callG
    (KX : K.In s₁.heap) (hns : s₁.heap.Ns mainGlobals mg) (hb : s₁.heap.Ns builtinsNs mb) (hbb : ∀ x : Str, x ≠ "__name__" → mb x = bootBuiltins x) (hlim : s₁.heap.NoLimit) (hg : s₁.gens = #[])
    (hT : ∀ p ∈ cs, s₁.heap.get? p.2 = some { cls := .none, data := .fields #[] }) (nT : ∀ p ∈ cs, K.lookup p.2 = none) (C : ∀ p ∈ cs, PySem.W.CodeHd s₁.heap p.1 p.2)
    (hbm : ∃ (bm : Addr) (ob : Obj), mg "__builtins__" = some (.ref bm) ∧ bm ≠ builtinsNs ∧ s₁.heap.get? bm = some ob ∧ ob.cls = .type "module" ∧ ob.dict = some builtinsNs ∧ ob.data = .plain)
    (ha : s₁.heap.get? a = some { cls := .type "list", data := .seq vs.toArray }) (hi : IntsAre vs ns) (hl : ns.length ≤ sizeLine) (hr : Room k callerA)
    (F : ∀ base : Heap, K.In base → base.Ns mainGlobals mg → (∀ p ∈ cs, GxR.TabB base mg p.1 p.2) → FnG P w K mg base cx k fa fd [x] sp) (hbind : ∀ (s : Shared) (u : Value), BindsTo s fd ⟨[u], []⟩ [(x, u)])
    (hsp : ∀ H : Hp, (∀ p ∈ cs, H p.2 = some (.tbl #[])) → NoT H → ScrAt K H a (ns.map V.int) → sp [.ref a] H (fun v _ => v = .bl true) fun _ _ _ => False)
    (hCX : ∀ H e s', cx [] H s₁ (fun _ _ _ => False) e s' → False) :
    codeAny (model P w) callerA (.call (.ref fa) ⟨[.ref a], []⟩) (fun r s' => r = .ok (.ret (.bool true)) ∧ OldK s₁.heap s'.heap ∧ s'.os = s₁.os ∧ AllBare s'.gens) s₁ := by
  have rv := vals_ints hi
  have lv := hi.length
  generalize hH : lawH K cs a vs ns = H
  have cas : ∀ b, (b ∈ cs.map (·.2) ∧ H b = some (.tbl #[])) ∨ (b ∉ cs.map (·.2) ∧ b = a ∧ K.lookup a = none ∧ H b = some (.frz { cls := .type "list", data := .seq vs.toArray } (.lst (ns.map V.int)))) ∨ (b ∉ cs.map (·.2) ∧ ¬ (b = a ∧ K.lookup a = none) ∧ H b = none) := fun b => by
    rw [← hH]; exact lawH_cases b
  have tabOf : ∀ b ∈ cs.map (·.2), ∃ p ∈ cs, p.2 = b ∧ s₁.heap.get? b = some { cls := .none, data := .fields #[] } := fun b h => by
    obtain ⟨p, hp, rfl⟩ := List.mem_map.mp h
    exact ⟨p, hp, rfl, hT p hp⟩
  have inT : ∀ p ∈ cs, p.2 ∈ cs.map (·.2) := fun p hp => List.mem_map.mpr ⟨p, hp, rfl⟩
  have tabH : ∀ p ∈ cs, H p.2 = some (.tbl #[]) := fun p hp => by rw [← hH]; exact lawH_tab (inT p hp)
  -- what isn't a table or a list isn't tracked
  have free : ∀ {b : Addr} {o : Obj}, s₁.heap.get? b = some o → (∀ us m, o.data ≠ .seq us m) → o.data ≠ .fields #[] → H b = none := fun {b o} e h1 h2 => by
    rcases cas b with ⟨hb, _⟩ | ⟨_, rfl, _, _⟩ | ⟨_, _, q⟩
    · obtain ⟨_, _, _, q⟩ := tabOf b hb
      rw [q] at e; cases e
      exact absurd rfl h2
    · rw [ha] at e; cases e
      exact absurd rfl (h1 _ _)
    · exact q
  have based : ∀ {b : Addr} {o : Obj}, s₁.heap.get? b = some o → H b = none → (hidT s₁.heap H).get? b = some o := fun e q => hidT_get e q
  have nsB : ∀ {b : Addr} {m : Str → Option Value}, s₁.heap.Ns b m → (hidT s₁.heap H).Ns b m := fun {b m} ⟨o, es, ep, e, d, r⟩ => ⟨o, es, ep, based e (free e (fun us m z => by rw [d] at z; cases z) fun z => by rw [d] at z; cases z), d, r⟩
  have inB : K.In (hidT s₁.heap H) := fun b o e => based (KX b o e) (by
    rcases cas b with ⟨hb, _⟩ | ⟨_, rfl, n, _⟩ | ⟨_, _, q⟩
    · obtain ⟨p, hp, rfl, _⟩ := tabOf b hb
      rw [nT p hp] at e; cases e
    · rw [n] at e; cases e
    · exact q)
  have okH : HOk P w H s₁.heap := fun b o q => by
    rcases cas b with ⟨hb, z⟩ | ⟨_, rfl, _, z⟩ | ⟨_, _, z⟩
    · rw [z] at q; cases q
      obtain ⟨_, _, _, e⟩ := tabOf b hb
      exact e
    · rw [z] at q; cases q
      exact ⟨ha, by rw [List.length_map]; exact hl, vs, _, rv, ha⟩
    · rw [z] at q; cases q
  have seqA : ScrAt K H a (ns.map V.int) := by
    cases hk : K.lookup a with
    | some o =>
      have e := KX a o hk
      rw [ha] at e; cases e
      exact .inr ⟨_, vs.toArray, _, hk, rfl, rfl, rfl, by rw [List.size_toArray, lv]; exact hl, by simpa using rv⟩
    | none =>
      rcases cas a with ⟨hb, _⟩ | ⟨_, _, _, z⟩ | ⟨_, z, _⟩
      · obtain ⟨_, _, _, e⟩ := tabOf a hb
        rw [ha] at e
        have : Data.seq vs.toArray _ = Data.fields #[] := congrArg Obj.data (Option.some.inj e)
        cases this
      · exact .inl ⟨_, z⟩
      · exact absurd ⟨rfl, hk⟩ z
  have modB : L2.Mod K mg (hidT s₁.heap H) := ⟨inB, nsB hns, ⟨mb, nsB hb, hbb⟩, by obtain ⟨mc, h1, h2⟩ := hlim; exact ⟨mc, nsB h1, h2⟩⟩
  have tbB : ∀ p ∈ cs, GxR.TabB (hidT s₁.heap H) mg p.1 p.2 := fun p hp => by
    have hTp := hT p hp
    refine ⟨?_, ?_, fun z => ?_⟩
    · obtain ⟨o, us, file, tf, flags, tg, inF, text, tt, e1, r1, r2, r3, r⟩ := C p hp
      refine ⟨o, us, file, tf, flags, tg, inF, text, tt, based e1 (free e1 (fun us m z => ?_) fun z => ?_), r1, r2, r3, r⟩
      · rw [r2] at z; cases z
      · rw [r2] at z; cases z; simp at r3
    · obtain ⟨bm, ob, b1, b2, b3, b4, b5, b6⟩ := hbm
      refine ⟨bm, ob, b1, b2, fun q => ?_, fun q => ?_, based b3 (free b3 (fun us m z => ?_) fun z => ?_), b4, b5, b6⟩
      · obtain ⟨o, es, ep, e, hd, _⟩ := hns
        rw [q, e] at b3; cases b3
        rw [hd] at b6; cases b6
      · rw [q, hTp] at b3; cases b3; cases b6
      · rw [b6] at z; cases z
      · rw [b6] at z; cases z
    · obtain ⟨o, es, ep, e, hd, _⟩ := hns
      rw [z, hTp] at e; cases e; cases hd
  have at0 : Env0 P w K mg (hidT s₁.heap H) callerA [] s₁ H := ⟨rfl, modB, fun b o e => of_hidT e, Nat.le_of_eq (hidT_size _ _), trivial, fun b hb => (List.not_mem_nil (show b ∈ ([] : List Addr) from hb)).elim, okH, .of_eq hg⟩
  refine codeAny_mono ((F _ inB (nsB hns) tbB).run callerA [] s₁ H ⟨[.ref a], []⟩ [.ref a] [.ref a] _ _ rfl hr at0 (hbind s₁ (.ref a)) (.cons rfl .nil) (hsp H tabH (fun b o q => ?_) seqA)) fun r s' h => ?_
  · rcases cas b with ⟨_, z⟩ | ⟨_, _, _, z⟩ | ⟨_, _, z⟩
    · rw [z] at q; cases q; rfl
    · rw [z] at q; cases q; rfl
    · rw [z] at q; cases q
  match r, h with
  | .error e, h => exact (hCX H e s' h).elim
  | .ok .next, h => exact h.elim
  | .ok .brk, h => exact h.elim
  | .ok .cont, h => exact h.elim
  | .ok (.ret u), h =>
    obtain ⟨v, H', os, bare, un, hok', r', q⟩ := h
    have q' : v = .bl true := q
    subst q'
    obtain rfl : u = Value.bool true := r'
    have stay : ∀ b o, b ∉ cs.map (·.2) → s₁.heap.get? b = some o → s'.heap.get? b = some o := fun b o nb e => by
      rcases cas b with ⟨z, _⟩ | ⟨_, _, _, z⟩ | ⟨_, _, z⟩
      · exact absurd z nb
      · obtain ⟨e1, _⟩ := okH b _ z
        obtain ⟨e2, _⟩ := hok' b _ (un.frzs b _ _ z)
        rw [e] at e1; cases e1
        exact e2
      · exact un.keep b o e z (fun y => (List.not_mem_nil (show b ∈ ([] : List Addr) from y)).elim) (by simp)
    have grown : ∀ p ∈ cs, ∃ more : Array Value, s'.heap.get? p.2 = some { cls := .none, data := .fields more } := fun p hp => by
      obtain ⟨more, z⟩ := un.tbls p.2 #[] (tabH p hp)
      exact ⟨_, hok' p.2 _ z⟩
    refine ⟨rfl, ⟨fun b o e => ?_, fun b o e => ?_⟩, os, bare⟩
    · by_cases hb : b ∈ cs.map (·.2)
      · obtain ⟨p, hp, rfl⟩ := List.mem_map.mp hb
        obtain ⟨more, hm⟩ := grown p hp
        rw [hT p hp] at e; cases e
        exact .inr (.inl ⟨((C p hp).tab (hT p hp)).isCodeTable, rfl, #[], more, rfl, by rw [Array.empty_append]; exact hm⟩)
      · exact .inl (stay b o hb e)
    · by_cases hb : b ∈ cs.map (·.2)
      · obtain ⟨p, hp, rfl⟩ := List.mem_map.mp hb
        obtain ⟨more, hm⟩ := grown p hp
        exact ⟨_, hm⟩
      · exact ⟨o, stay b o hb e⟩
end
/-- what is known of the law's promise at the head's heap -/
def LawG (l : PySem.W.OpenLaw) (w : World) (K : PySem.W.Frag) (cx : CXT) (k n : Nat) (x : Str) (mg : Str → Option Value) (fa : Addr) (h : Heap) : Prop :=
  ∃ (fd : FuncData) (cs : List (Addr × Addr)) (sp : Sp), (∀ p ∈ cs, h.get? p.2 = some { cls := .none, data := .fields #[] }) ∧ (∀ p ∈ cs, K.lookup p.2 = none) ∧ (∀ p ∈ cs, PySem.W.CodeHd h p.1 p.2) ∧ (∀ (s : Shared) (u : Value), BindsTo s fd ⟨[u], []⟩ [(x, u)]) ∧
    (∀ (H : Hp) (a : Addr) (ns : List Int), ns.length ≤ n → (∀ z ∈ ns, Builtin.Int.intBits z ≤ 1048576) → (∀ p ∈ cs, H p.2 = some (.tbl #[])) → NoT H → ScrAt K H a (ns.map V.int) → sp [.ref a] H (fun v _ => v = .bl true) fun _ _ _ => False) ∧
    ∀ base : Heap, K.In base → base.Ns mainGlobals mg → (∀ p ∈ cs, GxR.TabB base mg p.1 p.2) → FnG l.prog w K mg base cx k fa fd [x] sp
theorem walk_ofG {l : PySem.W.OpenLaw} {n k : Nat} {q : Program} {loose : List Str} {XP : (Str → Option Value) → Heap → Prop} {YP : World → Heap → Prop} {d : DefRec} {K : Params → PySem.W.Frag} {cx : World → CXT} {x : Str}
    (hn : l.most = some n) (hn2 : n ≤ sizeLine) (hdf : d.params.defaults = []) (hr : Room k callerA) (hY : ∀ (w : World) (h : Heap), YP w h → (K w.params).In h)
    (F : ∀ (w : World) (mg : Str → Option Value) (fa : Addr) (h : Heap), YP w h → (K w.params).In h → h.Ns mainGlobals mg → mg d.name = some (.ref fa) → (∃ lo mean mb, Top q lo mean mg mb h) → LawG l w (K w.params) (cx w) k n x mg fa h)
    (hCX : ∀ (w : World) (H : Hp) (s : Shared) (e : Value) (s' : Shared), cx w [] H s (fun _ _ _ => False) e s' → False) :
    PySem.W.WalkO q loose XP YP l.row.toRowW d [] (fun f vs => PySem.call f vs) := by
  refine Att.attach_callB hn hdf fun w s₀ s₁ mg mb fa o pm cd doc a vs ns G Y ho hd hcd hmg hobj hints hlen hbits hg => ?_
  have KX := hY w _ Y
  obtain ⟨fd, cs, sp, hT, nT, C, hb, hsp, hF⟩ := F w mg fa _ Y KX G.T.g hmg ⟨_, _, _, G.T⟩
  exact law_callG KX G.T.g G.T.b G.T.builtins G.T.nolimit hg hT nT C G.T.bmain hobj hints (Nat.le_trans hlen hn2) hr hF hb (fun H hH hO hS => hsp H a ns hlen hbits hH hO hS) fun H e s' => hCX w H s₁ e s'
theorem tab_at {p : Program} {loose : List Str} {mean : ExcName → Option Value} {mg mb : Str → Option Value} {h : Heap} {K : PySem.W.Frag} {x : Str} {f c P : Addr} {oc e : Value} {od dd : Option Addr} {fd : FuncData} {osl sl : Array (Option Value)} {vs : Array Value} (T : Top p loose mean mg mb h) (X : K.In h)
    (a1 : PySem.W.nsIn K mainGlobals x = some (some (.ref f))) (l1 : K.lookup f = some ⟨oc, od, .func fd, osl⟩) (hc : fd.code = .ref c) (lc : K.lookup c = some ⟨e, dd, .fields vs, sl⟩) (hv : vs[11]? = some (.ref P)) (hr : ((recsOf p).any fun e => e.name == x) = true) :
    PySem.W.CodeHd h c P ∧ h.get? P = some { cls := .none, data := .fields #[] } := by
  obtain ⟨d, hd⟩ : ∃ d, (recsOf p).find? (fun e => e.name == x) = some d := by
    cases hq : (recsOf p).find? (fun e => e.name == x) with
    | some d => exact ⟨d, rfl⟩
    | none =>
      obtain ⟨d, hd, e⟩ := List.any_eq_true.mp hr
      exact absurd e (List.find?_eq_none.mp hq d hd)
  refine PySem.W.tab_of T X hd ?_
  unfold PySem.W.tabIn
  rw [a1]
  simp only [l1, hc, lc, hv]
theorem trivial_triples : TriplesOk (#[] : Array Value).toList := by first | trivial | exact .nil | simp [TriplesOk]
/-- the law's promise, whatever the script -/
def spLaw (ps : List Addr) (K : PySem.W.Frag) (mg : Str → Option Value) (F : Tb → List Dt → W OT) : Sp := fun vs H Q E => ∃ (a : Addr) (ns : List Int), spW ⟨ps, K, a, ns, true⟩ mg (F ⟨ps, K, a, ns, true⟩) vs H Q E
theorem fnG_law {P : Program} {w : World} {K : PySem.W.Frag} {mg : Str → Option Value} {base : Heap} {cx : CXT} {k : Nat} {f : Addr} {fd : FuncData} {names : List Str} {ps : List Addr} {F : Tb → List Dt → W OT}
    (h : ∀ a ns, FnG P w K mg base cx k f fd names (spW ⟨ps, K, a, ns, true⟩ mg (F ⟨ps, K, a, ns, true⟩))) : FnG P w K mg base cx k f fd names (spLaw ps K mg F) :=
  ⟨fun vs H Q E ⟨a, ns, q⟩ => (h a ns).len vs H Q E q, fun A out s H ar us vs Q E hg hr he hb hv ⟨a, ns, q⟩ => (h a ns).run A out s H ar us vs Q E hg hr he hb hv q⟩
theorem spLaw_start {ps : List Addr} {K : PySem.W.Frag} {mg : Str → Option Value} {F : Tb → List Dt → W OT} {H : Hp} {a : Addr} {ns : List Int} (hT : ∀ P ∈ ps, H P = some (.tbl #[])) (hN : NoT H) (hS : ScrAt K H a (ns.map V.int))
    (hF : ∀ Q : OT → Nat → Prop, (∀ n', Q (.sh (.bool true)) n') → F ⟨ps, K, a, ns, true⟩ [scrD a] Q (fun _ _ => False) 900000) : spLaw ps K mg F [.ref a] H (fun v _ => v = .bl true) fun _ _ _ => False := by
  refine ⟨a, ns, fun _ => none, 900000, [scrD a], fun t _ => t = .sh (.bool true), fun _ _ => False, ⟨⟨fun _ _ h => (by cases h), fun _ _ h => (by cases h)⟩, hN, ⟨fun P hP => ⟨#[], hT P hP, ?_⟩, fun _ => hS⟩, fun _ _ h => (by cases h)⟩, .cons .scr .nil, hF _ fun _ => rfl, fun t n' v Hs' H' fp ht _ o _ => ?_, fun _ _ _ _ _ _ z => z.elim⟩
  · exact trivial_triples
  · subst ht
    cases o with
    | sh o => cases o; rfl
end QD

set_option Elab.async false
set_option linter.all false
set_option maxRecDepth 100000
set_option maxHeartbeats 4000000
/-! Qn: more built-ins. -/
namespace QD
open PySem PySem.Spec PyProof.Rows L2 GxR XG LamX
variable {X : Cx} {tabs : Tb} {Wx : WX}
def fListO : List Dt → Option OT
  | [.list ds] => some (.ls (ds.map .sh))
  | [.tuple ds] => some (.ls (ds.map .sh))
  | _ => none
theorem rc_listO {K : PySem.W.Frag} : RCO tabs (fun xs H Q => ∃ p ys, xs = [.ref p] ∧ (SqL K H p ys ∨ SqT K H p ys) ∧ ∀ l, H l = none → Q (.ref l) (upd H l (.lst ys))) fListO := fun n Hs H vs xs z Q g dx hz q => by
  unfold fListO at hz
  split at hz
  · cases hz
    cases dx with
    | cons h1 h2 =>
      cases h2
      cases h1 with
      | lst h1 h2 =>
        refine ⟨_, _, rfl, .inl (SqL.of (g.sub _ _ h1)), fun p np => ?_⟩
        exact retLO g np h2 q
  · cases hz
    cases dx with
    | cons h1 h2 =>
      cases h2
      cases h1 with
      | tup h1 h2 =>
        refine ⟨_, _, rfl, .inr (SqT.of (g.sub _ _ h1)), fun p np => ?_⟩
        exact retLO g np h2 q
  · cases hz
theorem frz_read {mg : Str → Option Value} {t : TE} {Φ : DE → W OT} (qa : RdO tabs mg Wx [] t Φ) : RdE tabs mg Wx t (fun ρ => W.map OT.val (Φ ρ)) := fun H0 F σ Hs H n ρ P E Q g0 r0 h q kx => by
  refine qa H0 F σ Hs H n ρ _ E _ g0 r0 h (fun t n1 v Hs1 H1 fp h1 e1 d1 f1 => ?_) kx
  obtain ⟨Hs2, e2, s2, dd, _, _⟩ := d1.freeze e1 fun a ha => (f1 a ha).elim id fun ⟨_, z, _⟩ => by cases z
  exact q _ n1 v Hs2 H1 h1 e2 dd
theorem s_setFR {st : Stmt} {i : Nat} {te : TE} {Φ : DE → W OT} (p : PS X st (tAsg te (gName i))) (q : RdO tabs X.mg Wx [] te Φ) : XS tabs Wx X st (wSet i fun ρ => W.map OT.val (Φ ρ)) := ⟨_, p, rs_set (frz_read q)⟩

def S4 (F : Dt → Dt → Dt → Dt → W OT) (xs : List Dt) : W OT := match xs with | [a, b, c, d] => F a b c d | _ => W.no
theorem sp4 {F : Dt → Dt → Dt → Dt → W OT} {xs : List Dt} {P : OT → Nat → Prop} {E : Ex → Nat → Prop} {n : Nat} {R : Prop} (h : S4 F xs P E n) (k : ∀ a b c d, xs = [a, b, c, d] → F a b c d P E n → R) : R := by
  unfold S4 at h
  match xs, h, k with
  | [], h, _ => exact h.elim
  | [a], h, k => exact h.elim
  | [a, b], h, k => exact h.elim
  | [a, b, c], h, k => exact h.elim
  | [a, b, c, d], h, k => exact k a b c d rfl h
  | _ :: _ :: _ :: _ :: _ :: _, h, _ => exact h.elim
/-- two statements, by what holds between them -/
def wThenJ (Δ Δ' : DE → WS) (ρ : DE) : WS := fun P n => ∃ J : DE → Nat → Prop, Δ ρ (fun o n' => match o with
  | .nx ρ' => J ρ' n'
  | o => P o n') n ∧ ∀ ρ' n', J ρ' n' → Δ' ρ' P n'
theorem ss_consJ {st : Stmt} {sts : List Stmt} {Δ Δ' : DE → WS} (h1 : XS tabs Wx X st Δ) (h2 : XSs tabs Wx X sts Δ') : XSs tabs Wx X (st :: sts) (wThenJ Δ Δ') := by
  obtain ⟨t, p, q⟩ := h1
  obtain ⟨u, p2, q2⟩ := h2
  refine ⟨_, pss_cons p p2, fun Hs0 H0 n0 F σ Hs H n ρ P D e g r h f => ?_⟩
  obtain ⟨J, h1, h2⟩ := h
  refine q Hs0 H0 n0 F σ Hs H n ρ _ { D with nx := u D } e g r h1 fun o n' ho => ?_
  cases o with
  | nx ρ' => exact fun σ' Hs' H' F' e' g' s' r' => q2 Hs0 H0 n0 F' σ' Hs' H' n' ρ' P D e' g' r' (h2 ρ' n' ho) fun o2 n2 h2 => (f o2 n2 h2).later s'
  | rt d ρ => exact f _ _ ho
  | bk ρ => exact f _ _ ho
  | ct ρ => exact f _ _ ho
  | xc x ρ => exact f _ _ ho
/-! ### ==, != also of texts -/
def dEqX : Dt → Dt → Option Dt
  | .str a, .str b => some (.bool (decide (a = b)))
  | x, y => dEq x y
def dNeX : Dt → Dt → Option Dt
  | .str a, .str b => some (.bool (!decide (a = b)))
  | x, y => dNe x y
theorem op_eqX (hu : X.A.units + 64 < cLine) : OpR X (compareOp .Eq) (fun x y H Q => rEqD X.K x y H Q ∨ rEq x y H Q) := opOr (op_eqD hu) op_eq
theorem op_neX (hu : X.A.units + 64 < cLine) : OpR X (compareOp .NotEq) (fun x y H Q => rNeD X.K x y H Q ∨ rNe x y H Q) := opOr (op_neD hu) op_ne
theorem dec_strV (a b : Str) : decide (L2.V.str a = L2.V.str b) = decide (a = b) := decide_eq_decide.mpr ⟨fun h => L2.V.str.inj h, fun h => congrArg _ h⟩
theorem rd_eqX {K : PySem.W.Frag} : RD tabs (fun x y H Q => rEqD K x y H Q ∨ rEq x y H Q) dEqX := fun n Hs H v u x y z Q g dx dy hz q => by
  unfold dEqX at hz
  split at hz
  · cases hz
    cases dx
    cases dy
    refine .inr ⟨rfl, ?_⟩
    rw [dec_strV]
    exact q _ Hs H g.refl (.bl _)
  · exact .inl (rd_eq n Hs H v u _ _ z Q g dx dy hz q)
theorem rd_neX {K : PySem.W.Frag} : RD tabs (fun x y H Q => rNeD K x y H Q ∨ rNe x y H Q) dNeX := fun n Hs H v u x y z Q g dx dy hz q => by
  unfold dNeX at hz
  split at hz
  · cases hz
    cases dx
    cases dy
    refine .inr ⟨rfl, ?_⟩
    rw [dec_strV]
    exact q _ Hs H g.refl (.bl _)
  · exact .inl (rd_ne n Hs H v u _ _ z Q g dx dy hz q)
theorem e_eqS (s : Str) : dEqX (.str s) (.str s) = some (.bool true) := by simp [dEqX]
theorem e_neS (s : Str) : dNeX (.str s) (.str s) = some (.bool false) := by simp [dNeX]
/-! ### values of the operations -/
theorem lg {i : Int} {b : Nat} (h0 : 0 < b) (h : i.natAbs < 2 ^ b) : i.natAbs.log2 < b := PySem.Flt.log2_lt_of h0 h
theorem e_add {i j : Int} : dAdd (.int i) (.int j) = some (.int (i + j)) := rfl
theorem e_sub {i j : Int} : dSub (.int i) (.int j) = some (.int (i - j)) := rfl
theorem e_lt {i j : Int} : dLt (.int i) (.int j) = some (.bool (decide (i < j))) := rfl
theorem e_le {i j : Int} : dLe (.int i) (.int j) = some (.bool (decide (i ≤ j))) := rfl
theorem e_gt {i j : Int} : dGt (.int i) (.int j) = some (.bool (decide (j < i))) := rfl
theorem e_ge {i j : Int} : dGe (.int i) (.int j) = some (.bool (decide (j ≤ i))) := rfl
theorem e_neg {i : Int} : dNeg (.int i) = some (.int (-i)) := rfl
theorem e_int {i : Int} : fInt [.int i] = some (.int i) := rfl
theorem e_cat {a b : List Dt} (h : a.length + b.length ≤ 100000) : dAdd (.list a) (.list b) = some (.list (a ++ b)) := by
  simp only [dAdd]
  rw [if_pos (by omega)]
def midI (i : Int) : Prop := -(2 ^ 300) ≤ i ∧ i ≤ 2 ^ 300
theorem mid_log {i : Int} (h : midI i) : i.natAbs.log2 < 301 := by
  unfold midI at h
  refine lg (by decide) ?_
  have e : (2 : Nat) ^ 301 = 2 * ((2 : Int) ^ 300).toNat := by decide +kernel
  rw [e]
  have e0 : 0 < (2 : Int) ^ 300 := by decide +kernel
  generalize (2 : Int) ^ 300 = M at h e0
  omega
theorem e_mul {i j : Int} (hi : midI i) (hj : midI j) : dMul (.int i) (.int j) = some (.int (i * j)) := by
  have h1 := mid_log hi
  have h2 := mid_log hj
  simp only [dMul]
  rw [if_pos (by omega)]
theorem mul_bd {a b : Int} (A B : Int) (h1 : 0 ≤ a) (h2 : a ≤ A) (h3 : 0 ≤ b) (h4 : b ≤ B) : 0 ≤ a * b ∧ a * b ≤ A * B := ⟨Int.mul_nonneg h1 h3, Int.mul_le_mul h2 h4 h3 (by omega)⟩
theorem mid_of {i : Int} (h0 : -(10 ^ 80) ≤ i) (h1 : i ≤ 10 ^ 80) : midI i := by
  have e : (10 : Int) ^ 80 ≤ 2 ^ 300 := by decide +kernel
  unfold midI
  generalize (2 : Int) ^ 300 = M at e ⊢
  generalize (10 : Int) ^ 80 = N at *
  omega
theorem mid_s {i : Int} (h0 : -1000000000000000000000 ≤ i) (h1 : i ≤ 1000000000000000000000) : midI i := mid_of (by omega) (by omega)
theorem e_mod {i j : Int} (h : 0 < j) : dMod (.int i) (.int j) = some (.int (i % j)) := by
  simp only [dMod]
  rw [if_pos h]
theorem e_div {i j : Int} (h : 0 < j) (hj : midI j) : dDiv (.int i) (.int j) = some (.int (i / j)) := by
  have h1 := mid_log hj
  simp only [dDiv]
  rw [if_pos ⟨h, by omega⟩]
theorem e_pow {i j : Int} (h : CPowW i j) : dPow (.int i) (.int j) = some (.int (i ^ j.toNat)) := by
  simp only [dPow]
  rw [if_pos h]
theorem e_ix {ds : List Dt} {i : Int} {d : Dt} (h0 : 0 ≤ i) (h : ds[i.toNat]? = some d) : dIx (.list ds) (.int i) = some d := dIx_list h0 h
theorem e_rep {a : List Dt} {k : Int} (h : 0 ≤ k ∧ k ≤ 100000 ∧ a.length * k.toNat ≤ 100000) : dMul (.list a) (.int k) = some (.list (List.replicate k.toNat a).flatten) := by
  simp only [dMul]
  rw [if_pos h]
theorem ixN_of {n : Nat} {i : Int} (h0 : 0 ≤ i) (h1 : i < n) : ixN n i = some i.toNat := by
  unfold ixN
  rw [if_pos h0, if_pos h1]
theorem e_ix0 {a : Dt} {l : List Dt} : dIx (.list (a :: l)) (.int 0) = some a := dIx_list (by decide) rfl
theorem e_ix1 {a b : Dt} {l : List Dt} : dIx (.list (a :: b :: l)) (.int 1) = some b := dIx_list (by decide) rfl
theorem e_ix2 {a b c : Dt} {l : List Dt} : dIx (.list (a :: b :: c :: l)) (.int 2) = some c := dIx_list (by decide) rfl
theorem e_ix3 {a b c d : Dt} {l : List Dt} : dIx (.list (a :: b :: c :: d :: l)) (.int 3) = some d := dIx_list (by decide) rfl
theorem e_n30 : ixN 3 0 = some 0 := rfl
theorem e_n31 : ixN 3 1 = some 1 := rfl
theorem e_n20 : ixN 2 0 = some 0 := rfl
theorem e_n21 : ixN 2 1 = some 1 := rfl
theorem e_rng1 {j : Int} (h : 0 ≤ j ∧ j ≤ 1000000000) : kRng1 [.int j] = some (dRng 0 j.toNat) := by
  simp only [kRng1]
  rw [if_pos (by omega)]
theorem e_rng2 {i j : Int} (h : -1000000000 ≤ i ∧ i ≤ 1000000000) (h2 : -1000000000 ≤ j ∧ j ≤ 1000000000) : kRng2 [.int i, .int j] = some (dRng i (j - i).toNat) := by
  simp only [kRng2]
  rw [if_pos (by omega)]
theorem dRng_succ (lo : Int) (n : Nat) : dRng lo (n + 1) = .int lo :: dRng (lo + 1) n := by
  unfold dRng
  rw [List.range_succ_eq_map, List.map_cons, List.map_map]
  congr 1
  · simp
  · apply List.map_congr_left
    intro i _
    simp only [Function.comp]
    congr 1
    omega
theorem dRng_zero (lo : Int) : dRng lo 0 = [] := rfl
/-- the same walk, by what is told of the things -/
theorem wLoop_by {f : Dt → DE → WS} {ds : List Dt} {ρ : DE} {P : Out → Nat → Prop} {n : Nat} (I : List Dt → DE → Nat → Prop) (h0 : I ds ρ n)
    (hs : ∀ d r ρ n, I (d :: r) ρ n → f d ρ (fun o n' => match o with
      | .nx ρ' => I r ρ' n'
      | .ct ρ' => I r ρ' n'
      | .bk ρ' => P (.nx ρ') n'
      | .rt t ρ' => P (.rt t ρ') n'
      | .xc e ρ' => P (.xc e ρ') n') n) (he : ∀ ρ n, I [] ρ n → P (.nx ρ) n) : wLoop f ds ρ P n := ⟨I, h0, hs, he⟩
theorem e_max2 {i j : Int} : fMax2 [.int i, .int j] = some (.int (if j > i then j else i)) := rfl
theorem e_min2 {i j : Int} : fMin2 [.int i, .int j] = some (.int (if j < i then j else i)) := rfl
theorem e_ix339 {i : Int} (h0 : 0 ≤ i) (h1 : i < 3) : ∃ v : Int, dIx (.list [.int 3, .int 3, .int 9]) (.int i) = some (.int v) ∧ 3 ≤ v ∧ v ≤ 9 := by
  rcases (by omega : i = 0 ∨ i = 1 ∨ i = 2) with rfl | rfl | rfl
  · exact ⟨3, e_ix0, by decide, by decide⟩
  · exact ⟨3, e_ix1, by decide, by decide⟩
  · exact ⟨9, e_ix2, by decide, by decide⟩
theorem wMap_map {f : Dt → W (Option OT)} {ds : List Dt} {P : List OT → Nat → Prop} {n : Nat} (g : Dt → OT) (h : ∀ d ∈ ds, ∀ (Q : Option OT → Nat → Prop), Q (some (g d)) n → f d Q noE n) (hP : P (ds.map g) n) : wMap f ds P n := by
  refine ⟨fun r ts n' => n' = n ∧ ∃ pre, pre ++ r = ds ∧ ts = pre.map g, ⟨rfl, [], rfl, rfl⟩, ?_, ?_⟩
  · rintro d r ts n' ⟨rfl, pre, hp, rfl⟩
    refine h d (by rw [← hp]; exact List.mem_append_right _ List.mem_cons_self) _ ⟨rfl, pre ++ [d], by rw [List.append_assoc]; exact hp, ?_⟩
    rw [List.map_append]
    rfl
  · rintro ts n' ⟨rfl, pre, hp, rfl⟩
    rw [List.append_nil] at hp
    subst hp
    exact hP
theorem wMap_of {α : Type} {f : Dt → W (Option OT)} {P : List OT → Nat → Prop} {n : Nat} {ds : List Dt} (xs : List α) (k : α → Dt) (g : α → OT) (e : ds = xs.map k) (h : ∀ x ∈ xs, ∀ (Q : Option OT → Nat → Prop), Q (some (g x)) n → f (k x) Q noE n) (hP : P (xs.map g) n) : wMap f ds P n := by
  subst e
  refine ⟨fun r ts n' => n' = n ∧ ∃ pre rest, pre ++ rest = xs ∧ r = rest.map k ∧ ts = pre.map g, ⟨rfl, [], xs, rfl, rfl, rfl⟩, ?_, ?_⟩
  · rintro d r ts n' ⟨rfl, pre, rest, hp, hr, rfl⟩
    cases rest with
    | nil => cases hr
    | cons x rest =>
      rw [List.map_cons] at hr
      cases hr
      refine h x (by rw [← hp]; exact List.mem_append_right _ List.mem_cons_self) _ ⟨rfl, pre ++ [x], rest, by rw [List.append_assoc]; exact hp, rfl, ?_⟩
      rw [List.map_append]
      rfl
  · rintro ts n' ⟨rfl, pre, rest, hp, hr, rfl⟩
    cases rest with
    | cons _ _ => cases hr
    | nil =>
      rw [List.append_nil] at hp
      subst hp
      exact hP
theorem e_eqI {i j : Int} : dEqX (.int i) (.int j) = some (.bool (decide (i = j))) := by
  show dEq (.int i) (.int j) = _
  unfold dEq
  rw [if_pos ⟨⟨rfl, rfl⟩, rfl, rfl⟩]
  simp [PyData.eqv]
  rfl
theorem e_maxL {a b : Int} : fMaxL [.list [.int a, .int b]] = some (.int (if a < b then b else a)) := rfl
end QD

set_option Elab.async false
set_option linter.all false
set_option maxRecDepth 100000
set_option maxHeartbeats 4000000
namespace QD
open PySem PySem.Spec PyProof.Rows L2 GxR XG

def top (i : Nat) : Stmt := PySem.Challenge.pw_holeslides_k03_pieces.main.body.getD i (.Pass ⟨0, 0, 0, 0⟩)
structure Ads where
  f_is_whole : Addr
  c_is_whole : Addr
  p_is_whole : Addr
  d_is_whole : FuncData
  f_is_short_list : Addr
  c_is_short_list : Addr
  p_is_short_list : Addr
  d_is_short_list : FuncData
  f__law_draws : Addr
  c__law_draws : Addr
  p__law_draws : Addr
  d__law_draws : FuncData
  f__law_next : Addr
  c__law_next : Addr
  p__law_next : Addr
  d__law_next : FuncData
  f__law_look : Addr
  c__law_look : Addr
  p__law_look : Addr
  d__law_look : FuncData
  f_first_out_of_line : Addr
  c_first_out_of_line : Addr
  p_first_out_of_line : Addr
  d_first_out_of_line : FuncData
  f_falls_along : Addr
  c_falls_along : Addr
  p_falls_along : Addr
  d_falls_along : FuncData
  f_fails_below : Addr
  c_fails_below : Addr
  p_fails_below : Addr
  d_fails_below : FuncData
  f__law_shape : Addr
  c__law_shape : Addr
  p__law_shape : Addr
  d__law_shape : FuncData
  f__law_within : Addr
  c__law_within : Addr
  p__law_within : Addr
  d__law_within : FuncData
  f__law_good : Addr
  c__law_good : Addr
  p__law_good : Addr
  d__law_good : FuncData
  f_are_whole : Addr
  c_are_whole : Addr
  p_are_whole : Addr
  d_are_whole : FuncData
  f_check_missing : Addr
  c_check_missing : Addr
  p_check_missing : Addr
  d_check_missing : FuncData
  f_first_unsorted : Addr
  c_first_unsorted : Addr
  p_first_unsorted : Addr
  d_first_unsorted : FuncData
  f__law_piece : Addr
  c__law_piece : Addr
  p__law_piece : Addr
  d__law_piece : FuncData
  f_check_rows_beside : Addr
  c_check_rows_beside : Addr
  p_check_rows_beside : Addr
  d_check_rows_beside : FuncData
  f_check_ascending : Addr
  c_check_ascending : Addr
  p_check_ascending : Addr
  d_check_ascending : FuncData
  f_check_piece : Addr
  c_check_piece : Addr
  p_check_piece : Addr
  d_check_piece : FuncData
  f_is_sorted : Addr
  c_is_sorted : Addr
  p_is_sorted : Addr
  d_is_sorted : FuncData
  f_check_sorted_piece : Addr
  c_check_sorted_piece : Addr
  p_check_sorted_piece : Addr
  d_check_sorted_piece : FuncData
  f_word_of : Addr
  c_word_of : Addr
  p_word_of : Addr
  d_word_of : FuncData
  f__law_right : Addr
  c__law_right : Addr
  p__law_right : Addr
  d__law_right : FuncData
  f_law : Addr
  c_law : Addr
  p_law : Addr
  d_law : FuncData
def lawDefs : List Str := ["_law_draws", "_law_next", "_law_look", "_law_shape", "_law_within", "_law_good", "_law_piece", "_law_right", "law"]
structure Txt (K : PySem.W.Frag) (mg : Str → Option Value) (base : Heap) (tabs : Tb) (a : Ads) : Prop where
  F_is_whole : FunT K "is_whole" "is_whole" (top 6) a.f_is_whole a.d_is_whole a.c_is_whole
  m_is_whole : mg "is_whole" = some (.ref a.f_is_whole)
  b_is_whole : Binds K a.d_is_whole ["thing"] []
  F_is_short_list : FunT K "is_short_list" "is_short_list" (top 8) a.f_is_short_list a.d_is_short_list a.c_is_short_list
  m_is_short_list : mg "is_short_list" = some (.ref a.f_is_short_list)
  b_is_short_list : Binds K a.d_is_short_list ["things"] []
  F__law_draws : FunT K "_law_draws" "_law_draws" (top 22) a.f__law_draws a.d__law_draws a.c__law_draws
  m__law_draws : mg "_law_draws" = some (.ref a.f__law_draws)
  b__law_draws : Binds K a.d__law_draws ["cell"] []
  F__law_next : FunT K "_law_next" "_law_next" (top 23) a.f__law_next a.d__law_next a.c__law_next
  m__law_next : mg "_law_next" = some (.ref a.f__law_next)
  b__law_next : Binds K a.d__law_next ["draws"] []
  F__law_look : FunT K "_law_look" "_law_look" (top 26) a.f__law_look a.d__law_look a.c__law_look
  m__law_look : mg "_law_look" = some (.ref a.f__law_look)
  b__law_look : Binds K a.d__law_look ["gone", "lines", "high", "wide"] []
  F_first_out_of_line : FunT K "first_out_of_line" "first_out_of_line" (top 9) a.f_first_out_of_line a.d_first_out_of_line a.c_first_out_of_line
  m_first_out_of_line : mg "first_out_of_line" = some (.ref a.f_first_out_of_line)
  b_first_out_of_line : Binds K a.d_first_out_of_line ["things", "least"] []
  F_falls_along : FunT K "falls_along" "falls_along" (top 16) a.f_falls_along a.d_falls_along a.c_falls_along
  m_falls_along : mg "falls_along" = some (.ref a.f_falls_along)
  b_falls_along : Binds K a.d_falls_along ["row"] []
  p_falls_along : a.p_falls_along ∈ tabs
  tb_falls_along : GxR.TabB base mg a.c_falls_along a.p_falls_along
  F_fails_below : FunT K "fails_below" "fails_below" (top 17) a.f_fails_below a.d_fails_below a.c_fails_below
  m_fails_below : mg "fails_below" = some (.ref a.f_fails_below)
  b_fails_below : Binds K a.d_fails_below ["upper", "row", "first"] []
  p_fails_below : a.p_fails_below ∈ tabs
  tb_fails_below : GxR.TabB base mg a.c_fails_below a.p_fails_below
  F__law_shape : FunT K "_law_shape" "_law_shape" (top 24) a.f__law_shape a.d__law_shape a.c__law_shape
  m__law_shape : mg "_law_shape" = some (.ref a.f__law_shape)
  b__law_shape : Binds K a.d__law_shape ["draws", "high", "wide"] []
  F__law_within : FunT K "_law_within" "_law_within" (top 25) a.f__law_within a.d__law_within a.c__law_within
  m__law_within : mg "_law_within" = some (.ref a.f__law_within)
  b__law_within : Binds K a.d__law_within ["draws", "lengths"] []
  F__law_good : FunT K "_law_good" "_law_good" (top 28) a.f__law_good a.d__law_good a.c__law_good
  m__law_good : mg "_law_good" = some (.ref a.f__law_good)
  b__law_good : Binds K a.d__law_good ["gone", "lines"] []
  F_are_whole : FunT K "are_whole" "are_whole" (top 7) a.f_are_whole a.d_are_whole a.c_are_whole
  m_are_whole : mg "are_whole" = some (.ref a.f_are_whole)
  b_are_whole : Binds K a.d_are_whole ["things"] []
  p_are_whole : a.p_are_whole ∈ tabs
  tb_are_whole : GxR.TabB base mg a.c_are_whole a.p_are_whole
  F_check_missing : FunT K "check_missing" "check_missing" (top 10) a.f_check_missing a.d_check_missing a.c_check_missing
  m_check_missing : mg "check_missing" = some (.ref a.f_check_missing)
  b_check_missing : Binds K a.d_check_missing ["missing"] []
  F_first_unsorted : FunT K "first_unsorted" "first_unsorted" (top 15) a.f_first_unsorted a.d_first_unsorted a.c_first_unsorted
  m_first_unsorted : mg "first_unsorted" = some (.ref a.f_first_unsorted)
  b_first_unsorted : Binds K a.d_first_unsorted ["missing", "rows"] []
  F__law_piece : FunT K "_law_piece" "_law_piece" (top 27) a.f__law_piece a.d__law_piece a.c__law_piece
  m__law_piece : mg "_law_piece" = some (.ref a.f__law_piece)
  b__law_piece : Binds K a.d__law_piece ["draws", "lengths", "step"] []
  F_check_rows_beside : FunT K "check_rows_beside" "check_rows_beside" (top 11) a.f_check_rows_beside a.d_check_rows_beside a.c_check_rows_beside
  m_check_rows_beside : mg "check_rows_beside" = some (.ref a.f_check_rows_beside)
  b_check_rows_beside : Binds K a.d_check_rows_beside ["missing", "rows"] []
  F_check_ascending : FunT K "check_ascending" "check_ascending" (top 12) a.f_check_ascending a.d_check_ascending a.c_check_ascending
  m_check_ascending : mg "check_ascending" = some (.ref a.f_check_ascending)
  b_check_ascending : Binds K a.d_check_ascending ["missing", "rows"] []
  F_check_piece : FunT K "check_piece" "check_piece" (top 13) a.f_check_piece a.d_check_piece a.c_check_piece
  m_check_piece : mg "check_piece" = some (.ref a.f_check_piece)
  b_check_piece : Binds K a.d_check_piece ["missing", "rows"] []
  F_is_sorted : FunT K "is_sorted" "is_sorted" (top 19) a.f_is_sorted a.d_is_sorted a.c_is_sorted
  m_is_sorted : mg "is_sorted" = some (.ref a.f_is_sorted)
  b_is_sorted : Binds K a.d_is_sorted ["missing", "rows"] []
  F_check_sorted_piece : FunT K "check_sorted_piece" "check_sorted_piece" (top 14) a.f_check_sorted_piece a.d_check_sorted_piece a.c_check_sorted_piece
  m_check_sorted_piece : mg "check_sorted_piece" = some (.ref a.f_check_sorted_piece)
  b_check_sorted_piece : Binds K a.d_check_sorted_piece ["missing", "rows"] []
  F_word_of : FunT K "word_of" "word_of" (top 20) a.f_word_of a.d_word_of a.c_word_of
  m_word_of : mg "word_of" = some (.ref a.f_word_of)
  b_word_of : Binds K a.d_word_of ["missing", "rows"] []
  F__law_right : FunT K "_law_right" "_law_right" (top 29) a.f__law_right a.d__law_right a.c__law_right
  m__law_right : mg "_law_right" = some (.ref a.f__law_right)
  b__law_right : Binds K a.d__law_right ["gone", "lines"] []
  F_law : FunT K "law" "law" (top 30) a.f_law a.d_law a.c_law
  m_law : mg "law" = some (.ref a.f_law)
  b_law : Binds K a.d_law ["script"] []
  tK : tabs.K = K
  m_MOST : ∃ t, mg "MOST" = some (.int 8 t)
  n_all : mg "all" = none
  n_any : mg "any" = none
  n_bool : mg "bool" = none
  n_enumerate : mg "enumerate" = none
  n_int : mg "int" = none
  n_isinstance : mg "isinstance" = none
  n_len : mg "len" = none
  n_list : mg "list" = none
  n_max : mg "max" = none
  n_min : mg "min" = none
  n_range : mg "range" = none
  n_repr : mg "repr" = none
  n_reversed : mg "reversed" = none
  n_sum : mg "sum" = none
  n_zip : mg "zip" = none
variable {Pr : Program} {w : World} {K : PySem.W.Frag} {mg : Str → Option Value} {base : Heap} {tabs : Tb} {a : Ads}
end QD

set_option Elab.async false
set_option linter.all false
set_option maxRecDepth 100000
set_option maxHeartbeats 4000000
namespace QD
open PySem PySem.Spec PyProof.Rows L2 GxR XG

variable {Pr : Program} {w : World} {K : PySem.W.Frag} {mg : Str → Option Value} {base : Heap} {tabs : Tb} {a : Ads}
theorem sc_is_whole : FnScope ["thing"] ["thing"] (defScope (top 6)) := ⟨rfl, rfl, rfl, by decide +kernel, rfl, by decide +kernel, by decide +kernel⟩
def isW : Dt → Bool
  | .int _ => true
  | _ => false
def spec_is_whole : List Dt → W OT := S1 fun d P _ n => isDict d = false ∧ P (.sh (.bool (isW d))) n

theorem G_is_whole (T : Txt K mg base tabs a) : FnOk Pr w K mg base (L2.CX Pr w) 1 a.f_is_whole a.d_is_whole ["thing"] (spW tabs mg spec_is_whole) := by
  have nd := (sc_is_whole).nd
  refine impW (okW (k := 0) T.F_is_whole sc_is_whole fun A outer s H E hr tk po =>
    (ss_one (s_ret (o_sh (x_and (x_isi (T := "int") (x_var (pv 0)) (fun _ q => pe_callB call_isi (by rfl) T.n_isinstance (by decide +kernel) (pa_cons q (pa_cons (pe_bltn (v := .ty "int") (by rfl) T.n_int (by decide +kernel) rfl) pa_nil)))) (x_one (x_not (x_isi (T := "bool") (x_var (pv 0)) (fun _ q => pe_callB call_isi (by rfl) T.n_isinstance (by decide +kernel) (pa_cons q (pa_cons (pe_bltn (v := .ty "bool") (by rfl) T.n_bool (by decide +kernel) rfl) pa_nil))))))))))) fun xs P E n h => ?_
  refine sp1 h fun d e h => ?_
  subst e
  obtain ⟨nd, h⟩ := h
  simp only [wDef, wRet, wE, W.map, W.bind, W.ret, W.opt, W.ite, W.no, wVar, wBin, wToB, wChain, wNotT, wAndT, wOrT, wAndV, wOrV, wNotV, wIf, wCons, wArgs, wConsO, wLs, wTp, wBinO, wUn, wUnO, wCut, wMove, wNext, wThen, wSet, wSetO, wTgt, wPairO, wDrop, wRetN, wBrk, wCont, wNever, wIfS, wAug, wFor, wBody, wCall, wLc, wGen, wClause, startD, slO, wipeD, dPair, viewD, wLend, wLendT, wLendO, List.length_cons, List.length_nil, List.map_cons, List.map_nil, List.replicate_zero, List.replicate_succ, List.append_nil, List.nil_append, List.cons_append, List.getElem?_cons_zero, List.getElem?_cons_succ, List.getElem?_nil, List.set_cons_zero, List.set_cons_succ, Nat.zero_add, Nat.reduceAdd, Nat.reduceSub, Nat.sub_self, Nat.sub_zero, if_true, if_false, toB_bool, Option.map_some, Option.some.injEq, exists_eq_left', exists_eq_left, true_and, and_true, Bool.false_eq_true, S1, S2, S3]
  simp only [isi_int nd, isi_bool nd, Option.some.injEq, exists_eq_left', toB_bool, Option.map_some]
  cases d <;> first | exact h | cases nd

theorem sc_is_short_list : FnScope ["things"] ["things"] (defScope (top 8)) := ⟨rfl, rfl, rfl, by decide +kernel, rfl, by decide +kernel, by decide +kernel⟩
def shortL : Dt → Bool
  | .list ds => decide (1 ≤ ds.length ∧ ds.length ≤ 8)
  | _ => false
def spec_is_short_list : List Dt → W OT := S1 fun d P _ n => isDict d = false ∧ P (.sh (.bool (shortL d))) n

theorem G_is_short_list (T : Txt K mg base tabs a) : FnOk Pr w K mg base (L2.CX Pr w) 1 a.f_is_short_list a.d_is_short_list ["things"] (spW tabs mg spec_is_short_list) := by
  have nd := (sc_is_short_list).nd
  refine impW (okW (k := 0) T.F_is_short_list sc_is_short_list fun A outer s H E hr tk po =>
    (ss_one (s_ret (o_sh (x_and (x_isi (T := "list") (x_var (pv 0)) (fun _ q => pe_callB call_isi (by rfl) T.n_isinstance (by decide +kernel) (pa_cons q (pa_cons (pe_bltn (v := .ty "list") (by rfl) T.n_list (by decide +kernel) rfl) pa_nil)))) (x_one (x_chain op_le op_le rd_le rd_le x_int (x_args rc_len (a_cons (x_var (pv 0)) a_nil) (fun _ q => pe_callB call_len_seq (by rfl) T.n_len (by decide +kernel) q)) (x_cst (by rfl) T.m_MOST)))))))) fun xs P E n h => ?_
  refine sp1 h fun d e h => ?_
  subst e
  obtain ⟨nd', h⟩ := h
  simp only [wDef, wRet, wE, W.map, W.bind, W.ret, W.opt, W.ite, W.no, wVar, wBin, wToB, wChain, wNotT, wAndT, wOrT, wAndV, wOrV, wNotV, wIf, wCons, wArgs, wConsO, wLs, wTp, wBinO, wUn, wUnO, wCut, wMove, wNext, wThen, wSet, wSetO, wTgt, wPairO, wDrop, wRetN, wBrk, wCont, wNever, wIfS, wAug, wFor, wBody, wCall, wLc, wGen, wClause, startD, slO, wipeD, dPair, viewD, wLend, wLendT, wLendO, List.length_cons, List.length_nil, List.map_cons, List.map_nil, List.replicate_zero, List.replicate_succ, List.append_nil, List.nil_append, List.cons_append, List.getElem?_cons_zero, List.getElem?_cons_succ, List.getElem?_nil, List.set_cons_zero, List.set_cons_succ, Nat.zero_add, Nat.reduceAdd, Nat.reduceSub, Nat.sub_self, Nat.sub_zero, if_true, if_false, toB_bool, Option.map_some, Option.some.injEq, exists_eq_left', exists_eq_left, true_and, and_true, Bool.false_eq_true, S1, S2, S3]
  simp only [isi_list nd', Option.some.injEq, exists_eq_left', toB_bool, Option.map_some]
  cases d with
  | list ds =>
    simp only [isList, fLen, dLe, if_true, Option.some.injEq, exists_eq_left', Option.bind_some, toB_bool]
    simp only [shortL] at h
    by_cases h1 : 1 ≤ ds.length
    · have e1 : decide ((1 : Int) ≤ (ds.length : Int)) = true := decide_eq_true (by omega)
      rw [e1, if_pos rfl]
      have e2 : decide ((ds.length : Int) ≤ 8) = decide (1 ≤ ds.length ∧ ds.length ≤ 8) := decide_eq_decide.mpr (by omega)
      rw [e2]
      exact h
    · have e1 : decide ((1 : Int) ≤ (ds.length : Int)) = false := decide_eq_false (by omega)
      rw [e1, if_neg Bool.false_ne_true]
      rw [decide_eq_false (by omega)] at h
      exact h
  | dict _ => cases nd'
  | _ => exact h

theorem sc_first_out_of_line : FnScope ["things", "least", "greatest", "index", "thing"] ["things", "least"] (defScope (top 9)) := ⟨rfl, rfl, rfl, by decide +kernel, rfl, by decide +kernel, by decide +kernel⟩
def firstOut (l : Int) : Int → Nat → List Dt → Option Nat
  | _, _, [] => none
  | g, i, d :: ds => match d with
    | .int z => if l ≤ z ∧ z ≤ g then firstOut l z (i + 1) ds else some i
    | _ => some i
def orN : Option Nat → Dt
  | none => .none
  | some i => .int (i : Nat)
def spec_first_out_of_line : List Dt → W OT := S2 fun d1 d2 P _ n => ∃ ds l, d1 = .list ds ∧ d2 = .int l ∧ (∀ d ∈ ds, isDict d = false) ∧ P (.sh (orN (firstOut l 8 0 ds))) n

theorem G_first_out_of_line (T : Txt K mg base tabs a) : FnOk Pr w K mg base (L2.CX Pr w) 2 a.f_first_out_of_line a.d_first_out_of_line ["things", "least"] (spW tabs mg spec_first_out_of_line) := by
  have nd := (sc_first_out_of_line).nd
  refine impW (okW (k := 1) T.F_first_out_of_line sc_first_out_of_line fun A outer s H E hr tk po =>
    (ss_cons (s_set (x_cst (by rfl) T.m_MOST) (fun _ q => ps_set (i := 2) nd rfl (by first | exact Or.inl rfl | exact Or.inr rfl) q))
    (ss_cons (s_for (i_enum (a_cons (x_var (pv 0)) a_nil) (fun _ q => pi_enum rfl T.n_enumerate q)) (g_pair (pg_tup rfl (pgs_cons (pg_name (i := 3) nd rfl (by first | exact Or.inl rfl | exact Or.inr rfl)) (pgs_cons (pg_name (i := 4) nd rfl (by first | exact Or.inl rfl | exact Or.inr rfl)) pgs_nil)))) (ss_cons (s_if (t_w (w_or (t_not (t_val (x_frz (o_call (a_cons (x_var (pv 4)) a_nil) (fun _ q => pe_callS (G_is_whole T) (hr.mono (by decide)) (by rfl) T.m_is_whole T.F_is_whole.kp T.b_is_whole (fun _ => passAt tk _) q))))) (w_or1 (t_not (t_chain op_le op_le rd_le rd_le (x_var (pv 1)) (x_var (pv 4)) (x_var (pv 2))))))) (ss_one (s_ret (o_sh (x_var (pv 3))))) ss_nil)
    (ss_one (s_set (x_var (pv 4)) (fun _ q => ps_set (i := 2) nd rfl (by first | exact Or.inl rfl | exact Or.inr rfl) q)))) (fun _ _ _ a b c => ps_for po rfl a b c))
    (ss_one (s_ret (o_sh x_non)))))) fun xs P E n h => ?_
  refine sp2 h fun d1 d2 e h => ?_
  subst e
  obtain ⟨ds, l, rfl, rfl, nd, h⟩ := h
  simp only [wDef, wRet, wE, W.map, W.bind, W.ret, W.opt, W.ite, W.no, wVar, wBin, wToB, wChain, wNotT, wAndT, wOrT, wAndV, wOrV, wNotV, wIf, wCons, wArgs, wConsO, wLs, wTp, wBinO, wUn, wUnO, wCut, wMove, wNext, wThen, wSet, wSetO, wTgt, wPairO, wDrop, wRetN, wBrk, wCont, wNever, wIfS, wAug, wFor, wBody, wCall, wLc, wGen, wClause, startD, slO, wipeD, dPair, viewD, wLend, wLendT, wLendO, List.length_cons, List.length_nil, List.map_cons, List.map_nil, List.replicate_zero, List.replicate_succ, List.append_nil, List.nil_append, List.cons_append, List.getElem?_cons_zero, List.getElem?_cons_succ, List.getElem?_nil, List.set_cons_zero, List.set_cons_succ, Nat.zero_add, Nat.reduceAdd, Nat.reduceSub, Nat.sub_self, Nat.sub_zero, if_true, if_false, toB_bool, Option.map_some, Option.some.injEq, exists_eq_left', exists_eq_left, true_and, and_true, Bool.false_eq_true, S1, S2, S3]
  simp only [kEnum, Option.some.injEq, exists_eq_left', dEnum_F]
  refine ⟨fun r ρ n' => n' = n ∧ ∃ i g s3 s4 rest, r = enumF i rest ∧ ρ = [.d (.list ds), .d (.int l), .d (.int g), s3, s4] ∧ firstOut l g i rest = firstOut l 8 0 ds ∧ ∀ d ∈ rest, isDict d = false, ⟨rfl, 0, 8, _, _, ds, rfl, rfl, rfl, nd⟩, ?_, ?_⟩
  · rintro d r ρ n' ⟨rfl, i, g, s3, s4, rest, hr, rfl, hf, hn⟩
    cases rest with
    | nil => cases hr
    | cons d' rest =>
      rw [enumF_cons] at hr
      cases hr
      simp only [wDef, wRet, wE, W.map, W.bind, W.ret, W.opt, W.ite, W.no, wVar, wBin, wToB, wChain, wNotT, wAndT, wOrT, wAndV, wOrV, wNotV, wIf, wCons, wArgs, wConsO, wLs, wTp, wBinO, wUn, wUnO, wCut, wMove, wNext, wThen, wSet, wSetO, wTgt, wPairO, wDrop, wRetN, wBrk, wCont, wNever, wIfS, wAug, wFor, wBody, wCall, wLc, wGen, wClause, startD, slO, wipeD, dPair, viewD, wLend, wLendT, wLendO, List.length_cons, List.length_nil, List.map_cons, List.map_nil, List.replicate_zero, List.replicate_succ, List.append_nil, List.nil_append, List.cons_append, List.getElem?_cons_zero, List.getElem?_cons_succ, List.getElem?_nil, List.set_cons_zero, List.set_cons_succ, Nat.zero_add, Nat.reduceAdd, Nat.reduceSub, Nat.sub_self, Nat.sub_zero, if_true, if_false, toB_bool, Option.map_some, Option.some.injEq, exists_eq_left', exists_eq_left, true_and, and_true, Bool.false_eq_true, S1, S2, S3]
      have hd := hn d' List.mem_cons_self
      refine ⟨hd, ?_⟩
      simp only [wDef, wRet, wE, W.map, W.bind, W.ret, W.opt, W.ite, W.no, wVar, wBin, wToB, wChain, wNotT, wAndT, wOrT, wAndV, wOrV, wNotV, wIf, wCons, wArgs, wConsO, wLs, wTp, wBinO, wUn, wUnO, wCut, wMove, wNext, wThen, wSet, wSetO, wTgt, wPairO, wDrop, wRetN, wBrk, wCont, wNever, wIfS, wAug, wFor, wBody, wCall, wLc, wGen, wClause, startD, slO, wipeD, dPair, viewD, wLend, wLendT, wLendO, List.length_cons, List.length_nil, List.map_cons, List.map_nil, List.replicate_zero, List.replicate_succ, List.append_nil, List.nil_append, List.cons_append, List.getElem?_cons_zero, List.getElem?_cons_succ, List.getElem?_nil, List.set_cons_zero, List.set_cons_succ, Nat.zero_add, Nat.reduceAdd, Nat.reduceSub, Nat.sub_self, Nat.sub_zero, if_true, if_false, toB_bool, Option.map_some, Option.some.injEq, exists_eq_left', exists_eq_left, true_and, and_true, Bool.false_eq_true, S1, S2, S3]
      simp only [OT.val, toB_bool, Option.some.injEq, exists_eq_left']
      cases d' with
      | int z =>
        simp only [isW, Bool.not_true, Bool.false_eq_true, if_false, dLe, Option.some.injEq, exists_eq_left', Option.bind_some, toB_bool]
        simp only [firstOut] at hf
        by_cases h1 : l ≤ z
        · rw [decide_eq_true h1, if_pos rfl]
          by_cases h2 : z ≤ g
          · rw [decide_eq_true h2, if_neg (by decide)]
            rw [if_pos ⟨h1, h2⟩] at hf
            exact ⟨i + 1, z, _, _, rest, rfl, rfl, hf, fun d hd => hn d (List.mem_cons_of_mem _ hd)⟩
          · rw [decide_eq_false h2, if_pos (by decide)]
            rw [if_neg (fun z => h2 z.2)] at hf
            rw [← hf] at h
            exact h
        · rw [decide_eq_false h1, if_neg Bool.false_ne_true]
          rw [if_neg (fun z => h1 z.1)] at hf
          rw [← hf] at h
          exact h
      | dict _ => cases hd
      | _ =>
        simp only [firstOut] at hf
        simp only [isW, Bool.not_false, if_true]
        rw [← hf] at h
        exact h
  · rintro ρ n' ⟨rfl, i, g, s3, s4, rest, hr, rfl, hf, hn⟩
    cases rest with
    | cons _ _ => cases hr
    | nil =>
      simp only [wDef, wRet, wE, W.map, W.bind, W.ret, W.opt, W.ite, W.no, wVar, wBin, wToB, wChain, wNotT, wAndT, wOrT, wAndV, wOrV, wNotV, wIf, wCons, wArgs, wConsO, wLs, wTp, wBinO, wUn, wUnO, wCut, wMove, wNext, wThen, wSet, wSetO, wTgt, wPairO, wDrop, wRetN, wBrk, wCont, wNever, wIfS, wAug, wFor, wBody, wCall, wLc, wGen, wClause, startD, slO, wipeD, dPair, viewD, wLend, wLendT, wLendO, List.length_cons, List.length_nil, List.map_cons, List.map_nil, List.replicate_zero, List.replicate_succ, List.append_nil, List.nil_append, List.cons_append, List.getElem?_cons_zero, List.getElem?_cons_succ, List.getElem?_nil, List.set_cons_zero, List.set_cons_succ, Nat.zero_add, Nat.reduceAdd, Nat.reduceSub, Nat.sub_self, Nat.sub_zero, if_true, if_false, toB_bool, Option.map_some, Option.some.injEq, exists_eq_left', exists_eq_left, true_and, and_true, Bool.false_eq_true, S1, S2, S3]
      rw [← hf] at h
      exact h

theorem sc_falls_along : FnScope ["row", "at"] ["row"] (defScope (top 16)) := ⟨rfl, rfl, rfl, by decide +kernel, rfl, by decide +kernel, by decide +kernel⟩
def fallsA : List Int → Bool
  | a :: b :: r => decide (b < a) || fallsA (b :: r)
  | _ => false
theorem falls_any : ∀ xs : List Int, ((List.range (xs.length - 1)).any fun i => decide (xs.getD (i + 1) 0 < xs.getD i 0)) = fallsA xs
  | [] => rfl
  | [a] => rfl
  | a :: b :: r => by
    have ih := falls_any (b :: r)
    simp only [List.length_cons, Nat.add_sub_cancel] at ih ⊢
    rw [List.range_succ_eq_map, List.any_cons, List.any_map]
    simp only [fallsA]
    rw [← ih]
    rfl
def spec_falls_along : List Dt → W OT := S1 fun d P _ n => ∃ xs : List Int, d = intsD xs ∧ xs.length ≤ 100000 ∧ P (.sh (.bool (fallsA xs))) n

theorem G_falls_along (T : Txt K mg base tabs a) : FnOk Pr w K mg base (L2.CX Pr w) 2 a.f_falls_along a.d_falls_along ["row"] (spW tabs mg spec_falls_along) := by
  have nd := (sc_falls_along).nd
  refine impW (okW (k := 1) T.F_falls_along sc_falls_along fun A outer s H E hr tk po =>
    (ss_one (s_ret (o_sh (x_anyG (own := [(("at" : Str), 1)]) (k := 0) T.p_falls_along (i_rng2 (a_cons x_int (a_cons (x_args rc_len (a_cons (x_var (pv 0)) a_nil) (fun _ q => pe_callB call_len_seq (by rfl) T.n_len (by decide +kernel) q)) a_nil)) (fun _ q => pi_range2 rfl T.n_range q)) (by decide) (fun _ _ _ _ _ _ => (g_name (pg_name (i := 1) nd rfl (by first | exact Or.inl rfl | exact Or.inr rfl)))) (fun _ _ _ _ _ _ => ts_nil) (fun _ _ _ _ _ _ => fun hr => (x_cmp op_lt rd_lt (x_ix ix_seq rd_ix (x_var (pv 0)) (x_var (pv 1)) (fun _ _ => rfl)) (x_ix ix_seq rd_ix (x_var (pv 0)) (x_op op_sub rd_sub (x_var (pv 1)) x_int) (fun _ _ => rfl)) (nomark _))) (fun _ _ _ _ a b c e => pe_anyG (hr.mono (by decide) : Room (0 + 1) _) T.tb_falls_along rfl (gblk_by (N := ["row", "at"]) (sc := defScope (top 16)) (own := [(("at" : Str), 1)]) (by decide +kernel)) nd rfl a b c e (by intro _; rfl) (by rfl) (by rfl) T.n_any)))))) fun xs P E n h => ?_
  refine sp1 h fun d e h => ?_
  subst e
  obtain ⟨xs, rfl, hl, h⟩ := h
  simp only [wDef, wRet, wE, W.map, W.bind, W.ret, W.opt, W.ite, W.no, wVar, wBin, wToB, wChain, wNotT, wAndT, wOrT, wAndV, wOrV, wNotV, wIf, wCons, wArgs, wConsO, wLs, wTp, wBinO, wUn, wUnO, wCut, wMove, wNext, wThen, wSet, wSetO, wTgt, wPairO, wDrop, wRetN, wBrk, wCont, wNever, wIfS, wAug, wFor, wBody, wCall, wLc, wGen, wClause, startD, slO, wipeD, dPair, viewD, wLend, wLendT, wLendO, List.length_cons, List.length_nil, List.map_cons, List.map_nil, List.replicate_zero, List.replicate_succ, List.append_nil, List.nil_append, List.cons_append, List.getElem?_cons_zero, List.getElem?_cons_succ, List.getElem?_nil, List.set_cons_zero, List.set_cons_succ, Nat.zero_add, Nat.reduceAdd, Nat.reduceSub, Nat.sub_self, Nat.sub_zero, if_true, if_false, toB_bool, Option.map_some, Option.some.injEq, exists_eq_left', exists_eq_left, true_and, and_true, Bool.false_eq_true, S1, S2, S3]
  simp only [intsD, fLen, Option.some.injEq, exists_eq_left', kRng2, List.length_map]
  rw [if_pos (by omega)]
  simp only [Option.some.injEq, exists_eq_left']
  have hn : ((xs.length : Int) - 1).toNat = xs.length - 1 := by omega
  refine ⟨(List.range (xs.length - 1)).map fun i => some (.bool (decide (xs.getD (i + 1) 0 < xs.getD i 0))), ?_, ?_⟩
  · rw [hn]
    have : ∀ l : List Nat, (∀ i ∈ l, i < xs.length - 1) → Runs (RunC (fun d ρ => some (List.set ρ 1 (Sl.d d))) (fun x => W.ret true)
          (wBin dLt (wBin dIx (wVar 0) (wVar 1)) (wBin dIx (wVar 0) (wBin dSub (wVar 1) fun x => W.ret (PyData.int 1))))
          n [Sl.d (PyData.list (List.map PyData.int xs)), Sl.no]) (l.map fun i => .int (1 + (i : Nat))) (l.map fun i => some (.bool (decide (xs.getD (i + 1) 0 < xs.getD i 0)))) := fun l => by
      induction l with
      | nil => exact fun _ => trivial
      | cons i l ih =>
        refine fun hi => ⟨⟨_, rfl, ⟨rfl, rfl⟩, fun y hy => ?_⟩, ih fun j hj => hi j (List.mem_cons_of_mem _ hj)⟩
        have hil := hi i List.mem_cons_self
        cases hy
        simp only [wDef, wRet, wE, W.map, W.bind, W.ret, W.opt, W.ite, W.no, wVar, wBin, wToB, wChain, wNotT, wAndT, wOrT, wAndV, wOrV, wNotV, wIf, wCons, wArgs, wConsO, wLs, wTp, wBinO, wUn, wUnO, wCut, wMove, wNext, wThen, wSet, wSetO, wTgt, wPairO, wDrop, wRetN, wBrk, wCont, wNever, wIfS, wAug, wFor, wBody, wCall, wLc, wGen, wClause, startD, slO, wipeD, dPair, viewD, wLend, wLendT, wLendO, List.length_cons, List.length_nil, List.map_cons, List.map_nil, List.replicate_zero, List.replicate_succ, List.append_nil, List.nil_append, List.cons_append, List.getElem?_cons_zero, List.getElem?_cons_succ, List.getElem?_nil, List.set_cons_zero, List.set_cons_succ, Nat.zero_add, Nat.reduceAdd, Nat.reduceSub, Nat.sub_self, Nat.sub_zero, if_true, if_false, toB_bool, Option.map_some, Option.some.injEq, exists_eq_left', exists_eq_left, true_and, and_true, Bool.false_eq_true, S1, S2, S3]
        have e1 : dIx (.list (xs.map .int)) (.int (1 + (i : Nat))) = some (.int (xs.getD (i + 1) 0)) := dIx_ints (by omega) (by
          have : (1 + (i : Int)).toNat = i + 1 := by omega
          rw [this, List.getD_eq_getElem?_getD, List.getElem?_eq_getElem (by omega)]
          rfl)
        have e2 : dIx (.list (xs.map .int)) (.int (1 + (i : Nat) - 1)) = some (.int (xs.getD i 0)) := dIx_ints (by omega) (by
          have : (1 + (i : Int) - 1).toNat = i := by omega
          rw [this, List.getD_eq_getElem?_getD, List.getElem?_eq_getElem (by omega)]
          rfl)
        exact ⟨_, e1, _, rfl, _, e2, _, rfl, rfl⟩
    exact this _ fun i hi => List.mem_range.mp hi
  · rw [filterMap_somes]
    unfold rAnyG
    rw [if_pos (by simp [isB])]
    refine ⟨_, rfl, ?_⟩
    rw [List.any_map]
    have e3 : ((List.range (xs.length - 1)).any (bV ∘ fun i => PyData.bool (decide (xs.getD (i + 1) 0 < xs.getD i 0)))) = fallsA xs := falls_any xs
    rw [e3]
    exact h

theorem sc_fails_below : FnScope ["upper", "row", "first", "above", "number"] ["upper", "row", "first"] (defScope (top 17)) := ⟨rfl, rfl, rfl, by decide +kernel, rfl, by decide +kernel, by decide +kernel⟩
def failsB : List Int → List Int → Bool
  | a :: r, b :: s => decide (b ≤ a) || failsB r s
  | _, _ => false
theorem fails_zip : ∀ xs ys : List Int, ((xs.zip ys).any fun p => decide (p.2 ≤ p.1)) = failsB xs ys
  | [], _ => rfl
  | _ :: _, [] => rfl
  | a :: r, b :: s => by simp [failsB, fails_zip r s]
theorem zip_ints (xs ys : List Int) : dZip (xs.map .int) (ys.map .int) = (xs.zip ys).map fun p => .tuple [.int p.1, .int p.2] := by
  unfold dZip
  rw [List.zip_map, List.map_map]
  rfl
theorem cut_from (ys : List Dt) {k : Int} (hk : 0 ≤ k) : cutD ys (some k) none = ys.drop k.toNat := by
  show ((ys.drop (if k < 0 then (k + (ys.length : Int)).toNat else min k.toNat ys.length)).take _) = _
  rw [if_neg (by omega)]
  rcases Nat.le_total k.toNat ys.length with h | h
  · rw [Nat.min_eq_left h]
    refine List.take_of_length_le ?_
    show (ys.drop k.toNat).length ≤ ys.length - (if k < 0 then (k + (ys.length : Int)).toNat else min k.toNat ys.length)
    rw [if_neg (by omega), List.length_drop, Nat.min_eq_left h]
    exact Nat.le_refl _
  · rw [Nat.min_eq_right h, List.drop_eq_nil_of_le (Nat.le_refl _), List.drop_eq_nil_of_le h, List.take_nil]
def spec_fails_below : List Dt → W OT := S3 fun d1 d2 d3 P _ n => ∃ xs ys : List Int, ∃ k : Int, d1 = intsD xs ∧ d2 = intsD ys ∧ d3 = .int k ∧ 0 ≤ k ∧ P (.sh (.bool (failsB xs (ys.drop k.toNat)))) n

theorem G_fails_below (T : Txt K mg base tabs a) : FnOk Pr w K mg base (L2.CX Pr w) 2 a.f_fails_below a.d_fails_below ["upper", "row", "first"] (spW tabs mg spec_fails_below) := by
  have nd := (sc_fails_below).nd
  refine impW (okW (k := 1) T.F_fails_below sc_fails_below fun A outer s H E hr tk po =>
    (ss_one (s_ret (o_sh (x_anyG (own := [(("above" : Str), 3), (("number" : Str), 4)]) (k := 0) T.p_fails_below (i_zip (a_cons (x_var (pv 0)) (a_cons (x_frz (o_cut (x_var (pv 1)) (sl_so (x_var (pv 2))) sl_no)) a_nil)) (fun _ q => pi_zip rfl T.n_zip q)) (by decide) (fun _ _ _ _ _ _ => (g_pair (pg_tup rfl (pgs_cons (pg_name (i := 3) nd rfl (by first | exact Or.inl rfl | exact Or.inr rfl)) (pgs_cons (pg_name (i := 4) nd rfl (by first | exact Or.inl rfl | exact Or.inr rfl)) pgs_nil))))) (fun _ _ _ _ _ _ => ts_nil) (fun _ _ _ _ _ _ => fun hr => (x_cmp op_le rd_le (x_var (pv 4)) (x_var (pv 3)) (nomark _))) (fun _ _ _ _ a b c e => pe_anyG (hr.mono (by decide) : Room (0 + 1) _) T.tb_fails_below rfl (gblk_by (N := ["upper", "row", "first", "above", "number"]) (sc := defScope (top 17)) (own := [(("above" : Str), 3), (("number" : Str), 4)]) (by decide +kernel)) nd rfl a b c e (by intro _; rfl) (by rfl) (by rfl) T.n_any)))))) fun xs P E n h => ?_
  refine sp3 h fun d1 d2 d3 e h => ?_
  subst e
  obtain ⟨xs, ys, k, rfl, rfl, rfl, hk, h⟩ := h
  simp only [wDef, wRet, wE, W.map, W.bind, W.ret, W.opt, W.ite, W.no, wVar, wBin, wToB, wChain, wNotT, wAndT, wOrT, wAndV, wOrV, wNotV, wIf, wCons, wArgs, wConsO, wLs, wTp, wBinO, wUn, wUnO, wCut, wMove, wNext, wThen, wSet, wSetO, wTgt, wPairO, wDrop, wRetN, wBrk, wCont, wNever, wIfS, wAug, wFor, wBody, wCall, wLc, wGen, wClause, startD, slO, wipeD, dPair, viewD, wLend, wLendT, wLendO, List.length_cons, List.length_nil, List.map_cons, List.map_nil, List.replicate_zero, List.replicate_succ, List.append_nil, List.nil_append, List.cons_append, List.getElem?_cons_zero, List.getElem?_cons_succ, List.getElem?_nil, List.set_cons_zero, List.set_cons_succ, Nat.zero_add, Nat.reduceAdd, Nat.reduceSub, Nat.sub_self, Nat.sub_zero, if_true, if_false, toB_bool, Option.map_some, Option.some.injEq, exists_eq_left', exists_eq_left, true_and, and_true, Bool.false_eq_true, S1, S2, S3]
  simp only [intsD, toI, gCut, Option.map_some, Option.some.injEq, exists_eq_left', OT.val, vals_sh, cut_from _ hk, kZip, ← List.map_drop]
  rw [zip_ints]
  refine ⟨(xs.zip (ys.drop k.toNat)).map fun p => some (.bool (decide (p.2 ≤ p.1))), ?_, ?_⟩
  · generalize xs.zip (ys.drop k.toNat) = l
    induction l with
    | nil => exact trivial
    | cons p l ih =>
      refine ⟨⟨_, rfl, ⟨rfl, rfl⟩, fun y hy => ?_⟩, ih⟩
      cases hy
      simp only [wDef, wRet, wE, W.map, W.bind, W.ret, W.opt, W.ite, W.no, wVar, wBin, wToB, wChain, wNotT, wAndT, wOrT, wAndV, wOrV, wNotV, wIf, wCons, wArgs, wConsO, wLs, wTp, wBinO, wUn, wUnO, wCut, wMove, wNext, wThen, wSet, wSetO, wTgt, wPairO, wDrop, wRetN, wBrk, wCont, wNever, wIfS, wAug, wFor, wBody, wCall, wLc, wGen, wClause, startD, slO, wipeD, dPair, viewD, wLend, wLendT, wLendO, List.length_cons, List.length_nil, List.map_cons, List.map_nil, List.replicate_zero, List.replicate_succ, List.append_nil, List.nil_append, List.cons_append, List.getElem?_cons_zero, List.getElem?_cons_succ, List.getElem?_nil, List.set_cons_zero, List.set_cons_succ, Nat.zero_add, Nat.reduceAdd, Nat.reduceSub, Nat.sub_self, Nat.sub_zero, if_true, if_false, toB_bool, Option.map_some, Option.some.injEq, exists_eq_left', exists_eq_left, true_and, and_true, Bool.false_eq_true, S1, S2, S3]
      exact ⟨_, rfl, rfl⟩
  · rw [filterMap_somes]
    unfold rAnyG
    rw [if_pos (by simp [isB])]
    refine ⟨_, rfl, ?_⟩
    rw [List.any_map]
    have e3 : ((xs.zip (ys.drop k.toNat)).any (bV ∘ fun p => PyData.bool (decide (p.2 ≤ p.1)))) = failsB xs (ys.drop k.toNat) := fails_zip _ _
    rw [e3]
    exact h

theorem sc_are_whole : FnScope ["things", "thing"] ["things"] (defScope (top 7)) := ⟨rfl, rfl, rfl, by decide +kernel, rfl, by decide +kernel, by decide +kernel⟩
def areW : Dt → Bool
  | .list ds => ds.all isW
  | _ => false
def noDs : Dt → Bool
  | .list ds => ds.all fun d => !isDict d
  | .dict _ => false
  | _ => true
def spec_are_whole : List Dt → W OT := S1 fun d P _ n => noDs d = true ∧ P (.sh (.bool (areW d))) n

theorem G_are_whole (T : Txt K mg base tabs a) : FnOk Pr w K mg base (L2.CX Pr w) 3 a.f_are_whole a.d_are_whole ["things"] (spW tabs mg spec_are_whole) := by
  have nd := (sc_are_whole).nd
  refine impW (okW (k := 2) T.F_are_whole sc_are_whole fun A outer s H E hr tk po =>
    (ss_one (s_ret (o_sh (x_and (x_isi (T := "list") (x_var (pv 0)) (fun _ q => pe_callB call_isi (by rfl) T.n_isinstance (by decide +kernel) (pa_cons q (pa_cons (pe_bltn (v := .ty "list") (by rfl) T.n_list (by decide +kernel) rfl) pa_nil)))) (x_one (x_allG (own := [(("thing" : Str), 1)]) (k := 1) T.p_are_whole (i_list (x_var (pv 0))) (by decide) (fun _ _ _ _ _ _ => (g_name (pg_name (i := 1) nd rfl (by first | exact Or.inl rfl | exact Or.inr rfl)))) (fun _ _ _ _ _ _ => ts_nil) (fun _ _ _ _ _ _ => fun hr => (x_frz (o_call (a_cons (x_var (pv 1)) a_nil) (fun _ q => pe_callS (G_is_whole T) (hr.mono (by decide)) (by rfl) T.m_is_whole T.F_is_whole.kp T.b_is_whole (fun _ => passAt takes0 _) q)))) (fun _ _ _ _ a b c e => pe_allG (hr.mono (by decide) : Room (1 + 1) _) T.tb_are_whole rfl (gblk_by (N := ["things", "thing"]) (sc := defScope (top 7)) (own := [(("thing" : Str), 1)]) (by decide +kernel)) nd rfl a b c e (by intro _; rfl) (by rfl) (by rfl) T.n_all (by decide +kernel))))))))) fun xs P E n h => ?_
  refine sp1 h fun d e h => ?_
  subst e
  obtain ⟨nd, h⟩ := h
  have nd' : isDict d = false := by cases d <;> first | rfl | cases nd
  simp only [wDef, wRet, wE, W.map, W.bind, W.ret, W.opt, W.ite, W.no, wVar, wBin, wToB, wChain, wNotT, wAndT, wOrT, wAndV, wOrV, wNotV, wIf, wCons, wArgs, wConsO, wLs, wTp, wBinO, wUn, wUnO, wCut, wMove, wNext, wThen, wSet, wSetO, wTgt, wPairO, wDrop, wRetN, wBrk, wCont, wNever, wIfS, wAug, wFor, wBody, wCall, wLc, wGen, wClause, startD, slO, wipeD, dPair, viewD, wLend, wLendT, wLendO, List.length_cons, List.length_nil, List.map_cons, List.map_nil, List.replicate_zero, List.replicate_succ, List.append_nil, List.nil_append, List.cons_append, List.getElem?_cons_zero, List.getElem?_cons_succ, List.getElem?_nil, List.set_cons_zero, List.set_cons_succ, Nat.zero_add, Nat.reduceAdd, Nat.reduceSub, Nat.sub_self, Nat.sub_zero, if_true, if_false, toB_bool, Option.map_some, Option.some.injEq, exists_eq_left', exists_eq_left, true_and, and_true, Bool.false_eq_true, S1, S2, S3]
  simp only [isi_list nd', Option.some.injEq, exists_eq_left', toB_bool, Option.map_some]
  cases d with
  | list ds =>
    simp only [isList, if_true, asL, Option.some.injEq, exists_eq_left']
    refine ⟨ds.map fun d => some (.bool (isW d)), Runs.map fun d hd => ⟨_, rfl, ⟨rfl, rfl⟩, fun y hy => ?_⟩, _, ?_, h⟩
    · cases hy
      have hn : isDict d = false := by simpa using List.all_eq_true.mp nd d hd
      simp only [wDef, wRet, wE, W.map, W.bind, W.ret, W.opt, W.ite, W.no, wVar, wBin, wToB, wChain, wNotT, wAndT, wOrT, wAndV, wOrV, wNotV, wIf, wCons, wArgs, wConsO, wLs, wTp, wBinO, wUn, wUnO, wCut, wMove, wNext, wThen, wSet, wSetO, wTgt, wPairO, wDrop, wRetN, wBrk, wCont, wNever, wIfS, wAug, wFor, wBody, wCall, wLc, wGen, wClause, startD, slO, wipeD, dPair, viewD, wLend, wLendT, wLendO, List.length_cons, List.length_nil, List.map_cons, List.map_nil, List.replicate_zero, List.replicate_succ, List.append_nil, List.nil_append, List.cons_append, List.getElem?_cons_zero, List.getElem?_cons_succ, List.getElem?_nil, List.set_cons_zero, List.set_cons_succ, Nat.zero_add, Nat.reduceAdd, Nat.reduceSub, Nat.sub_self, Nat.sub_zero, if_true, if_false, toB_bool, Option.map_some, Option.some.injEq, exists_eq_left', exists_eq_left, true_and, and_true, Bool.false_eq_true, S1, S2, S3]
      exact ⟨hn, rfl, rfl⟩
    · rw [filterMap_somes]
      unfold rAllG
      rw [if_pos (by simp [isB])]
      simp [areW, bV, Function.comp_def]
  | dict _ => cases nd'
  | _ => exact h

theorem sc_check_missing : FnScope ["missing", "index"] ["missing"] (defScope (top 10)) := ⟨rfl, rfl, rfl, by decide +kernel, rfl, by decide +kernel, by decide +kernel⟩
/-- missing as it has to be -/
def okMiss : Dt → Bool
  | .list ds => decide (1 ≤ ds.length ∧ ds.length ≤ 8) && (firstOut 0 8 0 ds).isNone && ds.all fun d => !isDict d
  | _ => false
def spec_check_missing : List Dt → W OT := S1 fun d P _ n => okMiss d = true ∧ P (.sh .none) n

theorem G_check_missing (T : Txt K mg base tabs a) : FnOk Pr w K mg base (L2.CX Pr w) 3 a.f_check_missing a.d_check_missing ["missing"] (spW tabs mg spec_check_missing) := by
  have nd := (sc_check_missing).nd
  refine impW (okW (k := 2) T.F_check_missing sc_check_missing fun A outer s H E hr tk po =>
    (ss_cons (s_if (t_not (t_val (x_frz (o_call (a_cons (x_var (pv 0)) a_nil) (fun _ q => pe_callS (G_is_short_list T) (hr.mono (by decide)) (by rfl) T.m_is_short_list T.F_is_short_list.kp T.b_is_short_list (fun _ => passAt tk _) q))))) (ss_one s_never) ss_nil)
    (ss_cons (s_set (x_frz (o_call (a_cons (x_var (pv 0)) (a_cons x_int a_nil)) (fun _ q => pe_callS (G_first_out_of_line T) (hr.mono (by decide)) (by rfl) T.m_first_out_of_line T.F_first_out_of_line.kp T.b_first_out_of_line (fun _ => passAt tk _) q))) (fun _ q => ps_set (i := 1) nd rfl (by first | exact Or.inl rfl | exact Or.inr rfl) q))
    (ss_one (s_if (t_cmp op_notN rd_notN (x_var (pv 1)) x_non (nomark _)) (ss_one s_never) ss_nil))))) fun xs P E n h => ?_
  refine sp1 h fun d e h => ?_
  subst e
  obtain ⟨nd, hp⟩ := h
  cases d with
  | list ds =>
    simp only [okMiss, Bool.and_eq_true, decide_eq_true_eq] at nd
    obtain ⟨⟨h1, h2⟩, h3⟩ := nd
    simp only [wDef, wRet, wE, W.map, W.bind, W.ret, W.opt, W.ite, W.no, wVar, wBin, wToB, wChain, wNotT, wAndT, wOrT, wAndV, wOrV, wNotV, wIf, wCons, wArgs, wConsO, wLs, wTp, wBinO, wUn, wUnO, wCut, wMove, wNext, wThen, wSet, wSetO, wTgt, wPairO, wDrop, wRetN, wBrk, wCont, wNever, wIfS, wAug, wFor, wBody, wCall, wLc, wGen, wClause, startD, slO, wipeD, dPair, viewD, wLend, wLendT, wLendO, List.length_cons, List.length_nil, List.map_cons, List.map_nil, List.replicate_zero, List.replicate_succ, List.append_nil, List.nil_append, List.cons_append, List.getElem?_cons_zero, List.getElem?_cons_succ, List.getElem?_nil, List.set_cons_zero, List.set_cons_succ, Nat.zero_add, Nat.reduceAdd, Nat.reduceSub, Nat.sub_self, Nat.sub_zero, if_true, if_false, toB_bool, Option.map_some, Option.some.injEq, exists_eq_left', exists_eq_left, true_and, and_true, Bool.false_eq_true, S1, S2, S3]
    refine ⟨rfl, ?_⟩
    simp only [OT.val, W.opt, toB_bool, Option.some.injEq, exists_eq_left', shortL, decide_eq_true h1, Bool.not_true, Bool.false_eq_true, if_false]
    refine ⟨ds, 0, rfl, rfl, fun d hd => by simpa using List.all_eq_true.mp h3 d hd, ?_⟩
    have e : firstOut 0 8 0 ds = none := by simpa using h2
    rw [e]
    exact ⟨_, rfl, _, rfl, hp⟩
  | _ => cases nd

theorem sc_first_unsorted : FnScope ["missing", "rows", "index", "row"] ["missing", "rows"] (defScope (top 15)) := ⟨rfl, rfl, rfl, by decide +kernel, rfl, by decide +kernel, by decide +kernel⟩
/-- the first row (from 1) in which the piece isn't sorted; i: the row's index, up: the row above, if there is one -/
def firstU : Nat → List Int → List (List Int) → Option (Int × List Int) → Option Nat
  | _, _, [], _ => none
  | _, [], _ :: _, _ => none
  | i, m :: ms, r :: rs, up => if fallsA r = true then some (i + 1) else
    match up with
    | some (m', u) => if failsB u (r.drop (m' - m).toNat) = true then some (i + 1) else firstU (i + 1) ms rs (some (m, r))
    | none => firstU (i + 1) ms rs (some (m, r))
def rowsD (rs : List (List Int)) : Dt := .list (rs.map intsD)
def spec_first_unsorted : List Dt → W OT := S2 fun d1 d2 P _ n => ∃ (ms : List Int) (rs : List (List Int)), d1 = intsD ms ∧ d2 = rowsD rs ∧ ms.length = rs.length ∧ (∀ r ∈ rs, r.length ≤ 100000) ∧ (∀ i, i + 1 < ms.length → ms.getD (i + 1) 0 ≤ ms.getD i 0) ∧ P (.sh (orN (firstU 0 ms rs none))) n

theorem G_first_unsorted (T : Txt K mg base tabs a) : FnOk Pr w K mg base (L2.CX Pr w) 3 a.f_first_unsorted a.d_first_unsorted ["missing", "rows"] (spW tabs mg spec_first_unsorted) := by
  have nd := (sc_first_unsorted).nd
  refine impW (okW (k := 2) T.F_first_unsorted sc_first_unsorted fun A outer s H E hr tk po =>
    (ss_cons (s_for (i_enum (a_cons (x_var (pv 1)) a_nil) (fun _ q => pi_enum rfl T.n_enumerate q)) (g_pair (pg_tup rfl (pgs_cons (pg_name (i := 2) nd rfl (by first | exact Or.inl rfl | exact Or.inr rfl)) (pgs_cons (pg_name (i := 3) nd rfl (by first | exact Or.inl rfl | exact Or.inr rfl)) pgs_nil)))) (ss_cons (s_if (t_val (x_frz (o_call (a_cons (x_var (pv 3)) a_nil) (fun _ q => pe_callS (G_falls_along T) (hr.mono (by decide)) (by rfl) T.m_falls_along T.F_falls_along.kp T.b_falls_along (fun _ => passAt tk _) q)))) (ss_one (s_ret (o_sh (x_op op_addD rd_add (x_var (pv 2)) x_int)))) ss_nil)
    (ss_one (s_if (t_w (w_and (t_cmp op_gt rd_gt (x_var (pv 2)) x_int (nomark _)) (w_and1 (t_val (x_frz (o_call (a_cons (x_ix ix_seq rd_ix (x_var (pv 1)) (x_op op_sub rd_sub (x_var (pv 2)) x_int) (fun _ _ => rfl)) (a_cons (x_var (pv 3)) (a_cons (x_op op_sub rd_sub (x_ix ix_seq rd_ix (x_var (pv 0)) (x_op op_sub rd_sub (x_var (pv 2)) x_int) (fun _ _ => rfl)) (x_ix ix_seq rd_ix (x_var (pv 0)) (x_var (pv 2)) (fun _ _ => rfl))) a_nil))) (fun _ q => pe_callS (G_fails_below T) (hr.mono (by decide)) (by rfl) T.m_fails_below T.F_fails_below.kp T.b_fails_below (fun _ => passAt tk _) q))))))) (ss_one (s_ret (o_sh (x_op op_addD rd_add (x_var (pv 2)) x_int)))) ss_nil))) (fun _ _ _ a b c => ps_for po rfl a b c))
    (ss_one (s_ret (o_sh x_non))))) fun xs P E n h => ?_
  refine sp2 h fun d1 d2 e h => ?_
  subst e
  obtain ⟨ms, rs, rfl, rfl, hl, hr, hm, h⟩ := h
  simp only [wDef, wRet, wE, W.map, W.bind, W.ret, W.opt, W.ite, W.no, wVar, wBin, wToB, wChain, wNotT, wAndT, wOrT, wAndV, wOrV, wNotV, wIf, wCons, wArgs, wConsO, wLs, wTp, wBinO, wUn, wUnO, wCut, wMove, wNext, wThen, wSet, wSetO, wTgt, wPairO, wDrop, wRetN, wBrk, wCont, wNever, wIfS, wAug, wFor, wBody, wCall, wLc, wGen, wClause, startD, slO, wipeD, dPair, viewD, wLend, wLendT, wLendO, List.length_cons, List.length_nil, List.map_cons, List.map_nil, List.replicate_zero, List.replicate_succ, List.append_nil, List.nil_append, List.cons_append, List.getElem?_cons_zero, List.getElem?_cons_succ, List.getElem?_nil, List.set_cons_zero, List.set_cons_succ, Nat.zero_add, Nat.reduceAdd, Nat.reduceSub, Nat.sub_self, Nat.sub_zero, if_true, if_false, toB_bool, Option.map_some, Option.some.injEq, exists_eq_left', exists_eq_left, true_and, and_true, Bool.false_eq_true, S1, S2, S3]
  simp only [rowsD, kEnum, Option.some.injEq, exists_eq_left', dEnum_F]
  refine ⟨fun r ρ n' => n' = n ∧ ∃ i s2 s3 up rest mrest, r = enumF i (rest.map intsD) ∧ rest = rs.drop i ∧ mrest = ms.drop i ∧ ρ = [.d (intsD ms), .d (.list (rs.map intsD)), s2, s3] ∧ firstU i mrest rest up = firstU 0 ms rs none ∧ up = (if i = 0 then none else some (ms.getD (i - 1) 0, rs.getD (i - 1) [])), ⟨rfl, 0, _, _, none, rs, ms, rfl, rfl, rfl, rfl, rfl, rfl⟩, ?_, ?_⟩
  · rintro d r ρ n' ⟨rfl, i, s2, s3, up, rest, mrest, hr0, hrest, hmrest, rfl, hf, hup⟩
    cases rest with
    | nil => cases hr0
    | cons row rest =>
      rw [List.map_cons, enumF_cons] at hr0
      cases hr0
      have hil : i < rs.length := by
        rcases Nat.lt_or_ge i rs.length with z | z
        · exact z
        · rw [List.drop_eq_nil_of_le z] at hrest; cases hrest
      have hml : i < ms.length := by omega
      rw [List.drop_eq_getElem_cons hil] at hrest
      rw [List.drop_eq_getElem_cons hml] at hmrest
      obtain ⟨hrow, hrest⟩ := List.cons.inj hrest
      subst hmrest
      have hrm : row ∈ rs := by rw [hrow]; exact List.getElem_mem hil
      have hmi : ms.getD i 0 = ms[i] := by rw [List.getD_eq_getElem?_getD, List.getElem?_eq_getElem hml]; rfl
      have hri : rs.getD i [] = row := by rw [List.getD_eq_getElem?_getD, List.getElem?_eq_getElem hil, hrow]; rfl
      have next : ∀ n'' : Nat, n'' = n' → firstU (i + 1) (ms.drop (i + 1)) rest (some (ms[i], row)) = firstU 0 ms rs none →
          n'' = n' ∧ ∃ i_1 s2 s3 up rest_1 mrest, enumF (i + 1) (List.map intsD rest) = enumF i_1 (List.map intsD rest_1) ∧ rest_1 = List.drop i_1 rs ∧ mrest = List.drop i_1 ms ∧
            [Sl.d (intsD ms), Sl.d (PyData.list (List.map intsD rs)), Sl.d (PyData.int i), Sl.d (intsD row)] = [Sl.d (intsD ms), Sl.d (PyData.list (List.map intsD rs)), s2, s3] ∧
              firstU i_1 mrest rest_1 up = firstU 0 ms rs none ∧ up = if i_1 = 0 then none else some (ms.getD (i_1 - 1) 0, rs.getD (i_1 - 1) []) := fun n'' e q =>
        ⟨e, i + 1, _, _, _, rest, _, rfl, hrest, rfl, rfl, q, by rw [if_neg (by omega), Nat.add_sub_cancel, hmi, hri]⟩
      simp only [wDef, wRet, wE, W.map, W.bind, W.ret, W.opt, W.ite, W.no, wVar, wBin, wToB, wChain, wNotT, wAndT, wOrT, wAndV, wOrV, wNotV, wIf, wCons, wArgs, wConsO, wLs, wTp, wBinO, wUn, wUnO, wCut, wMove, wNext, wThen, wSet, wSetO, wTgt, wPairO, wDrop, wRetN, wBrk, wCont, wNever, wIfS, wAug, wFor, wBody, wCall, wLc, wGen, wClause, startD, slO, wipeD, dPair, viewD, wLend, wLendT, wLendO, List.length_cons, List.length_nil, List.map_cons, List.map_nil, List.replicate_zero, List.replicate_succ, List.append_nil, List.nil_append, List.cons_append, List.getElem?_cons_zero, List.getElem?_cons_succ, List.getElem?_nil, List.set_cons_zero, List.set_cons_succ, Nat.zero_add, Nat.reduceAdd, Nat.reduceSub, Nat.sub_self, Nat.sub_zero, if_true, if_false, toB_bool, Option.map_some, Option.some.injEq, exists_eq_left', exists_eq_left, true_and, and_true, Bool.false_eq_true, S1, S2, S3]
      refine ⟨row, rfl, hr row hrm, ?_⟩
      simp only [OT.val, W.opt, toB_bool, Option.some.injEq, exists_eq_left']
      simp only [firstU] at hf
      by_cases h1 : fallsA row = true
      · rw [if_pos h1] at hf ⊢
        refine ⟨_, rfl, ?_⟩
        rw [← hf] at h
        exact h
      · rw [if_neg h1] at hf ⊢
        simp only [dGt, Option.some.injEq, exists_eq_left', toB_bool]
        by_cases h2 : i = 0
        · subst h2
          rw [if_neg (by simp)]
          rw [if_pos rfl] at hup
          subst hup
          first | exact next n' rfl hf | exact ⟨trivial, (next n' rfl hf).2⟩
        · rw [if_pos (by simp; omega)]
          rw [if_neg h2] at hup
          subst hup
          simp only [dSub, Option.some.injEq, exists_eq_left']
          have e1 : dIx (.list (rs.map intsD)) (.int ((i : Int) - 1)) = some (intsD (rs.getD (i - 1) [])) := dIx_list (by omega) (by
            have : ((i : Int) - 1).toNat = i - 1 := by omega
            rw [this, List.getElem?_map, List.getD_eq_getElem?_getD, List.getElem?_eq_getElem (by omega)]
            rfl)
          have e2 : dIx (intsD ms) (.int ((i : Int) - 1)) = some (.int (ms.getD (i - 1) 0)) := dIx_ints (by omega) (by
            have : ((i : Int) - 1).toNat = i - 1 := by omega
            rw [this, List.getD_eq_getElem?_getD, List.getElem?_eq_getElem (by omega)]
            rfl)
          have e3 : dIx (intsD ms) (.int (i : Int)) = some (.int ms[i]) := dIx_ints (by omega) (by
            rw [Int.toNat_natCast, List.getElem?_eq_getElem hml])
          refine ⟨_, e1, _, e2, _, e3, _, rfl, ?_⟩
          refine ⟨_, _, _, rfl, rfl, rfl, ?_, ?_⟩
          · have := hm (i - 1) (by omega)
            have z : i - 1 + 1 = i := by omega
            rw [z, hmi] at this
            omega
          · dsimp only at hf
            simp only [OT.val, W.opt, toB_bool, Option.some.injEq, exists_eq_left']
            by_cases h3 : failsB (rs.getD (i - 1) []) (row.drop (ms.getD (i - 1) 0 - ms[i]).toNat) = true
            · rw [if_pos h3] at hf ⊢
              refine ⟨_, rfl, ?_⟩
              rw [← hf] at h
              exact h
            · rw [if_neg h3] at hf ⊢
              first | exact next n' rfl hf | exact ⟨trivial, (next n' rfl hf).2⟩
  · rintro ρ n' ⟨rfl, i, s2, s3, up, rest, mrest, hr0, hrest, hmrest, rfl, hf, hup⟩
    cases rest with
    | cons _ _ => cases hr0
    | nil =>
      simp only [wDef, wRet, wE, W.map, W.bind, W.ret, W.opt, W.ite, W.no, wVar, wBin, wToB, wChain, wNotT, wAndT, wOrT, wAndV, wOrV, wNotV, wIf, wCons, wArgs, wConsO, wLs, wTp, wBinO, wUn, wUnO, wCut, wMove, wNext, wThen, wSet, wSetO, wTgt, wPairO, wDrop, wRetN, wBrk, wCont, wNever, wIfS, wAug, wFor, wBody, wCall, wLc, wGen, wClause, startD, slO, wipeD, dPair, viewD, wLend, wLendT, wLendO, List.length_cons, List.length_nil, List.map_cons, List.map_nil, List.replicate_zero, List.replicate_succ, List.append_nil, List.nil_append, List.cons_append, List.getElem?_cons_zero, List.getElem?_cons_succ, List.getElem?_nil, List.set_cons_zero, List.set_cons_succ, Nat.zero_add, Nat.reduceAdd, Nat.reduceSub, Nat.sub_self, Nat.sub_zero, if_true, if_false, toB_bool, Option.map_some, Option.some.injEq, exists_eq_left', exists_eq_left, true_and, and_true, Bool.false_eq_true, S1, S2, S3]
      have e : firstU i mrest [] up = none := by cases mrest <;> rfl
      rw [e] at hf
      rw [← hf] at h
      exact h

theorem sc_check_rows_beside : FnScope ["missing", "rows", "furthest", "index", "row"] ["missing", "rows"] (defScope (top 11)) := ⟨rfl, rfl, rfl, by decide +kernel, rfl, by decide +kernel, by decide +kernel⟩
/-- rows as they have to be beside missing -/
def okRows (far : Int) : List Int → List (List Int) → Bool
  | m :: ms, r :: rs => decide (m + r.length ≤ far) && okRows (m + r.length) ms rs
  | [], [] => true
  | _, _ => false
theorem okRows_len : ∀ {far : Int} {ms : List Int} {rs : List (List Int)}, okRows far ms rs = true → ms.length = rs.length
  | _, [], [], _ => rfl
  | _, m :: ms, r :: rs, h => by
    simp only [okRows, Bool.and_eq_true] at h
    simp [okRows_len h.2]
  | _, [], _ :: _, h => by simp [okRows] at h
  | _, _ :: _, [], h => by simp [okRows] at h
def spec_check_rows_beside : List Dt → W OT := S2 fun d1 d2 P _ n => ∃ (ms : List Int) (rs : List (List Int)), d1 = intsD ms ∧ d2 = rowsD rs ∧ okRows 8 ms rs = true ∧ P (.sh .none) n

theorem G_check_rows_beside (T : Txt K mg base tabs a) : FnOk Pr w K mg base (L2.CX Pr w) 4 a.f_check_rows_beside a.d_check_rows_beside ["missing", "rows"] (spW tabs mg spec_check_rows_beside) := by
  have nd := (sc_check_rows_beside).nd
  refine impW (okW (k := 3) T.F_check_rows_beside sc_check_rows_beside fun A outer s H E hr tk po =>
    (ss_cons (s_if (t_w (w_or (t_not (t_val (x_isi (T := "list") (x_var (pv 1)) (fun _ q => pe_callB call_isi (by rfl) T.n_isinstance (by decide +kernel) (pa_cons q (pa_cons (pe_bltn (v := .ty "list") (by rfl) T.n_list (by decide +kernel) rfl) pa_nil)))))) (w_or1 (t_cmp (op_neD hr.units) rd_ne (x_args rc_len (a_cons (x_var (pv 1)) a_nil) (fun _ q => pe_callB call_len_seq (by rfl) T.n_len (by decide +kernel) q)) (x_args rc_len (a_cons (x_var (pv 0)) a_nil) (fun _ q => pe_callB call_len_seq (by rfl) T.n_len (by decide +kernel) q)) (nomark _))))) (ss_one s_never) ss_nil)
    (ss_cons (s_set (x_cst (by rfl) T.m_MOST) (fun _ q => ps_set (i := 2) nd rfl (by first | exact Or.inl rfl | exact Or.inr rfl) q))
    (ss_one (s_for (i_enum (a_cons (x_var (pv 1)) a_nil) (fun _ q => pi_enum rfl T.n_enumerate q)) (g_pair (pg_tup rfl (pgs_cons (pg_name (i := 3) nd rfl (by first | exact Or.inl rfl | exact Or.inr rfl)) (pgs_cons (pg_name (i := 4) nd rfl (by first | exact Or.inl rfl | exact Or.inr rfl)) pgs_nil)))) (ss_cons (s_if (t_w (w_or (t_not (t_val (x_frz (o_call (a_cons (x_var (pv 4)) a_nil) (fun _ q => pe_callS (G_are_whole T) (hr.mono (by decide)) (by rfl) T.m_are_whole T.F_are_whole.kp T.b_are_whole (fun _ => passAt tk _) q))))) (w_or1 (t_cmp op_gt rd_gt (x_op op_addD rd_add (x_ix ix_seq rd_ix (x_var (pv 0)) (x_var (pv 3)) (fun _ _ => rfl)) (x_args rc_len (a_cons (x_var (pv 4)) a_nil) (fun _ q => pe_callB call_len_seq (by rfl) T.n_len (by decide +kernel) q))) (x_var (pv 2)) (nomark _))))) (ss_one s_never) ss_nil)
    (ss_one (s_set (x_op op_addD rd_add (x_ix ix_seq rd_ix (x_var (pv 0)) (x_var (pv 3)) (fun _ _ => rfl)) (x_args rc_len (a_cons (x_var (pv 4)) a_nil) (fun _ q => pe_callB call_len_seq (by rfl) T.n_len (by decide +kernel) q))) (fun _ q => ps_set (i := 2) nd rfl (by first | exact Or.inl rfl | exact Or.inr rfl) q)))) (fun _ _ _ a b c => ps_for po rfl a b c)))))) fun xs P E n h => ?_
  refine sp2 h fun d1 d2 e h => ?_
  subst e
  obtain ⟨ms, rs, rfl, rfl, hk, h⟩ := h
  have hl := okRows_len hk
  have hsh : SeqAt.shaped (.int (rs.length : Int)) = true ∧ SeqAt.shaped (.int (ms.length : Int)) = true := ⟨rfl, rfl⟩
  simp only [wDef, wRet, wE, W.map, W.bind, W.ret, W.opt, W.ite, W.no, wVar, wBin, wToB, wChain, wNotT, wAndT, wOrT, wAndV, wOrV, wNotV, wIf, wCons, wArgs, wConsO, wLs, wTp, wBinO, wUn, wUnO, wCut, wMove, wNext, wThen, wSet, wSetO, wTgt, wPairO, wDrop, wRetN, wBrk, wCont, wNever, wIfS, wAug, wFor, wBody, wCall, wLc, wGen, wClause, startD, slO, wipeD, dPair, viewD, wLend, wLendT, wLendO, List.length_cons, List.length_nil, List.map_cons, List.map_nil, List.replicate_zero, List.replicate_succ, List.append_nil, List.nil_append, List.cons_append, List.getElem?_cons_zero, List.getElem?_cons_succ, List.getElem?_nil, List.set_cons_zero, List.set_cons_succ, Nat.zero_add, Nat.reduceAdd, Nat.reduceSub, Nat.sub_self, Nat.sub_zero, if_true, if_false, toB_bool, Option.map_some, Option.some.injEq, exists_eq_left', exists_eq_left, true_and, and_true, Bool.false_eq_true, S1, S2, S3]
  refine ⟨.bool true, isi_list (d := rowsD rs) rfl, true, rfl, ?_⟩
  rw [if_neg (by decide)]
  refine ⟨.int (rs.length : Int), by simp [rowsD, fLen], .int (ms.length : Int), by simp [intsD, fLen], .bool false, ?_, false, rfl, ?_⟩
  · unfold dNe
    rw [if_pos ⟨⟨rfl, rfl⟩, rfl, rfl⟩, hl]
    simp [PyData.eqv]
  rw [if_neg (by decide)]
  simp only [rowsD, kEnum, Option.some.injEq, exists_eq_left', dEnum_F]
  refine ⟨fun r ρ n' => n' = n ∧ ∃ (i : Nat) (far : Int) (s3 s4 : Sl) (rest : List (List Int)), r = enumF i (rest.map intsD) ∧ ρ = [.d (intsD ms), .d (.list (rs.map intsD)), .d (.int far), s3, s4] ∧ okRows far (ms.drop i) rest = true, ⟨rfl, 0, 8, _, _, rs, rfl, rfl, hk⟩, ?_, ?_⟩
  · rintro d r ρ n' ⟨rfl, i, far, s3, s4, rest, hr, rfl, hf⟩
    cases rest with
    | nil => cases hr
    | cons row rest =>
      rw [List.map_cons, enumF_cons] at hr
      cases hr
      have hil : i < ms.length := by
        rcases Nat.lt_or_ge i ms.length with z | z
        · exact z
        · rw [List.drop_eq_nil_of_le z] at hf; cases hf
      rw [List.drop_eq_getElem_cons hil] at hf
      simp only [okRows, Bool.and_eq_true, decide_eq_true_eq] at hf
      have e3 : dIx (intsD ms) (.int (i : Int)) = some (.int ms[i]) := dIx_ints (by omega) (by rw [Int.toNat_natCast, List.getElem?_eq_getElem hil])
      have ew : areW (intsD row) = true := by simp [areW, intsD, isW]
      have el : fLen [intsD row] = some (.int (row.length : Int)) := by simp [fLen, intsD]
      simp only [wDef, wRet, wE, W.map, W.bind, W.ret, W.opt, W.ite, W.no, wVar, wBin, wToB, wChain, wNotT, wAndT, wOrT, wAndV, wOrV, wNotV, wIf, wCons, wArgs, wConsO, wLs, wTp, wBinO, wUn, wUnO, wCut, wMove, wNext, wThen, wSet, wSetO, wTgt, wPairO, wDrop, wRetN, wBrk, wCont, wNever, wIfS, wAug, wFor, wBody, wCall, wLc, wGen, wClause, startD, slO, wipeD, dPair, viewD, wLend, wLendT, wLendO, List.length_cons, List.length_nil, List.map_cons, List.map_nil, List.replicate_zero, List.replicate_succ, List.append_nil, List.nil_append, List.cons_append, List.getElem?_cons_zero, List.getElem?_cons_succ, List.getElem?_nil, List.set_cons_zero, List.set_cons_succ, Nat.zero_add, Nat.reduceAdd, Nat.reduceSub, Nat.sub_self, Nat.sub_zero, if_true, if_false, toB_bool, Option.map_some, Option.some.injEq, exists_eq_left', exists_eq_left, true_and, and_true, Bool.false_eq_true, S1, S2, S3]
      refine ⟨by simp [noDs, intsD, isDict], ?_⟩
      simp only [OT.val, W.opt, toB_bool, Option.some.injEq, exists_eq_left', ew, Bool.not_true, Bool.false_eq_true, if_false]
      refine ⟨_, e3, _, el, _, rfl, _, rfl, _, rfl, ?_⟩
      dsimp only
      rw [decide_eq_false (by omega), if_neg (by decide)]
      refine ⟨_, e3, _, el, _, rfl, ?_⟩
      first | exact ⟨trivial, i + 1, _, _, _, rest, rfl, rfl, hf.2⟩ | exact ⟨rfl, i + 1, _, _, _, rest, rfl, rfl, hf.2⟩
  · rintro ρ n' ⟨rfl, i, far, s3, s4, rest, hr, rfl, hf⟩
    cases rest with
    | cons _ _ => cases hr
    | nil =>
      simp only [wDef, wRet, wE, W.map, W.bind, W.ret, W.opt, W.ite, W.no, wVar, wBin, wToB, wChain, wNotT, wAndT, wOrT, wAndV, wOrV, wNotV, wIf, wCons, wArgs, wConsO, wLs, wTp, wBinO, wUn, wUnO, wCut, wMove, wNext, wThen, wSet, wSetO, wTgt, wPairO, wDrop, wRetN, wBrk, wCont, wNever, wIfS, wAug, wFor, wBody, wCall, wLc, wGen, wClause, startD, slO, wipeD, dPair, viewD, wLend, wLendT, wLendO, List.length_cons, List.length_nil, List.map_cons, List.map_nil, List.replicate_zero, List.replicate_succ, List.append_nil, List.nil_append, List.cons_append, List.getElem?_cons_zero, List.getElem?_cons_succ, List.getElem?_nil, List.set_cons_zero, List.set_cons_succ, Nat.zero_add, Nat.reduceAdd, Nat.reduceSub, Nat.sub_self, Nat.sub_zero, if_true, if_false, toB_bool, Option.map_some, Option.some.injEq, exists_eq_left', exists_eq_left, true_and, and_true, Bool.false_eq_true, S1, S2, S3]
      exact h

theorem sc_check_ascending : FnScope ["missing", "rows", "row"] ["missing", "rows"] (defScope (top 12)) := ⟨rfl, rfl, rfl, by decide +kernel, rfl, by decide +kernel, by decide +kernel⟩
def spec_check_ascending : List Dt → W OT := S2 fun d1 d2 P _ n => ∃ (ms : List Int) (rs : List (List Int)), d1 = intsD ms ∧ d2 = rowsD rs ∧ ms.length = rs.length ∧ (∀ r ∈ rs, r.length ≤ 100000) ∧ (∀ i, i + 1 < ms.length → ms.getD (i + 1) 0 ≤ ms.getD i 0) ∧ firstU 0 ms rs none = none ∧ P (.sh .none) n

theorem G_check_ascending (T : Txt K mg base tabs a) : FnOk Pr w K mg base (L2.CX Pr w) 4 a.f_check_ascending a.d_check_ascending ["missing", "rows"] (spW tabs mg spec_check_ascending) := by
  have nd := (sc_check_ascending).nd
  refine impW (okW (k := 3) T.F_check_ascending sc_check_ascending fun A outer s H E hr tk po =>
    (ss_cons (s_set (x_frz (o_call (a_cons (x_var (pv 0)) (a_cons (x_var (pv 1)) a_nil)) (fun _ q => pe_callS (G_first_unsorted T) (hr.mono (by decide)) (by rfl) T.m_first_unsorted T.F_first_unsorted.kp T.b_first_unsorted (fun _ => passAt tk _) q))) (fun _ q => ps_set (i := 2) nd rfl (by first | exact Or.inl rfl | exact Or.inr rfl) q))
    (ss_one (s_if (t_cmp op_notN rd_notN (x_var (pv 2)) x_non (nomark _)) (ss_one s_never) ss_nil)))) fun xs P E n h => ?_
  refine sp2 h fun d1 d2 e h => ?_
  subst e
  obtain ⟨ms, rs, rfl, rfl, k1, k2, k3, hs, h⟩ := h
  simp only [wDef, wRet, wE, W.map, W.bind, W.ret, W.opt, W.ite, W.no, wVar, wBin, wToB, wChain, wNotT, wAndT, wOrT, wAndV, wOrV, wNotV, wIf, wCons, wArgs, wConsO, wLs, wTp, wBinO, wUn, wUnO, wCut, wMove, wNext, wThen, wSet, wSetO, wTgt, wPairO, wDrop, wRetN, wBrk, wCont, wNever, wIfS, wAug, wFor, wBody, wCall, wLc, wGen, wClause, startD, slO, wipeD, dPair, viewD, wLend, wLendT, wLendO, List.length_cons, List.length_nil, List.map_cons, List.map_nil, List.replicate_zero, List.replicate_succ, List.append_nil, List.nil_append, List.cons_append, List.getElem?_cons_zero, List.getElem?_cons_succ, List.getElem?_nil, List.set_cons_zero, List.set_cons_succ, Nat.zero_add, Nat.reduceAdd, Nat.reduceSub, Nat.sub_self, Nat.sub_zero, if_true, if_false, toB_bool, Option.map_some, Option.some.injEq, exists_eq_left', exists_eq_left, true_and, and_true, Bool.false_eq_true, S1, S2, S3]
  refine ⟨ms, rs, rfl, rfl, k1, k2, k3, ?_⟩
  rw [hs]
  exact ⟨_, rfl, _, rfl, h⟩

theorem sc_check_piece : FnScope ["missing", "rows"] ["missing", "rows"] (defScope (top 13)) := ⟨rfl, rfl, rfl, by decide +kernel, rfl, by decide +kernel, by decide +kernel⟩
/-- a piece as it has to be (sorted or not) -/
def okPiece (ms : List Int) (rs : List (List Int)) : Bool := okMiss (intsD ms) && okRows 8 ms rs
def spec_check_piece : List Dt → W OT := S2 fun d1 d2 P _ n => ∃ (ms : List Int) (rs : List (List Int)), d1 = intsD ms ∧ d2 = rowsD rs ∧ okPiece ms rs = true ∧ P (.sh .none) n

theorem G_check_piece (T : Txt K mg base tabs a) : FnOk Pr w K mg base (L2.CX Pr w) 5 a.f_check_piece a.d_check_piece ["missing", "rows"] (spW tabs mg spec_check_piece) := by
  have nd := (sc_check_piece).nd
  refine impW (okW (k := 4) T.F_check_piece sc_check_piece fun A outer s H E hr tk po =>
    (ss_cons (s_drop (x_frz (o_call (a_cons (x_var (pv 0)) a_nil) (fun _ q => pe_callS (G_check_missing T) (hr.mono (by decide)) (by rfl) T.m_check_missing T.F_check_missing.kp T.b_check_missing (fun _ => passAt tk _) q))) (fun _ q => ps_expr q))
    (ss_one (s_drop (x_frz (o_call (a_cons (x_var (pv 0)) (a_cons (x_var (pv 1)) a_nil)) (fun _ q => pe_callS (G_check_rows_beside T) (hr.mono (by decide)) (by rfl) T.m_check_rows_beside T.F_check_rows_beside.kp T.b_check_rows_beside (fun _ => passAt tk _) q))) (fun _ q => ps_expr q))))) fun xs P E n h => ?_
  refine sp2 h fun d1 d2 e h => ?_
  subst e
  obtain ⟨ms, rs, rfl, rfl, hk, h⟩ := h
  simp only [okPiece, Bool.and_eq_true] at hk
  simp only [wDef, wRet, wE, W.map, W.bind, W.ret, W.opt, W.ite, W.no, wVar, wBin, wToB, wChain, wNotT, wAndT, wOrT, wAndV, wOrV, wNotV, wIf, wCons, wArgs, wConsO, wLs, wTp, wBinO, wUn, wUnO, wCut, wMove, wNext, wThen, wSet, wSetO, wTgt, wPairO, wDrop, wRetN, wBrk, wCont, wNever, wIfS, wAug, wFor, wBody, wCall, wLc, wGen, wClause, startD, slO, wipeD, dPair, viewD, wLend, wLendT, wLendO, List.length_cons, List.length_nil, List.map_cons, List.map_nil, List.replicate_zero, List.replicate_succ, List.append_nil, List.nil_append, List.cons_append, List.getElem?_cons_zero, List.getElem?_cons_succ, List.getElem?_nil, List.set_cons_zero, List.set_cons_succ, Nat.zero_add, Nat.reduceAdd, Nat.reduceSub, Nat.sub_self, Nat.sub_zero, if_true, if_false, toB_bool, Option.map_some, Option.some.injEq, exists_eq_left', exists_eq_left, true_and, and_true, Bool.false_eq_true, S1, S2, S3]
  refine ⟨hk.1, ms, rs, rfl, rfl, hk.2, h⟩

theorem sc_is_sorted : FnScope ["missing", "rows"] ["missing", "rows"] (defScope (top 19)) := ⟨rfl, rfl, rfl, by decide +kernel, rfl, by decide +kernel, by decide +kernel⟩
theorem firstOut_le : ∀ (ds : List Int) (l g : Int) (i : Nat), firstOut l g i (ds.map .int) = none → (∀ d ∈ ds, d ≤ g) ∧ ∀ j, j + 1 < ds.length → ds.getD (j + 1) 0 ≤ ds.getD j 0
  | [], _, _, _, _ => ⟨fun _ h => (by cases h), fun _ h => (by simp at h)⟩
  | a :: r, l, g, i, h => by
    simp only [List.map_cons, firstOut] at h
    by_cases c : l ≤ a ∧ a ≤ g
    · rw [if_pos c] at h
      obtain ⟨h1, h2⟩ := firstOut_le r l a (i + 1) h
      refine ⟨fun d hd => ?_, fun j hj => ?_⟩
      · rcases List.mem_cons.mp hd with rfl | z
        · exact c.2
        · have := h1 d z
          omega
      · cases j with
        | zero =>
          cases r with
          | nil => simp at hj
          | cons b r => exact h1 b List.mem_cons_self
        | succ j => exact h2 j (by simpa using hj)
    · rw [if_neg c] at h; cases h
theorem okRows_short : ∀ {far : Int} {ms : List Int} {rs : List (List Int)}, okRows far ms rs = true → (∀ m ∈ ms, 0 ≤ m) → far ≤ 8 → ∀ r ∈ rs, r.length ≤ 8
  | _, [], [], _, _, _, r, hr => by cases hr
  | far, m :: ms, r :: rs, h, hm, hf, r', hr => by
    simp only [okRows, Bool.and_eq_true, decide_eq_true_eq] at h
    have := hm m List.mem_cons_self
    rcases List.mem_cons.mp hr with rfl | z
    · omega
    · exact okRows_short h.2 (fun m hm' => hm m (List.mem_cons_of_mem _ hm')) (by omega) r' z
  | _, [], _ :: _, h, _, _, _, _ => by simp [okRows] at h
  | _, _ :: _, [], h, _, _, _, _ => by simp [okRows] at h
theorem firstOut_ge : ∀ (ds : List Int) (l g : Int) (i : Nat), firstOut l g i (ds.map .int) = none → ∀ d ∈ ds, l ≤ d
  | [], _, _, _, _ => fun _ h => by cases h
  | a :: r, l, g, i, h => fun d hd => by
    simp only [List.map_cons, firstOut] at h
    by_cases c : l ≤ a ∧ a ≤ g
    · rw [if_pos c] at h
      rcases List.mem_cons.mp hd with rfl | z
      · exact c.1
      · exact firstOut_ge r l a (i + 1) h d z
    · rw [if_neg c] at h; cases h
theorem okPiece_facts {ms : List Int} {rs : List (List Int)} (h : okPiece ms rs = true) : ms.length = rs.length ∧ (∀ r ∈ rs, r.length ≤ 8) ∧ (∀ i, i + 1 < ms.length → ms.getD (i + 1) 0 ≤ ms.getD i 0) ∧ 1 ≤ ms.length ∧ ms.length ≤ 8 ∧ (∀ m ∈ ms, 0 ≤ m ∧ m ≤ 8) := by
  simp only [okPiece, okMiss, intsD, Bool.and_eq_true, decide_eq_true_eq, List.length_map, Option.isNone_iff_eq_none] at h
  obtain ⟨⟨⟨h1, h2⟩, _⟩, h3⟩ := h
  obtain ⟨k1, k2⟩ := firstOut_le ms 0 8 0 h2
  have k3 := firstOut_ge ms 0 8 0 h2
  exact ⟨okRows_len h3, okRows_short h3 k3 (by omega), k2, h1.1, h1.2, fun m hm => ⟨k3 m hm, k1 m hm⟩⟩
def sortedP (ms : List Int) (rs : List (List Int)) : Bool := (firstU 0 ms rs none).isNone
def spec_is_sorted : List Dt → W OT := S2 fun d1 d2 P _ n => ∃ (ms : List Int) (rs : List (List Int)), d1 = intsD ms ∧ d2 = rowsD rs ∧ okPiece ms rs = true ∧ P (.sh (.bool (sortedP ms rs))) n

theorem G_is_sorted (T : Txt K mg base tabs a) : FnOk Pr w K mg base (L2.CX Pr w) 6 a.f_is_sorted a.d_is_sorted ["missing", "rows"] (spW tabs mg spec_is_sorted) := by
  have nd := (sc_is_sorted).nd
  refine impW (okW (k := 5) T.F_is_sorted sc_is_sorted fun A outer s H E hr tk po =>
    (ss_cons (s_drop (x_frz (o_call (a_cons (x_var (pv 0)) (a_cons (x_var (pv 1)) a_nil)) (fun _ q => pe_callS (G_check_piece T) (hr.mono (by decide)) (by rfl) T.m_check_piece T.F_check_piece.kp T.b_check_piece (fun _ => passAt tk _) q))) (fun _ q => ps_expr q))
    (ss_one (s_ret (o_sh (x_cmp op_isN rd_isN (x_frz (o_call (a_cons (x_var (pv 0)) (a_cons (x_var (pv 1)) a_nil)) (fun _ q => pe_callS (G_first_unsorted T) (hr.mono (by decide)) (by rfl) T.m_first_unsorted T.F_first_unsorted.kp T.b_first_unsorted (fun _ => passAt tk _) q))) x_non (nomark _))))))) fun xs P E n h => ?_
  refine sp2 h fun d1 d2 e h => ?_
  subst e
  obtain ⟨ms, rs, rfl, rfl, hk, h⟩ := h
  obtain ⟨k1, k2, k3, _⟩ := okPiece_facts hk
  simp only [wDef, wRet, wE, W.map, W.bind, W.ret, W.opt, W.ite, W.no, wVar, wBin, wToB, wChain, wNotT, wAndT, wOrT, wAndV, wOrV, wNotV, wIf, wCons, wArgs, wConsO, wLs, wTp, wBinO, wUn, wUnO, wCut, wMove, wNext, wThen, wSet, wSetO, wTgt, wPairO, wDrop, wRetN, wBrk, wCont, wNever, wIfS, wAug, wFor, wBody, wCall, wLc, wGen, wClause, startD, slO, wipeD, dPair, viewD, wLend, wLendT, wLendO, List.length_cons, List.length_nil, List.map_cons, List.map_nil, List.replicate_zero, List.replicate_succ, List.append_nil, List.nil_append, List.cons_append, List.getElem?_cons_zero, List.getElem?_cons_succ, List.getElem?_nil, List.set_cons_zero, List.set_cons_succ, Nat.zero_add, Nat.reduceAdd, Nat.reduceSub, Nat.sub_self, Nat.sub_zero, if_true, if_false, toB_bool, Option.map_some, Option.some.injEq, exists_eq_left', exists_eq_left, true_and, and_true, Bool.false_eq_true, S1, S2, S3]
  refine ⟨ms, rs, rfl, rfl, hk, ms, rs, rfl, rfl, k1, fun r hr => Nat.le_trans (k2 r hr) (by decide), k3, ?_⟩
  unfold sortedP at h
  cases e : firstU 0 ms rs none with
  | none => rw [e] at h; exact ⟨_, rfl, h⟩
  | some i => rw [e] at h; exact ⟨_, rfl, h⟩

theorem sc_check_sorted_piece : FnScope ["missing", "rows"] ["missing", "rows"] (defScope (top 14)) := ⟨rfl, rfl, rfl, by decide +kernel, rfl, by decide +kernel, by decide +kernel⟩
def spec_check_sorted_piece : List Dt → W OT := S2 fun d1 d2 P _ n => ∃ (ms : List Int) (rs : List (List Int)), d1 = intsD ms ∧ d2 = rowsD rs ∧ okPiece ms rs = true ∧ sortedP ms rs = true ∧ P (.sh .none) n

theorem G_check_sorted_piece (T : Txt K mg base tabs a) : FnOk Pr w K mg base (L2.CX Pr w) 6 a.f_check_sorted_piece a.d_check_sorted_piece ["missing", "rows"] (spW tabs mg spec_check_sorted_piece) := by
  have nd := (sc_check_sorted_piece).nd
  refine impW (okW (k := 5) T.F_check_sorted_piece sc_check_sorted_piece fun A outer s H E hr tk po =>
    (ss_cons (s_drop (x_frz (o_call (a_cons (x_var (pv 0)) (a_cons (x_var (pv 1)) a_nil)) (fun _ q => pe_callS (G_check_piece T) (hr.mono (by decide)) (by rfl) T.m_check_piece T.F_check_piece.kp T.b_check_piece (fun _ => passAt tk _) q))) (fun _ q => ps_expr q))
    (ss_one (s_drop (x_frz (o_call (a_cons (x_var (pv 0)) (a_cons (x_var (pv 1)) a_nil)) (fun _ q => pe_callS (G_check_ascending T) (hr.mono (by decide)) (by rfl) T.m_check_ascending T.F_check_ascending.kp T.b_check_ascending (fun _ => passAt tk _) q))) (fun _ q => ps_expr q))))) fun xs P E n h => ?_
  refine sp2 h fun d1 d2 e h => ?_
  subst e
  obtain ⟨ms, rs, rfl, rfl, hk, hs, h⟩ := h
  obtain ⟨k1, k2, k3, _⟩ := okPiece_facts hk
  simp only [wDef, wRet, wE, W.map, W.bind, W.ret, W.opt, W.ite, W.no, wVar, wBin, wToB, wChain, wNotT, wAndT, wOrT, wAndV, wOrV, wNotV, wIf, wCons, wArgs, wConsO, wLs, wTp, wBinO, wUn, wUnO, wCut, wMove, wNext, wThen, wSet, wSetO, wTgt, wPairO, wDrop, wRetN, wBrk, wCont, wNever, wIfS, wAug, wFor, wBody, wCall, wLc, wGen, wClause, startD, slO, wipeD, dPair, viewD, wLend, wLendT, wLendO, List.length_cons, List.length_nil, List.map_cons, List.map_nil, List.replicate_zero, List.replicate_succ, List.append_nil, List.nil_append, List.cons_append, List.getElem?_cons_zero, List.getElem?_cons_succ, List.getElem?_nil, List.set_cons_zero, List.set_cons_succ, Nat.zero_add, Nat.reduceAdd, Nat.reduceSub, Nat.sub_self, Nat.sub_zero, if_true, if_false, toB_bool, Option.map_some, Option.some.injEq, exists_eq_left', exists_eq_left, true_and, and_true, Bool.false_eq_true, S1, S2, S3]
  refine ⟨ms, rs, rfl, rfl, hk, ms, rs, rfl, rfl, k1, fun r hr => Nat.le_trans (k2 r hr) (by decide), k3, ?_, h⟩
  simpa [sortedP] using hs

theorem sc_word_of : FnScope ["missing", "rows", "row", "number"] ["missing", "rows"] (defScope (top 20)) := ⟨rfl, rfl, rfl, by decide +kernel, rfl, by decide +kernel, by decide +kernel⟩
def wordOf (rs : List (List Int)) : List Int := rs.reverse.flatten
def intsO (xs : List Int) : OT := .ls (xs.map fun x => .sh (.int x))
def spec_word_of : List Dt → W OT := S2 fun d1 d2 P _ n => ∃ (ms : List Int) (rs : List (List Int)), d1 = intsD ms ∧ d2 = rowsD rs ∧ okPiece ms rs = true ∧ sortedP ms rs = true ∧ P (intsO (wordOf rs)) n

theorem G_word_of (T : Txt K mg base tabs a) : FnOk Pr w K mg base (L2.CX Pr w) 7 a.f_word_of a.d_word_of ["missing", "rows"] (spW tabs mg spec_word_of) := by
  have nd := (sc_word_of).nd
  refine impW (okW (k := 6) T.F_word_of sc_word_of fun A outer s H E hr tk po =>
    (ss_cons (s_drop (x_frz (o_call (a_cons (x_var (pv 0)) (a_cons (x_var (pv 1)) a_nil)) (fun _ q => pe_callS (G_check_sorted_piece T) (hr.mono (by decide)) (by rfl) T.m_check_sorted_piece T.F_check_sorted_piece.kp T.b_check_sorted_piece (fun _ => passAt tk _) q))) (fun _ q => ps_expr q))
    (ss_one (s_ret (o_lc2 (own := [(("row" : Str), 2), (("number" : Str), 3)]) (vs1 := [3]) rfl nd (i_rev (a_cons (x_var (pv 1)) a_nil) (fun _ q => pi_reversed rfl T.n_reversed q)) (blkOk_by (own := [(("row" : Str), 2), (("number" : Str), 3)]) (by kernel_rfl)) (by decide) (by decide) (by decide) (fun _ _ _ _ _ => (g_name (pg_name (i := 2) nd rfl (by first | exact Or.inl rfl | exact Or.inr rfl)))) (fun _ _ _ _ _ => ts_nil) (fun _ _ _ _ _ => (i_list (x_var (pv 2)))) (fun _ _ _ _ _ => (g_name (pg_name (i := 3) nd rfl (by first | exact Or.inl rfl | exact Or.inr rfl)))) (fun _ _ _ _ _ => ts_nil) (fun _ _ _ _ _ => (o_sh (x_var (pv 3))))))))) fun xs P E n h => ?_
  refine sp2 h fun d1 d2 e h => ?_
  subst e
  obtain ⟨ms, rs, rfl, rfl, hk, hs, h⟩ := h
  obtain ⟨k1, k2, k3, k4, k5, k6⟩ := okPiece_facts hk
  simp only [wDef, wRet, wE, W.map, W.bind, W.ret, W.opt, W.ite, W.no, wVar, wBin, wToB, wChain, wNotT, wAndT, wOrT, wAndV, wOrV, wNotV, wIf, wCons, wArgs, wConsO, wLs, wTp, wBinO, wUn, wUnO, wCut, wMove, wNext, wThen, wSet, wSetO, wTgt, wPairO, wDrop, wRetN, wBrk, wCont, wNever, wIfS, wAug, wFor, wBody, wCall, wLc, wGen, wClause, startD, slO, wipeD, dPair, viewD, wLend, wLendT, wLendO, List.length_cons, List.length_nil, List.map_cons, List.map_nil, List.replicate_zero, List.replicate_succ, List.append_nil, List.nil_append, List.cons_append, List.getElem?_cons_zero, List.getElem?_cons_succ, List.getElem?_nil, List.set_cons_zero, List.set_cons_succ, Nat.zero_add, Nat.reduceAdd, Nat.reduceSub, Nat.sub_self, Nat.sub_zero, if_true, if_false, toB_bool, Option.map_some, Option.some.injEq, exists_eq_left', exists_eq_left, true_and, and_true, Bool.false_eq_true, S1, S2, S3]
  refine ⟨ms, rs, rfl, rfl, hk, hs, ?_⟩
  have short : ∀ r ∈ rs.reverse, r.length ≤ 8 := fun r hr => k2 r (List.mem_reverse.mp hr)
  have rl : rs.reverse.length ≤ 8 := by rw [List.length_reverse]; omega
  have flat : ∀ l : List (List Int), (∀ r ∈ l, r.length ≤ 8) → l.flatten.length ≤ 8 * l.length := fun l => by
    induction l with
    | nil => exact fun _ => Nat.le_refl _
    | cons r l ih =>
      intro hl
      have h1 := hl r List.mem_cons_self
      have h2 := ih fun r hr => hl r (List.mem_cons_of_mem _ hr)
      rw [List.flatten_cons, List.length_append, List.length_cons]
      omega
  unfold wLc2
  simp only [wDef, wRet, wE, W.map, W.bind, W.ret, W.opt, W.ite, W.no, wVar, wBin, wToB, wChain, wNotT, wAndT, wOrT, wAndV, wOrV, wNotV, wIf, wCons, wArgs, wConsO, wLs, wTp, wBinO, wUn, wUnO, wCut, wMove, wNext, wThen, wSet, wSetO, wTgt, wPairO, wDrop, wRetN, wBrk, wCont, wNever, wIfS, wAug, wFor, wBody, wCall, wLc, wGen, wClause, startD, slO, wipeD, dPair, viewD, wLend, wLendT, wLendO, List.length_cons, List.length_nil, List.map_cons, List.map_nil, List.replicate_zero, List.replicate_succ, List.append_nil, List.nil_append, List.cons_append, List.getElem?_cons_zero, List.getElem?_cons_succ, List.getElem?_nil, List.set_cons_zero, List.set_cons_succ, Nat.zero_add, Nat.reduceAdd, Nat.reduceSub, Nat.sub_self, Nat.sub_zero, if_true, if_false, toB_bool, Option.map_some, Option.some.injEq, exists_eq_left', exists_eq_left, true_and, and_true, Bool.false_eq_true, S1, S2, S3]
  simp only [rowsD, kRev, Option.some.injEq, exists_eq_left', ← List.map_reverse]
  refine ⟨fun r ts n' => n' = n ∧ ∃ done rest : List (List Int), r = rest.map intsD ∧ done ++ rest = rs.reverse ∧ ts = done.flatten.map fun x => .sh (.int x), ⟨rfl, [], rs.reverse, rfl, rfl, rfl⟩, ?_, ?_⟩
  · rintro d r ts n' ⟨rfl, done, rest, hr, hd, rfl⟩
    cases rest with
    | nil => cases hr
    | cons row rest =>
      rw [List.map_cons] at hr
      cases hr
      refine ⟨_, rfl, ?_⟩
      simp only [wDef, wRet, wE, W.map, W.bind, W.ret, W.opt, W.ite, W.no, wVar, wBin, wToB, wChain, wNotT, wAndT, wOrT, wAndV, wOrV, wNotV, wIf, wCons, wArgs, wConsO, wLs, wTp, wBinO, wUn, wUnO, wCut, wMove, wNext, wThen, wSet, wSetO, wTgt, wPairO, wDrop, wRetN, wBrk, wCont, wNever, wIfS, wAug, wFor, wBody, wCall, wLc, wGen, wClause, startD, slO, wipeD, dPair, viewD, wLend, wLendT, wLendO, List.length_cons, List.length_nil, List.map_cons, List.map_nil, List.replicate_zero, List.replicate_succ, List.append_nil, List.nil_append, List.cons_append, List.getElem?_cons_zero, List.getElem?_cons_succ, List.getElem?_nil, List.set_cons_zero, List.set_cons_succ, Nat.zero_add, Nat.reduceAdd, Nat.reduceSub, Nat.sub_self, Nat.sub_zero, if_true, if_false, toB_bool, Option.map_some, Option.some.injEq, exists_eq_left', exists_eq_left, true_and, and_true, Bool.false_eq_true, S1, S2, S3]
      refine ⟨fun r1 ts n2 => n2 = n' ∧ ∃ d1 rest1 : List Int, r1 = rest1.map .int ∧ d1 ++ rest1 = row ∧ ts = (done.flatten ++ d1).map fun x => .sh (.int x), ⟨rfl, [], row, rfl, rfl, by rw [List.append_nil]⟩, ?_, ?_⟩
      · rintro d1 r1 ts n2 ⟨rfl, d1', rest1, hr1, hd1, rfl⟩
        cases rest1 with
        | nil => cases hr1
        | cons x rest1 =>
          rw [List.map_cons] at hr1
          cases hr1
          constructor
          · rw [List.length_map, List.length_append]
            have h1 := flat done fun r hr => short r (by rw [← hd]; exact List.mem_append_left _ hr)
            have h2 : done.length ≤ 8 := by
              have := congrArg List.length hd
              rw [List.length_append] at this
              omega
            have h3 : row.length ≤ 8 := short row (by rw [← hd]; exact List.mem_append_right _ List.mem_cons_self)
            have h4 : d1'.length ≤ row.length := by rw [← hd1, List.length_append]; omega
            omega
          · exact ⟨rfl, d1' ++ [x], rest1, rfl, by rw [List.append_assoc]; exact hd1, by simp⟩
      · rintro ts n2 ⟨rfl, d1', rest1, hr1, hd1, rfl⟩
        cases rest1 with
        | cons _ _ => cases hr1
        | nil =>
          rw [List.append_nil] at hd1
          subst hd1
          exact ⟨rfl, done ++ [d1'], rest, rfl, by rw [List.append_assoc]; exact hd, by simp⟩
  · rintro ts n' ⟨rfl, done, rest, hr, hd, rfl⟩
    cases rest with
    | cons _ _ => cases hr
    | nil =>
      rw [List.append_nil] at hd
      subst hd
      exact h

end QD

set_option Elab.async false
set_option linter.all false
set_option maxRecDepth 100000
set_option maxHeartbeats 4000000
namespace QD
open PySem PySem.Spec PyProof.Rows L2 GxR XG

variable {Pr : Program} {w : World} {K : PySem.W.Frag} {mg : Str → Option Value} {base : Heap} {tabs : Tb} {a : Ads}
theorem sc__law_draws : FnScope ["cell"] ["cell"] (defScope (top 22)) := ⟨rfl, rfl, rfl, by decide +kernel, rfl, by decide +kernel, by decide +kernel⟩
def spec__law_draws : List Dt → W OT := S1 fun d P _ n => ∃ z, d = .int z ∧ n ≤ 1000000 ∧ P (.sh drawD) n
theorem big_pow : ∃ M : Int, 0 < M ∧ M.natAbs.log2 < 60000 ∧ (∃ a, dPow (.int 10) (.int 60) = some a ∧ ∃ b, dPow a (.int 60) = some b ∧ dPow b (.int 4) = some (.int M)) := by
  refine ⟨(((10 : Int) ^ 60) ^ 60) ^ 4, by decide +kernel, by decide +kernel, _, e_pow (by decide +kernel), _, e_pow (by decide +kernel), e_pow (by decide +kernel)⟩

theorem G__law_draws (T : Txt K mg base tabs a) : FnOk Pr w K mg base (L2.CX Pr w) 1 a.f__law_draws a.d__law_draws ["cell"] (spW tabs mg spec__law_draws) := by
  have nd := (sc__law_draws).nd
  refine impW (newdraws_of (okW (k := 0) T.F__law_draws sc__law_draws fun A outer s H E hr tk po =>
    (ss_one (s_ret (o_lst (oa_cons (o_sh (x_op op_mod rd_mod (x_args rc_int (a_cons (x_var (pv 0)) a_nil) (fun _ q => pe_callTy call_int1 (by rfl) T.n_int (by decide +kernel) q)) (x_op op_powW rd_pow (x_op op_powW rd_pow (x_op op_powW rd_pow x_int x_int) x_int) x_int))) (oa_cons (o_sh x_int) (oa_cons (o_sh (x_cmp op_ge rd_ge (x_var (pv 0)) (x_op op_powW rd_pow x_int x_int) (nomark _))) oa_nil (by decide)) (by decide)) (by decide))))))) fun xs P E n h => ?_
  refine sp1 h fun d e h => ?_
  subst e
  obtain ⟨z, rfl, hn, h⟩ := h
  obtain ⟨M, hM, hl, a1, h1, a2, h2, h3⟩ := big_pow
  unfold sNewDraws
  simp only [wDef, wRet, wE, W.map, W.bind, W.ret, W.opt, W.ite, W.no, wVar, wBin, wToB, wChain, wNotT, wAndT, wOrT, wAndV, wOrV, wNotV, wIf, wCons, wArgs, wConsO, wLs, wTp, wBinO, wUn, wUnO, wCut, wMove, wNext, wThen, wSet, wSetO, wTgt, wPairO, wDrop, wRetN, wBrk, wCont, wNever, wIfS, wAug, wFor, wBody, wCall, wLc, wLc2, wGen, wClause, startD, slO, wipeD, dPair, viewD, wLend, wLendT, wLendO, wThenJ, wPut, wPut1, wApp, wApp1, wCallK, wScr, wDefM, kids_ls, kids_rt, withK_ls, withK_rt, OT.val, OT.vals, atom, e_add, e_sub, e_lt, e_le, e_gt, e_ge, e_neg, e_int, pick, e_ix0, e_ix1, e_ix2, e_ix3, e_n30, e_n31, e_n20, e_n21, exists_and_left, List.length_cons, List.length_nil, List.map_cons, List.map_nil, List.replicate_zero, List.replicate_succ, List.append_nil, List.nil_append, List.cons_append, List.getElem?_cons_zero, List.getElem?_cons_succ, List.getElem?_nil, List.set_cons_zero, List.set_cons_succ, List.getD_cons_zero, List.getD_cons_succ, List.not_mem_nil, not_false_eq_true, Nat.zero_add, Nat.reduceAdd, Nat.reduceSub, Nat.sub_self, Nat.sub_zero, if_true, if_false, toB_bool, Option.map_some, Option.some.injEq, Sl.ow.injEq, Sl.d.injEq, OT.ls.injEq, OT.rt.injEq, PyData.int.injEq, exists_eq_left', exists_eq_left, true_and, and_true, Bool.false_eq_true, S1, S2, S3, S4, Option.bind_some, Option.bind_none]
  refine ⟨_, h1, _, h2, _, h3, _, e_mod hM, _, e_pow (by decide +kernel), _, e_ge, by decide, _, _, _, rfl, ⟨Int.emod_nonneg _ (by omega), by omega, by omega, ?_⟩, h⟩
  have hz := Int.emod_lt_of_pos z hM
  have hz0 := Int.emod_nonneg z (show M ≠ 0 by omega)
  have : (z % M).natAbs.log2 ≤ M.natAbs.log2 := by
    by_cases e : z % M = 0
    · rw [e]; exact Nat.zero_le _
    · have e1 := Nat.log2_self_le (n := (z % M).natAbs) (by omega)
      exact (Nat.le_log2 (by omega)).mpr (by omega)
  omega

theorem sc__law_next : FnScope ["draws", "k", "number"] ["draws"] (defScope (top 23)) := ⟨rfl, rfl, rfl, by decide +kernel, rfl, by decide +kernel, by decide +kernel⟩
def spec__law_next : List Dt → W OT := S1 fun d P _ n => d = drawD ∧ ∃ m, n = m + 1 ∧ ∀ z, 0 ≤ z → z < 1000000000 → P (.sh (.int z)) m

theorem G__law_next (T : Txt K mg base tabs a) : FnOk Pr w K mg base (L2.CX Pr w) 1 a.f__law_next a.d__law_next ["draws"] (spW tabs mg spec__law_next) := by
  have nd := (sc__law_next).nd
  refine impW (draw_of (okM (k := 0) (i := 0) T.F__law_next sc__law_next fun A outer s H E hr tk po =>
    (ss_cons (s_put (i := 0) (o_sh (x_lend 0 (x_op op_addD rd_add (x_ix ix_seq rd_ix (x_var (pv 0)) x_int (fun _ _ => rfl)) x_int))) x_int (fun _ _ q r => ps_asg q (pg_sub (pv 0) r set_list (by intro _; rfl))))
    (ss_cons (s_set (x_lend 0 (x_ix ix_seq rd_ix (x_var (pv 0)) x_int (fun _ _ => rfl))) (fun _ q => ps_set (i := 1) nd rfl (by first | exact Or.inl rfl | exact Or.inr rfl) q))
    (ss_cons (s_if (t_lend 0 (t_val (x_ix ix_seq rd_ix (x_var (pv 0)) x_int (fun _ _ => rfl)))) (ss_cons (s_set (x_lend 0 (x_op op_mod rd_mod (x_args rc_int (a_cons (x_ix ix_seq rd_ix (x_var (pv 0)) x_int (fun _ _ => rfl)) a_nil) (fun _ q => pe_callTy call_int1 (by rfl) T.n_int (by decide +kernel) q)) (x_op op_powW rd_pow x_int x_int))) (fun _ q => ps_set (i := 2) nd rfl (by first | exact Or.inl rfl | exact Or.inr rfl) q))
    (ss_cons (s_put (i := 0) (o_sh (x_lend 0 (x_op op_fdivW rd_div (x_ix ix_seq rd_ix (x_var (pv 0)) x_int (fun _ _ => rfl)) (x_op op_powW rd_pow x_int x_int)))) x_int (fun _ _ q r => ps_asg q (pg_sub (pv 0) r set_list (by intro _; rfl))))
    (ss_one (s_ret (o_sh (x_var (pv 2))))))) ss_nil)
    (ss_cons (s_set (x_lend 0 (x_op op_mod rd_mod (x_args rc_int (a_cons (x_op op_mulD rd_mul (x_op op_addD rd_add (x_op op_addD rd_add (x_op op_mod rd_mod (x_args rc_int (a_cons (x_ix ix_seq rd_ix (x_var (pv 0)) x_int (fun _ _ => rfl)) a_nil) (fun _ q => pe_callTy call_int1 (by rfl) T.n_int (by decide +kernel) q)) x_int) (x_op op_mulD rd_mul (x_op op_mulD rd_mul (x_var (pv 1)) (x_var (pv 1))) x_int)) (x_var (pv 1))) x_int) a_nil) (fun _ q => pe_callTy call_int1 (by rfl) T.n_int (by decide +kernel) q)) x_int)) (fun _ q => ps_set (i := 2) nd rfl (by first | exact Or.inl rfl | exact Or.inr rfl) q))
    (ss_cons (s_set (x_op op_mod rd_mod (x_args rc_int (a_cons (x_op op_mulD rd_mul (x_var (pv 2)) (x_var (pv 2))) a_nil) (fun _ q => pe_callTy call_int1 (by rfl) T.n_int (by decide +kernel) q)) x_int) (fun _ q => ps_set (i := 2) nd rfl (by first | exact Or.inl rfl | exact Or.inr rfl) q))
    (ss_one (s_ret (o_sh (x_op op_fdivW rd_div (x_op op_mod rd_mod (x_args rc_int (a_cons (x_op op_mulD rd_mul (x_var (pv 2)) (x_op op_addD rd_add (x_var (pv 2)) x_int)) a_nil) (fun _ q => pe_callTy call_int1 (by rfl) T.n_int (by decide +kernel) q)) x_int) x_int))))))))))) fun xs P E n h => ?_
  refine sp1 h fun d e h => ?_
  subst e
  obtain ⟨rfl, m, rfl, hP⟩ := h
  unfold sDraw S1
  refine ⟨rfl, m, rfl, fun x k b hd => ?_⟩
  obtain ⟨d1, d2, d3, d4⟩ := hd
  have m1 := Int.emod_nonneg x (show (1000003 : Int) ≠ 0 by decide)
  have m2 := Int.emod_lt_of_pos x (show (0 : Int) < 1000003 by decide)
  unfold wDefM
  refine ⟨rfl, fun ad => ?_⟩
  simp only [drawT]
  simp only [wDef, wRet, wE, W.map, W.bind, W.ret, W.opt, W.ite, W.no, wVar, wBin, wToB, wChain, wNotT, wAndT, wOrT, wAndV, wOrV, wNotV, wIf, wCons, wArgs, wConsO, wLs, wTp, wBinO, wUn, wUnO, wCut, wMove, wNext, wThen, wSet, wSetO, wTgt, wPairO, wDrop, wRetN, wBrk, wCont, wNever, wIfS, wAug, wFor, wBody, wCall, wLc, wLc2, wGen, wClause, startD, slO, wipeD, dPair, viewD, wLend, wLendT, wLendO, wThenJ, wPut, wPut1, wApp, wApp1, wCallK, wScr, wDefM, kids_ls, kids_rt, withK_ls, withK_rt, OT.val, OT.vals, atom, e_add, e_sub, e_lt, e_le, e_gt, e_ge, e_neg, e_int, pick, e_ix0, e_ix1, e_ix2, e_ix3, e_n30, e_n31, e_n20, e_n21, exists_and_left, List.length_cons, List.length_nil, List.map_cons, List.map_nil, List.replicate_zero, List.replicate_succ, List.append_nil, List.nil_append, List.cons_append, List.getElem?_cons_zero, List.getElem?_cons_succ, List.getElem?_nil, List.set_cons_zero, List.set_cons_succ, List.getD_cons_zero, List.getD_cons_succ, List.not_mem_nil, not_false_eq_true, Nat.zero_add, Nat.reduceAdd, Nat.reduceSub, Nat.sub_self, Nat.sub_zero, if_true, if_false, toB_bool, Option.map_some, Option.some.injEq, Sl.ow.injEq, Sl.d.injEq, OT.ls.injEq, OT.rt.injEq, PyData.int.injEq, exists_eq_left', exists_eq_left, true_and, and_true, Bool.false_eq_true, S1, S2, S3, S4, Option.bind_some, Option.bind_none]
  cases b with
  | true =>
    rw [if_pos rfl]
    have p6 : ((10 : Int) ^ (6 : Int).toNat) = 1000000 := by decide +kernel
    have q1 := Int.emod_nonneg x (show (1000000 : Int) ≠ 0 by decide)
    have q2 := Int.emod_lt_of_pos x (show (0 : Int) < 1000000 by decide)
    have q3 := Int.ediv_nonneg d1 (show (0 : Int) ≤ 1000000 by decide)
    have q4 : x / 1000000 ≤ x := Int.ediv_le_self _ d1
    refine ⟨_, e_pow (by decide +kernel), ?_⟩
    rw [p6]
    refine ⟨_, e_mod (by decide), rfl, _, e_pow (by decide +kernel), ?_⟩
    rw [p6]
    refine ⟨_, e_div (by decide) (mid_s (by decide) (by decide)), rfl, _, _, _, rfl, ⟨q3, by omega, by omega, ?_⟩, _, rfl, rfl, hP _ q1 (by omega)⟩
    by_cases e : x / 1000000 = 0
    · rw [e]; decide
    · have e1 := Nat.log2_self_le (n := (x / 1000000).natAbs) (by omega)
      have : (x / 1000000).natAbs.log2 ≤ x.natAbs.log2 := (Nat.le_log2 (by omega)).mpr (by omega)
      omega
  | false =>
    rw [if_neg Bool.false_ne_true]
    obtain ⟨a1, a2⟩ := mul_bd (a := k + 1) (b := k + 1) 1000000 1000000 (by omega) (by omega) (by omega) (by omega)
    refine ⟨_, e_mod (by decide), _, e_mul (mid_s (by omega) (by omega)) (mid_s (by omega) (by omega)), ?_⟩
    generalize (k + 1) * (k + 1) = kk at a1 a2 ⊢
    refine ⟨_, e_mul (mid_s (by omega) (by omega)) (mid_s (by decide) (by decide)), _, e_add, _, e_add, _, e_mul (mid_s (by omega) (by omega)) (mid_s (by decide) (by decide)), _, e_int, _, e_mod (by decide), rfl, ?_⟩
    have b1 := Int.emod_nonneg ((x % 1000003 + kk * 7919 + (k + 1)) * 48271) (show (2147483629 : Int) ≠ 0 by decide)
    have b2 := Int.emod_lt_of_pos ((x % 1000003 + kk * 7919 + (k + 1)) * 48271) (show (0 : Int) < 2147483629 by decide)
    generalize ((x % 1000003 + kk * 7919 + (k + 1)) * 48271) % 2147483629 = y at b1 b2 ⊢
    obtain ⟨c1, c2⟩ := mul_bd (a := y) (b := y) 2147483629 2147483629 b1 (by omega) b1 (by omega)
    refine ⟨_, e_mul (mid_s (by omega) (by omega)) (mid_s (by omega) (by omega)), ?_⟩
    generalize y * y = yy at c1 c2 ⊢
    refine ⟨_, e_int, _, e_mod (by decide), ?_⟩
    have b1 := Int.emod_nonneg yy (show (2147483587 : Int) ≠ 0 by decide)
    have b2 := Int.emod_lt_of_pos yy (show (0 : Int) < 2147483587 by decide)
    generalize yy % 2147483587 = z at b1 b2 ⊢
    obtain ⟨c1, c2⟩ := mul_bd (a := z) (b := z + 2) 2147483629 2147483629 b1 (by omega) (by omega) (by omega)
    refine ⟨_, e_add, _, e_mul (mid_s (by omega) (by omega)) (mid_s (by omega) (by omega)), ?_⟩
    generalize z * (z + 2) = zz at c1 c2 ⊢
    refine ⟨_, e_int, _, e_mod (by decide), _, e_div (by decide) (mid_s (by decide) (by decide)), ?_⟩
    have b1 := Int.emod_nonneg zz (show (2147483579 : Int) ≠ 0 by decide)
    have b2 := Int.emod_lt_of_pos zz (show (0 : Int) < 2147483579 by decide)
    exact ⟨_, _, _, rfl, ⟨d1, by omega, by omega, d4⟩, _, rfl, rfl, hP _ (by omega) (by omega)⟩

end QD

set_option Elab.async false
set_option linter.all false
set_option maxRecDepth 100000
set_option maxHeartbeats 4000000
namespace QD
open PySem PySem.Spec PyProof.Rows L2 GxR XG

variable {Pr : Program} {w : World} {K : PySem.W.Frag} {mg : Str → Option Value} {base : Heap} {tabs : Tb} {a : Ads}
theorem sc__law_shape : FnScope ["draws", "high", "wide", "told", "most", "turn", "pick"] ["draws", "high", "wide"] (defScope (top 24)) := ⟨rfl, rfl, rfl, by decide +kernel, rfl, by decide +kernel, by decide +kernel⟩
theorem next_ok {P : OT → Nat → Prop} {E : Ex → Nat → Prop} {n : Nat} (m : Nat) (hn : n = m + 1) (h : ∀ z, 0 ≤ z → z < 1000000000 → P (.sh (.int z)) m) : spec__law_next [drawD] P E n := ⟨rfl, m, hn, h⟩
def intsT (xs : List Int) : OT := .ls (xs.map fun x => .sh (.int x))
/-- lengths of rows -/
structure ShapeOk (hi wi : Int) (ls : List Int) : Prop where
  len : 1 ≤ ls.length ∧ (ls.length : Int) ≤ hi
  each : ∀ l ∈ ls, 1 ≤ l ∧ l ≤ wi
  mono : ls.Pairwise (· ≥ ·)
def spec__law_shape : List Dt → W OT := S3 fun d1 d2 d3 P _ n => ∃ hi wi, d1 = drawD ∧ d2 = .int hi ∧ d3 = .int wi ∧ 1 ≤ hi ∧ hi ≤ 100 ∧ 1 ≤ wi ∧ wi ≤ 100 ∧ ∃ m, n = m + 200 ∧ ∀ ls n', m ≤ n' → n' ≤ n → ShapeOk hi wi ls → P (intsT ls) n'

theorem G__law_shape (T : Txt K mg base tabs a) : FnOk Pr w K mg base (L2.CX Pr w) 2 a.f__law_shape a.d__law_shape ["draws", "high", "wide"] (spW tabs mg spec__law_shape) := by
  have nd := (sc__law_shape).nd
  refine impW (okW (k := 1) T.F__law_shape sc__law_shape fun A outer s H E hr tk po =>
    (ss_cons (s_setO (o_lst oa_nil) (fun _ q => ps_set (i := 3) nd rfl (by first | exact Or.inl rfl | exact Or.inr rfl) q))
    (ss_cons (s_set (x_op op_addD rd_add x_int (x_op op_mod rd_mod (x_args rc_int (a_cons (x_frz (o_call (a_cons (x_var (pv 0)) a_nil) (fun _ q => pe_callS (G__law_next T) (hr.mono (by decide)) (by rfl) T.m__law_next T.F__law_next.kp T.b__law_next (fun _ => passAt tk _) q))) a_nil) (fun _ q => pe_callTy call_int1 (by rfl) T.n_int (by decide +kernel) q)) (x_var (pv 2)))) (fun _ q => ps_set (i := 4) nd rfl (by first | exact Or.inl rfl | exact Or.inr rfl) q))
    (ss_cons (s_for (i_rng1 (a_cons (x_op op_addD rd_add x_int (x_op op_mod rd_mod (x_args rc_int (a_cons (x_frz (o_call (a_cons (x_var (pv 0)) a_nil) (fun _ q => pe_callS (G__law_next T) (hr.mono (by decide)) (by rfl) T.m__law_next T.F__law_next.kp T.b__law_next (fun _ => passAt tk _) q))) a_nil) (fun _ q => pe_callTy call_int1 (by rfl) T.n_int (by decide +kernel) q)) (x_var (pv 1)))) a_nil) (fun _ q => pi_range1 rfl T.n_range q)) (g_name (pg_name (i := 5) nd rfl (by first | exact Or.inl rfl | exact Or.inr rfl))) (ss_cons (s_app (i := 3) (o_sh (x_var (pv 4))) (fun _ q => ps_expr (pe_bm PySem.F.plainAttrs_list PySem.F.slot_list_append PySem.F.type_list_append mt_append (pv 3) (pa_cons q pa_nil))))
    (ss_cons (s_set (x_args rc_int (a_cons (x_frz (o_call (a_cons (x_var (pv 0)) a_nil) (fun _ q => pe_callS (G__law_next T) (hr.mono (by decide)) (by rfl) T.m__law_next T.F__law_next.kp T.b__law_next (fun _ => passAt tk _) q))) a_nil) (fun _ q => pe_callTy call_int1 (by rfl) T.n_int (by decide +kernel) q)) (fun _ q => ps_set (i := 6) nd rfl (by first | exact Or.inl rfl | exact Or.inr rfl) q))
    (ss_one (s_set (x_args rc_max2 (a_cons x_int (a_cons (x_op op_sub rd_sub (x_var (pv 4)) (x_op op_mod rd_mod (x_var (pv 6)) (x_ix ix_seq rd_ix (x_frz (o_lst (oa_cons (o_sh x_int) (oa_cons (o_sh x_int) (oa_cons (o_sh x_int) oa_nil (by decide)) (by decide)) (by decide)))) (x_op op_mod rd_mod (x_op op_fdivW rd_div (x_var (pv 6)) x_int) x_int) (fun _ _ => rfl)))) a_nil)) (fun _ q => pe_callB (call_max2 rfl) (by rfl) T.n_max (by decide +kernel) q)) (fun _ q => ps_set (i := 4) nd rfl (by first | exact Or.inl rfl | exact Or.inr rfl) q))))) (fun _ _ _ a b c => ps_for po rfl a b c))
    (ss_one (s_ret (o_move (pv 3)))))))) fun xs P E n h => ?_
  refine sp3 h fun d1 d2 d3 e h => ?_
  subst e
  obtain ⟨hi, wi, rfl, rfl, rfl, h1, h2, h3, h4, m, rfl, hP⟩ := h
  simp only [wDef, wRet, wE, W.map, W.bind, W.ret, W.opt, W.ite, W.no, wVar, wBin, wToB, wChain, wNotT, wAndT, wOrT, wAndV, wOrV, wNotV, wIf, wCons, wArgs, wConsO, wLs, wTp, wBinO, wUn, wUnO, wCut, wMove, wNext, wThen, wSet, wSetO, wTgt, wPairO, wDrop, wRetN, wBrk, wCont, wNever, wIfS, wAug, wFor, wBody, wCall, wLc, wLc2, wGen, wClause, startD, slO, wipeD, dPair, viewD, wLend, wLendT, wLendO, wThenJ, wPut, wPut1, wApp, wApp1, wCallK, wScr, wDefM, kids_ls, kids_rt, withK_ls, withK_rt, OT.val, OT.vals, atom, e_add, e_sub, e_lt, e_le, e_gt, e_ge, e_neg, e_int, pick, e_ix0, e_ix1, e_ix2, e_ix3, e_n30, e_n31, e_n20, e_n21, exists_and_left, List.length_cons, List.length_nil, List.map_cons, List.map_nil, List.replicate_zero, List.replicate_succ, List.append_nil, List.nil_append, List.cons_append, List.getElem?_cons_zero, List.getElem?_cons_succ, List.getElem?_nil, List.set_cons_zero, List.set_cons_succ, List.getD_cons_zero, List.getD_cons_succ, List.not_mem_nil, not_false_eq_true, Nat.zero_add, Nat.reduceAdd, Nat.reduceSub, Nat.sub_self, Nat.sub_zero, if_true, if_false, toB_bool, Option.map_some, Option.some.injEq, Sl.ow.injEq, Sl.d.injEq, OT.ls.injEq, OT.rt.injEq, PyData.int.injEq, exists_eq_left', exists_eq_left, true_and, and_true, Bool.false_eq_true, S1, S2, S3, S4, Option.bind_some, Option.bind_none]
  refine ⟨by decide, next_ok _ rfl fun z0 a1 a2 => ?_⟩
  have b1 := Int.emod_nonneg z0 (show wi ≠ 0 by omega)
  have b2 := Int.emod_lt_of_pos z0 (show 0 < wi by omega)
  simp only [wDef, wRet, wE, W.map, W.bind, W.ret, W.opt, W.ite, W.no, wVar, wBin, wToB, wChain, wNotT, wAndT, wOrT, wAndV, wOrV, wNotV, wIf, wCons, wArgs, wConsO, wLs, wTp, wBinO, wUn, wUnO, wCut, wMove, wNext, wThen, wSet, wSetO, wTgt, wPairO, wDrop, wRetN, wBrk, wCont, wNever, wIfS, wAug, wFor, wBody, wCall, wLc, wLc2, wGen, wClause, startD, slO, wipeD, dPair, viewD, wLend, wLendT, wLendO, wThenJ, wPut, wPut1, wApp, wApp1, wCallK, wScr, wDefM, kids_ls, kids_rt, withK_ls, withK_rt, OT.val, OT.vals, atom, e_add, e_sub, e_lt, e_le, e_gt, e_ge, e_neg, e_int, pick, e_ix0, e_ix1, e_ix2, e_ix3, e_n30, e_n31, e_n20, e_n21, exists_and_left, List.length_cons, List.length_nil, List.map_cons, List.map_nil, List.replicate_zero, List.replicate_succ, List.append_nil, List.nil_append, List.cons_append, List.getElem?_cons_zero, List.getElem?_cons_succ, List.getElem?_nil, List.set_cons_zero, List.set_cons_succ, List.getD_cons_zero, List.getD_cons_succ, List.not_mem_nil, not_false_eq_true, Nat.zero_add, Nat.reduceAdd, Nat.reduceSub, Nat.sub_self, Nat.sub_zero, if_true, if_false, toB_bool, Option.map_some, Option.some.injEq, Sl.ow.injEq, Sl.d.injEq, OT.ls.injEq, OT.rt.injEq, PyData.int.injEq, exists_eq_left', exists_eq_left, true_and, and_true, Bool.false_eq_true, S1, S2, S3, S4, Option.bind_some, Option.bind_none]
  refine ⟨_, e_mod (by omega), _, e_add, next_ok _ rfl fun z1 a3 a4 => ?_⟩
  have b3 := Int.emod_nonneg z1 (show hi ≠ 0 by omega)
  have b4 := Int.emod_lt_of_pos z1 (show 0 < hi by omega)
  simp only [wDef, wRet, wE, W.map, W.bind, W.ret, W.opt, W.ite, W.no, wVar, wBin, wToB, wChain, wNotT, wAndT, wOrT, wAndV, wOrV, wNotV, wIf, wCons, wArgs, wConsO, wLs, wTp, wBinO, wUn, wUnO, wCut, wMove, wNext, wThen, wSet, wSetO, wTgt, wPairO, wDrop, wRetN, wBrk, wCont, wNever, wIfS, wAug, wFor, wBody, wCall, wLc, wLc2, wGen, wClause, startD, slO, wipeD, dPair, viewD, wLend, wLendT, wLendO, wThenJ, wPut, wPut1, wApp, wApp1, wCallK, wScr, wDefM, kids_ls, kids_rt, withK_ls, withK_rt, OT.val, OT.vals, atom, e_add, e_sub, e_lt, e_le, e_gt, e_ge, e_neg, e_int, pick, e_ix0, e_ix1, e_ix2, e_ix3, e_n30, e_n31, e_n20, e_n21, exists_and_left, List.length_cons, List.length_nil, List.map_cons, List.map_nil, List.replicate_zero, List.replicate_succ, List.append_nil, List.nil_append, List.cons_append, List.getElem?_cons_zero, List.getElem?_cons_succ, List.getElem?_nil, List.set_cons_zero, List.set_cons_succ, List.getD_cons_zero, List.getD_cons_succ, List.not_mem_nil, not_false_eq_true, Nat.zero_add, Nat.reduceAdd, Nat.reduceSub, Nat.sub_self, Nat.sub_zero, if_true, if_false, toB_bool, Option.map_some, Option.some.injEq, Sl.ow.injEq, Sl.d.injEq, OT.ls.injEq, OT.rt.injEq, PyData.int.injEq, exists_eq_left', exists_eq_left, true_and, and_true, Bool.false_eq_true, S1, S2, S3, S4, Option.bind_some, Option.bind_none]
  refine ⟨_, e_mod (by omega), _, e_add, _, e_rng1 (by omega), ?_⟩
  refine wLoop_by (fun r ρ n => ∃ (lo : Int) (k : Nat) (ls : List Int) (most : Int) (s5 s6 : Sl), r = dRng lo k ∧ ρ = [.d drawD, .d (.int hi), .d (.int wi), .ow (intsT ls), .d (.int most), s5, s6] ∧ m + 50 + k ≤ n ∧ n ≤ m + 198 ∧ (ls.length + k : Int) = 1 + z1 % hi ∧ 1 ≤ most ∧ most ≤ wi ∧ ls.Pairwise (· ≥ ·) ∧ ∀ l ∈ ls, most ≤ l ∧ l ≤ wi)
    ⟨0, _, [], _, _, _, rfl, rfl, by omega, by omega, by simp; omega, by omega, by omega, .nil, fun _ z => by cases z⟩ ?_ ?_
  · rintro d r ρ n ⟨lo, k, ls, most, s5, s6, hr, rfl, n1, n2, hk, m1, m2, pw, al⟩
    cases k with
    | zero => rw [dRng_zero] at hr; cases hr
    | succ k =>
      rw [dRng_succ] at hr
      cases hr
      unfold intsT
      simp only [wDef, wRet, wE, W.map, W.bind, W.ret, W.opt, W.ite, W.no, wVar, wBin, wToB, wChain, wNotT, wAndT, wOrT, wAndV, wOrV, wNotV, wIf, wCons, wArgs, wConsO, wLs, wTp, wBinO, wUn, wUnO, wCut, wMove, wNext, wThen, wSet, wSetO, wTgt, wPairO, wDrop, wRetN, wBrk, wCont, wNever, wIfS, wAug, wFor, wBody, wCall, wLc, wLc2, wGen, wClause, startD, slO, wipeD, dPair, viewD, wLend, wLendT, wLendO, wThenJ, wPut, wPut1, wApp, wApp1, wCallK, wScr, wDefM, kids_ls, kids_rt, withK_ls, withK_rt, OT.val, OT.vals, atom, e_add, e_sub, e_lt, e_le, e_gt, e_ge, e_neg, e_int, pick, e_ix0, e_ix1, e_ix2, e_ix3, e_n30, e_n31, e_n20, e_n21, exists_and_left, List.length_cons, List.length_nil, List.map_cons, List.map_nil, List.replicate_zero, List.replicate_succ, List.append_nil, List.nil_append, List.cons_append, List.getElem?_cons_zero, List.getElem?_cons_succ, List.getElem?_nil, List.set_cons_zero, List.set_cons_succ, List.getD_cons_zero, List.getD_cons_succ, List.not_mem_nil, not_false_eq_true, Nat.zero_add, Nat.reduceAdd, Nat.reduceSub, Nat.sub_self, Nat.sub_zero, if_true, if_false, toB_bool, Option.map_some, Option.some.injEq, Sl.ow.injEq, Sl.d.injEq, OT.ls.injEq, OT.rt.injEq, PyData.int.injEq, exists_eq_left', exists_eq_left, true_and, and_true, Bool.false_eq_true, S1, S2, S3, S4, Option.bind_some, Option.bind_none]
      refine ⟨by rw [List.length_map]; omega, next_ok (n - 1) (by omega) fun z a5 a6 => ?_⟩
      simp only [wDef, wRet, wE, W.map, W.bind, W.ret, W.opt, W.ite, W.no, wVar, wBin, wToB, wChain, wNotT, wAndT, wOrT, wAndV, wOrV, wNotV, wIf, wCons, wArgs, wConsO, wLs, wTp, wBinO, wUn, wUnO, wCut, wMove, wNext, wThen, wSet, wSetO, wTgt, wPairO, wDrop, wRetN, wBrk, wCont, wNever, wIfS, wAug, wFor, wBody, wCall, wLc, wLc2, wGen, wClause, startD, slO, wipeD, dPair, viewD, wLend, wLendT, wLendO, wThenJ, wPut, wPut1, wApp, wApp1, wCallK, wScr, wDefM, kids_ls, kids_rt, withK_ls, withK_rt, OT.val, OT.vals, atom, e_add, e_sub, e_lt, e_le, e_gt, e_ge, e_neg, e_int, pick, e_ix0, e_ix1, e_ix2, e_ix3, e_n30, e_n31, e_n20, e_n21, exists_and_left, List.length_cons, List.length_nil, List.map_cons, List.map_nil, List.replicate_zero, List.replicate_succ, List.append_nil, List.nil_append, List.cons_append, List.getElem?_cons_zero, List.getElem?_cons_succ, List.getElem?_nil, List.set_cons_zero, List.set_cons_succ, List.getD_cons_zero, List.getD_cons_succ, List.not_mem_nil, not_false_eq_true, Nat.zero_add, Nat.reduceAdd, Nat.reduceSub, Nat.sub_self, Nat.sub_zero, if_true, if_false, toB_bool, Option.map_some, Option.some.injEq, Sl.ow.injEq, Sl.d.injEq, OT.ls.injEq, OT.rt.injEq, PyData.int.injEq, exists_eq_left', exists_eq_left, true_and, and_true, Bool.false_eq_true, S1, S2, S3, S4, Option.bind_some, Option.bind_none]
      have c1 := Int.emod_nonneg (z / 64) (show (3 : Int) ≠ 0 by decide)
      have c2 := Int.emod_lt_of_pos (z / 64) (show (0 : Int) < 3 by decide)
      obtain ⟨v, hv, v1, v2⟩ := e_ix339 c1 c2
      have c3 := Int.emod_nonneg z (show v ≠ 0 by omega)
      have c4 := Int.emod_lt_of_pos z (show 0 < v by omega)
      refine ⟨by decide, _, e_div (by decide) (mid_s (by decide) (by decide)), _, e_mod (by decide), _, hv, _, e_mod (by omega), _, e_sub, _, e_max2, lo + 1, k, rfl, ls ++ [most], (if most - z % v > 1 then most - z % v else 1), _, _, by rw [List.map_append]; rfl, by omega, by omega, by rw [List.length_append]; simp; omega, ?_, ?_, ?_, ?_⟩
      · split <;> omega
      · split <;> omega
      · refine List.pairwise_append.mpr ⟨pw, List.pairwise_singleton _ _, fun x hx y hy => ?_⟩
        rw [List.mem_singleton.mp hy]
        exact (al x hx).1
      · intro l hl
        rcases List.mem_append.mp hl with hl | hl
        · have := al l hl
          split <;> omega
        · rw [List.mem_singleton.mp hl]
          split <;> omega
  · rintro ρ n ⟨lo, k, ls, most, s5, s6, hr, rfl, n1, n2, hk, m1, m2, pw, al⟩
    cases k with
    | succ k => rw [dRng_succ] at hr; cases hr
    | zero =>
      simp only [wDef, wRet, wE, W.map, W.bind, W.ret, W.opt, W.ite, W.no, wVar, wBin, wToB, wChain, wNotT, wAndT, wOrT, wAndV, wOrV, wNotV, wIf, wCons, wArgs, wConsO, wLs, wTp, wBinO, wUn, wUnO, wCut, wMove, wNext, wThen, wSet, wSetO, wTgt, wPairO, wDrop, wRetN, wBrk, wCont, wNever, wIfS, wAug, wFor, wBody, wCall, wLc, wLc2, wGen, wClause, startD, slO, wipeD, dPair, viewD, wLend, wLendT, wLendO, wThenJ, wPut, wPut1, wApp, wApp1, wCallK, wScr, wDefM, kids_ls, kids_rt, withK_ls, withK_rt, OT.val, OT.vals, atom, e_add, e_sub, e_lt, e_le, e_gt, e_ge, e_neg, e_int, pick, e_ix0, e_ix1, e_ix2, e_ix3, e_n30, e_n31, e_n20, e_n21, exists_and_left, List.length_cons, List.length_nil, List.map_cons, List.map_nil, List.replicate_zero, List.replicate_succ, List.append_nil, List.nil_append, List.cons_append, List.getElem?_cons_zero, List.getElem?_cons_succ, List.getElem?_nil, List.set_cons_zero, List.set_cons_succ, List.getD_cons_zero, List.getD_cons_succ, List.not_mem_nil, not_false_eq_true, Nat.zero_add, Nat.reduceAdd, Nat.reduceSub, Nat.sub_self, Nat.sub_zero, if_true, if_false, toB_bool, Option.map_some, Option.some.injEq, Sl.ow.injEq, Sl.d.injEq, OT.ls.injEq, OT.rt.injEq, PyData.int.injEq, exists_eq_left', exists_eq_left, true_and, and_true, Bool.false_eq_true, S1, S2, S3, S4, Option.bind_some, Option.bind_none]
      exact hP ls n (by omega) (by omega) ⟨by omega, fun l hl => ⟨by have := al l hl; omega, (al l hl).2⟩, pw⟩

end QD

set_option Elab.async false
set_option linter.all false
set_option maxRecDepth 100000
set_option maxHeartbeats 4000000
namespace QD
open PySem PySem.Spec PyProof.Rows L2 GxR XG

variable {Pr : Program} {w : World} {K : PySem.W.Frag} {mg : Str → Option Value} {base : Heap} {tabs : Tb} {a : Ads}
theorem sc__law_within : FnScope ["draws", "lengths", "told", "most", "long"] ["draws", "lengths"] (defScope (top 25)) := ⟨rfl, rfl, rfl, by decide +kernel, rfl, by decide +kernel, by decide +kernel⟩
theorem Paired.snoc {α β : Type} {R : α → β → Prop} : ∀ {xs : List α} {ys : List β} {x : α} {y : β}, Paired R xs ys → R x y → Paired R (xs ++ [x]) (ys ++ [y])
  | _, _, _, _, .nil, k => .cons k .nil
  | _, _, _, _, .cons h t, k => .cons h (Paired.snoc t k)
theorem Paired.len {α β : Type} {R : α → β → Prop} : ∀ {xs : List α} {ys : List β}, Paired R xs ys → xs.length = ys.length
  | _, _, .nil => rfl
  | _, _, .cons _ t => by simp [Paired.len t]
/-- missing cells of rows of these lengths -/
structure GoneOk (ls gs : List Int) : Prop where
  pr : Paired (fun g l : Int => 0 ≤ g ∧ g ≤ l) gs ls
  mono : gs.Pairwise (· ≥ ·)
def spec__law_within : List Dt → W OT := S2 fun d1 d2 P _ n => ∃ ls : List Int, d1 = drawD ∧ d2 = intsD ls ∧ ls ≠ [] ∧ ls.length ≤ 100 ∧ (∀ l ∈ ls, 0 ≤ l ∧ l ≤ 1000) ∧ ∃ m, n = m + 200 ∧ ∀ gs n', m ≤ n' → n' ≤ n → GoneOk ls gs → P (intsT gs) n'

theorem G__law_within (T : Txt K mg base tabs a) : FnOk Pr w K mg base (L2.CX Pr w) 2 a.f__law_within a.d__law_within ["draws", "lengths"] (spW tabs mg spec__law_within) := by
  have nd := (sc__law_within).nd
  refine impW (okW (k := 1) T.F__law_within sc__law_within fun A outer s H E hr tk po =>
    (ss_cons (s_setO (o_lst oa_nil) (fun _ q => ps_set (i := 2) nd rfl (by first | exact Or.inl rfl | exact Or.inr rfl) q))
    (ss_cons (s_set (x_ix ix_seq rd_ix (x_var (pv 1)) x_int (fun _ _ => rfl)) (fun _ q => ps_set (i := 3) nd rfl (by first | exact Or.inl rfl | exact Or.inr rfl) q))
    (ss_cons (s_for (i_list (x_var (pv 1))) (g_name (pg_name (i := 4) nd rfl (by first | exact Or.inl rfl | exact Or.inr rfl))) (ss_cons (s_set (x_args rc_min2 (a_cons (x_var (pv 3)) (a_cons (x_op op_mod rd_mod (x_args rc_int (a_cons (x_frz (o_call (a_cons (x_var (pv 0)) a_nil) (fun _ q => pe_callS (G__law_next T) (hr.mono (by decide)) (by rfl) T.m__law_next T.F__law_next.kp T.b__law_next (fun _ => passAt tk _) q))) a_nil) (fun _ q => pe_callTy call_int1 (by rfl) T.n_int (by decide +kernel) q)) (x_op op_addD rd_add (x_var (pv 4)) x_int)) a_nil)) (fun _ q => pe_callB (call_min2 rfl) (by rfl) T.n_min (by decide +kernel) q)) (fun _ q => ps_set (i := 3) nd rfl (by first | exact Or.inl rfl | exact Or.inr rfl) q))
    (ss_one (s_app (i := 2) (o_sh (x_var (pv 3))) (fun _ q => ps_expr (pe_bm PySem.F.plainAttrs_list PySem.F.slot_list_append PySem.F.type_list_append mt_append (pv 2) (pa_cons q pa_nil)))))) (fun _ _ _ a b c => ps_for po rfl a b c))
    (ss_one (s_ret (o_move (pv 2)))))))) fun xs P E n h => ?_
  refine sp2 h fun d1 d2 e h => ?_
  subst e
  obtain ⟨ls, rfl, rfl, h1, h2, h3, m, rfl, hP⟩ := h
  cases ls with
  | nil => exact absurd rfl h1
  | cons l0 ls =>
  unfold intsD
  simp only [wDef, wRet, wE, W.map, W.bind, W.ret, W.opt, W.ite, W.no, wVar, wBin, wToB, wChain, wNotT, wAndT, wOrT, wAndV, wOrV, wNotV, wIf, wCons, wArgs, wConsO, wLs, wTp, wBinO, wUn, wUnO, wCut, wMove, wNext, wThen, wSet, wSetO, wTgt, wPairO, wDrop, wRetN, wBrk, wCont, wNever, wIfS, wAug, wFor, wBody, wCall, wLc, wLc2, wGen, wClause, startD, slO, wipeD, dPair, viewD, wLend, wLendT, wLendO, wThenJ, wPut, wPut1, wApp, wApp1, wCallK, wScr, wDefM, kids_ls, kids_rt, withK_ls, withK_rt, OT.val, OT.vals, atom, e_add, e_sub, e_lt, e_le, e_gt, e_ge, e_neg, e_int, pick, e_ix0, e_ix1, e_ix2, e_ix3, e_n30, e_n31, e_n20, e_n21, exists_and_left, List.length_cons, List.length_nil, List.map_cons, List.map_nil, List.replicate_zero, List.replicate_succ, List.append_nil, List.nil_append, List.cons_append, List.getElem?_cons_zero, List.getElem?_cons_succ, List.getElem?_nil, List.set_cons_zero, List.set_cons_succ, List.getD_cons_zero, List.getD_cons_succ, List.not_mem_nil, not_false_eq_true, Nat.zero_add, Nat.reduceAdd, Nat.reduceSub, Nat.sub_self, Nat.sub_zero, if_true, if_false, toB_bool, Option.map_some, Option.some.injEq, Sl.ow.injEq, Sl.d.injEq, OT.ls.injEq, OT.rt.injEq, PyData.int.injEq, exists_eq_left', exists_eq_left, true_and, and_true, Bool.false_eq_true, S1, S2, S3, S4, Option.bind_some, Option.bind_none]
  have l00 := h3 l0 List.mem_cons_self
  refine ⟨by decide, _, rfl, ?_⟩
  refine wLoop_by (fun r ρ n => ∃ (pre rest gs : List Int) (most : Int) (s4 : Sl), r = rest.map .int ∧ pre ++ rest = l0 :: ls ∧ ρ = [.d drawD, .d (.list ((l0 :: ls).map .int)), .ow (intsT gs), .d (.int most), s4] ∧ m + 50 + rest.length ≤ n ∧ n ≤ m + 200 ∧ Paired (fun g l : Int => 0 ≤ g ∧ g ≤ l) gs pre ∧ 0 ≤ most ∧ most ≤ 1000 ∧ gs.Pairwise (· ≥ ·) ∧ ∀ g ∈ gs, most ≤ g)
    ⟨[], l0 :: ls, [], l0, _, rfl, rfl, rfl, by simp at h2 ⊢; omega, by omega, .nil, by omega, by omega, .nil, fun _ z => by cases z⟩ ?_ ?_
  · rintro d r ρ n ⟨pre, rest, gs, most, s4, hr, hpr, rfl, n1, n2, pp, m1, m2, pw, al⟩
    cases rest with
    | nil => cases hr
    | cons l rest =>
      rw [List.map_cons] at hr
      cases hr
      have hl := h3 l (by rw [← hpr]; exact List.mem_append_right _ List.mem_cons_self)
      have hlen : gs.length ≤ 100 := by
        have := congrArg List.length hpr
        rw [List.length_append, List.length_cons] at this
        rw [Paired.len pp]
        omega
      unfold intsT
      simp only [wDef, wRet, wE, W.map, W.bind, W.ret, W.opt, W.ite, W.no, wVar, wBin, wToB, wChain, wNotT, wAndT, wOrT, wAndV, wOrV, wNotV, wIf, wCons, wArgs, wConsO, wLs, wTp, wBinO, wUn, wUnO, wCut, wMove, wNext, wThen, wSet, wSetO, wTgt, wPairO, wDrop, wRetN, wBrk, wCont, wNever, wIfS, wAug, wFor, wBody, wCall, wLc, wLc2, wGen, wClause, startD, slO, wipeD, dPair, viewD, wLend, wLendT, wLendO, wThenJ, wPut, wPut1, wApp, wApp1, wCallK, wScr, wDefM, kids_ls, kids_rt, withK_ls, withK_rt, OT.val, OT.vals, atom, e_add, e_sub, e_lt, e_le, e_gt, e_ge, e_neg, e_int, pick, e_ix0, e_ix1, e_ix2, e_ix3, e_n30, e_n31, e_n20, e_n21, exists_and_left, List.length_cons, List.length_nil, List.map_cons, List.map_nil, List.replicate_zero, List.replicate_succ, List.append_nil, List.nil_append, List.cons_append, List.getElem?_cons_zero, List.getElem?_cons_succ, List.getElem?_nil, List.set_cons_zero, List.set_cons_succ, List.getD_cons_zero, List.getD_cons_succ, List.not_mem_nil, not_false_eq_true, Nat.zero_add, Nat.reduceAdd, Nat.reduceSub, Nat.sub_self, Nat.sub_zero, if_true, if_false, toB_bool, Option.map_some, Option.some.injEq, Sl.ow.injEq, Sl.d.injEq, OT.ls.injEq, OT.rt.injEq, PyData.int.injEq, exists_eq_left', exists_eq_left, true_and, and_true, Bool.false_eq_true, S1, S2, S3, S4, Option.bind_some, Option.bind_none]
      refine next_ok (n - 1) (by simp at n1; omega) fun z a1 a2 => ?_
      simp only [wDef, wRet, wE, W.map, W.bind, W.ret, W.opt, W.ite, W.no, wVar, wBin, wToB, wChain, wNotT, wAndT, wOrT, wAndV, wOrV, wNotV, wIf, wCons, wArgs, wConsO, wLs, wTp, wBinO, wUn, wUnO, wCut, wMove, wNext, wThen, wSet, wSetO, wTgt, wPairO, wDrop, wRetN, wBrk, wCont, wNever, wIfS, wAug, wFor, wBody, wCall, wLc, wLc2, wGen, wClause, startD, slO, wipeD, dPair, viewD, wLend, wLendT, wLendO, wThenJ, wPut, wPut1, wApp, wApp1, wCallK, wScr, wDefM, kids_ls, kids_rt, withK_ls, withK_rt, OT.val, OT.vals, atom, e_add, e_sub, e_lt, e_le, e_gt, e_ge, e_neg, e_int, pick, e_ix0, e_ix1, e_ix2, e_ix3, e_n30, e_n31, e_n20, e_n21, exists_and_left, List.length_cons, List.length_nil, List.map_cons, List.map_nil, List.replicate_zero, List.replicate_succ, List.append_nil, List.nil_append, List.cons_append, List.getElem?_cons_zero, List.getElem?_cons_succ, List.getElem?_nil, List.set_cons_zero, List.set_cons_succ, List.getD_cons_zero, List.getD_cons_succ, List.not_mem_nil, not_false_eq_true, Nat.zero_add, Nat.reduceAdd, Nat.reduceSub, Nat.sub_self, Nat.sub_zero, if_true, if_false, toB_bool, Option.map_some, Option.some.injEq, Sl.ow.injEq, Sl.d.injEq, OT.ls.injEq, OT.rt.injEq, PyData.int.injEq, exists_eq_left', exists_eq_left, true_and, and_true, Bool.false_eq_true, S1, S2, S3, S4, Option.bind_some, Option.bind_none]
      have c1 := Int.emod_nonneg z (show l + 1 ≠ 0 by omega)
      have c2 := Int.emod_lt_of_pos z (show 0 < l + 1 by omega)
      refine ⟨_, e_mod (by omega), _, e_min2, by rw [List.length_map]; omega, pre ++ [l], rest, rfl, by rw [List.append_assoc]; exact hpr, gs ++ [if z % (l + 1) < most then z % (l + 1) else most], (if z % (l + 1) < most then z % (l + 1) else most), _, by rw [List.map_append]; rfl, by simp at n1; omega, by omega, Paired.snoc pp (by split <;> omega), by split <;> omega, by split <;> omega, ?_, ?_⟩
      · refine List.pairwise_append.mpr ⟨pw, List.pairwise_singleton _ _, fun x hx y hy => ?_⟩
        rw [List.mem_singleton.mp hy]
        have := al x hx
        split <;> omega
      · intro g hg
        rcases List.mem_append.mp hg with hg | hg
        · have := al g hg
          split <;> omega
        · rw [List.mem_singleton.mp hg]
          exact Int.le_refl _
  · rintro ρ n ⟨pre, rest, gs, most, s4, hr, hpr, rfl, n1, n2, pp, m1, m2, pw, al⟩
    cases rest with
    | cons l rest => cases hr
    | nil =>
      rw [List.append_nil] at hpr
      subst hpr
      simp only [wDef, wRet, wE, W.map, W.bind, W.ret, W.opt, W.ite, W.no, wVar, wBin, wToB, wChain, wNotT, wAndT, wOrT, wAndV, wOrV, wNotV, wIf, wCons, wArgs, wConsO, wLs, wTp, wBinO, wUn, wUnO, wCut, wMove, wNext, wThen, wSet, wSetO, wTgt, wPairO, wDrop, wRetN, wBrk, wCont, wNever, wIfS, wAug, wFor, wBody, wCall, wLc, wLc2, wGen, wClause, startD, slO, wipeD, dPair, viewD, wLend, wLendT, wLendO, wThenJ, wPut, wPut1, wApp, wApp1, wCallK, wScr, wDefM, kids_ls, kids_rt, withK_ls, withK_rt, OT.val, OT.vals, atom, e_add, e_sub, e_lt, e_le, e_gt, e_ge, e_neg, e_int, pick, e_ix0, e_ix1, e_ix2, e_ix3, e_n30, e_n31, e_n20, e_n21, exists_and_left, List.length_cons, List.length_nil, List.map_cons, List.map_nil, List.replicate_zero, List.replicate_succ, List.append_nil, List.nil_append, List.cons_append, List.getElem?_cons_zero, List.getElem?_cons_succ, List.getElem?_nil, List.set_cons_zero, List.set_cons_succ, List.getD_cons_zero, List.getD_cons_succ, List.not_mem_nil, not_false_eq_true, Nat.zero_add, Nat.reduceAdd, Nat.reduceSub, Nat.sub_self, Nat.sub_zero, if_true, if_false, toB_bool, Option.map_some, Option.some.injEq, Sl.ow.injEq, Sl.d.injEq, OT.ls.injEq, OT.rt.injEq, PyData.int.injEq, exists_eq_left', exists_eq_left, true_and, and_true, Bool.false_eq_true, S1, S2, S3, S4, Option.bind_some, Option.bind_none]
      exact hP gs n (by simp at n1; omega) (by omega) ⟨pp, pw⟩

end QD

set_option Elab.async false
set_option linter.all false
set_option maxRecDepth 100000
set_option maxHeartbeats 4000000
namespace QD
open PySem PySem.Spec PyProof.Rows L2 GxR XG

variable {Pr : Program} {w : World} {K : PySem.W.Frag} {mg : Str → Option Value} {base : Heap} {tabs : Tb} {a : Ads}
theorem sc__law_look : FnScope ["gone", "lines", "high", "wide", "at"] ["gone", "lines", "high", "wide"] (defScope (top 26)) := ⟨rfl, rfl, rfl, by decide +kernel, rfl, by decide +kernel, by decide +kernel⟩
def orI : Option Int → Dt
  | none => .none
  | some i => .int i
/-- the number at a place of a piece -/
def look (gs : List Int) (rs : List (List Int)) (h w : Int) : Option Int := if 0 ≤ h then match rs[h.toNat]?, gs[h.toNat]? with
  | some r, some g => if 0 ≤ w - g then r[(w - g).toNat]? else none
  | _, _ => none
  else none
def spec__law_look : List Dt → W OT := S4 fun d1 d2 d3 d4 P _ n => ∃ (gs : List Int) (rs : List (List Int)) (h w : Int), d1 = intsD gs ∧ d2 = rowsD rs ∧ d3 = .int h ∧ d4 = .int w ∧ gs.length = rs.length ∧ P (.sh (orI (look gs rs h w))) n

theorem G__law_look (T : Txt K mg base tabs a) : FnOk Pr w K mg base (L2.CX Pr w) 1 a.f__law_look a.d__law_look ["gone", "lines", "high", "wide"] (spW tabs mg spec__law_look) := by
  have nd := (sc__law_look).nd
  refine impW (okW (k := 0) T.F__law_look sc__law_look fun A outer s H E hr tk po =>
    (ss_cons (s_if (t_not (t_chain op_le op_lt rd_le rd_lt x_int (x_var (pv 2)) (x_args rc_len (a_cons (x_var (pv 1)) a_nil) (fun _ q => pe_callB call_len_seq (by rfl) T.n_len (by decide +kernel) q)))) (ss_one (s_ret (o_sh x_non))) ss_nil)
    (ss_cons (s_set (x_op op_sub rd_sub (x_var (pv 3)) (x_ix ix_seq rd_ix (x_var (pv 0)) (x_var (pv 2)) (fun _ _ => rfl))) (fun _ q => ps_set (i := 4) nd rfl (by first | exact Or.inl rfl | exact Or.inr rfl) q))
    (ss_one (s_ret (o_sh (x_if (t_chain op_le op_lt rd_le rd_lt x_int (x_var (pv 4)) (x_args rc_len (a_cons (x_ix ix_seq rd_ix (x_var (pv 1)) (x_var (pv 2)) (fun _ _ => rfl)) a_nil) (fun _ q => pe_callB call_len_seq (by rfl) T.n_len (by decide +kernel) q))) (x_ix ix_seq rd_ix (x_ix ix_seq rd_ix (x_var (pv 1)) (x_var (pv 2)) (fun _ _ => rfl)) (x_var (pv 4)) (fun _ _ => rfl)) x_non))))))) fun xs P E n h => ?_
  refine sp4 h fun d1 d2 d3 d4 e h => ?_
  subst e
  obtain ⟨gs, rs, hh, ww, rfl, rfl, rfl, rfl, hl, hP⟩ := h
  simp only [wDef, wRet, wE, W.map, W.bind, W.ret, W.opt, W.ite, W.no, wVar, wBin, wToB, wChain, wNotT, wAndT, wOrT, wAndV, wOrV, wNotV, wIf, wCons, wArgs, wConsO, wLs, wTp, wBinO, wUn, wUnO, wCut, wMove, wNext, wThen, wSet, wSetO, wTgt, wPairO, wDrop, wRetN, wBrk, wCont, wNever, wIfS, wAug, wFor, wBody, wCall, wLc, wLc2, wGen, wClause, startD, slO, wipeD, dPair, viewD, wLend, wLendT, wLendO, wThenJ, wPut, wPut1, wApp, wApp1, wCallK, wScr, wDefM, kids_ls, kids_rt, withK_ls, withK_rt, OT.val, OT.vals, atom, e_add, e_sub, e_lt, e_le, e_gt, e_ge, e_neg, e_int, pick, e_ix0, e_ix1, e_ix2, e_ix3, e_n30, e_n31, e_n20, e_n21, exists_and_left, List.length_cons, List.length_nil, List.map_cons, List.map_nil, List.replicate_zero, List.replicate_succ, List.append_nil, List.nil_append, List.cons_append, List.getElem?_cons_zero, List.getElem?_cons_succ, List.getElem?_nil, List.set_cons_zero, List.set_cons_succ, List.getD_cons_zero, List.getD_cons_succ, List.not_mem_nil, not_false_eq_true, Nat.zero_add, Nat.reduceAdd, Nat.reduceSub, Nat.sub_self, Nat.sub_zero, if_true, if_false, toB_bool, Option.map_some, Option.some.injEq, Sl.ow.injEq, Sl.d.injEq, OT.ls.injEq, OT.rt.injEq, PyData.int.injEq, exists_eq_left', exists_eq_left, true_and, and_true, Bool.false_eq_true, S1, S2, S3, S4, Option.bind_some, Option.bind_none]
  by_cases h0 : 0 ≤ hh
  · by_cases h1 : hh < rs.length
    · have hi : hh.toNat < rs.length := by omega
      have hg : hh.toNat < gs.length := by omega
      have er : (rs.map intsD)[hh.toNat]? = some (intsD rs[hh.toNat]) := by rw [List.getElem?_map, List.getElem?_eq_getElem hi]; rfl
      have eg : (gs.map PyData.int)[hh.toNat]? = some (.int gs[hh.toNat]) := by rw [List.getElem?_map, List.getElem?_eq_getElem hg]; rfl
      have el : fLen [rowsD rs] = some (.int (rs.length : Nat)) := by simp [rowsD, fLen]
      have el2 : fLen [intsD rs[hh.toNat]] = some (.int ((rs[hh.toNat]).length : Nat)) := by simp [intsD, fLen]
      have lk : look gs rs hh ww = if 0 ≤ ww - gs[hh.toNat] then rs[hh.toNat][(ww - gs[hh.toNat]).toNat]? else none := by
        unfold look
        rw [if_pos h0, List.getElem?_eq_getElem hi, List.getElem?_eq_getElem hg]
      rw [lk] at hP
      rw [decide_eq_true h0, if_pos rfl]
      refine ⟨_, el, _, e_lt, _, rfl, ?_⟩
      rw [decide_eq_true h1]
      simp only [Bool.not_true, Bool.false_eq_true, if_false]
      refine ⟨_, e_ix h0 eg, _, e_sub, _, rfl, ?_⟩
      by_cases h2 : 0 ≤ ww - gs[hh.toNat]
      · rw [if_pos h2] at hP
        rw [decide_eq_true h2, if_pos rfl]
        refine ⟨_, e_ix h0 er, _, el2, _, e_lt, _, rfl, ?_⟩
        by_cases h3 : ww - gs[hh.toNat] < (rs[hh.toNat]).length
        · rw [decide_eq_true h3, if_pos rfl]
          have hj : (ww - gs[hh.toNat]).toNat < (rs[hh.toNat]).length := by omega
          rw [List.getElem?_eq_getElem hj] at hP
          exact ⟨_, e_ix h0 er, _, dIx_ints h2 (List.getElem?_eq_getElem hj), hP⟩
        · rw [decide_eq_false h3, if_neg Bool.false_ne_true]
          rw [List.getElem?_eq_none (by omega)] at hP
          exact hP
      · rw [if_neg h2] at hP
        rw [decide_eq_false h2, if_neg Bool.false_ne_true]
        exact hP
    · have lk : look gs rs hh ww = none := by
        unfold look
        rw [if_pos h0, List.getElem?_eq_none (by omega)]
      rw [lk] at hP
      rw [decide_eq_true h0, if_pos rfl]
      have el : fLen [rowsD rs] = some (.int (rs.length : Nat)) := by simp [rowsD, fLen]
      refine ⟨_, el, _, e_lt, _, rfl, ?_⟩
      rw [decide_eq_false h1]
      exact hP
  · have lk : look gs rs hh ww = none := by
      unfold look
      rw [if_neg h0]
    rw [lk] at hP
    rw [decide_eq_false h0, if_neg Bool.false_ne_true]
    exact hP

end QD

set_option Elab.async false
set_option linter.all false
set_option maxRecDepth 100000
set_option maxHeartbeats 4000000
namespace QD
open PySem PySem.Spec PyProof.Rows L2 GxR XG

variable {Pr : Program} {w : World} {K : PySem.W.Frag} {mg : Str → Option Value} {base : Heap} {tabs : Tb} {a : Ads}
theorem sc__law_good : FnScope ["gone", "lines", "high", "line", "at", "figure", "above"] ["gone", "lines"] (defScope (top 28)) := ⟨rfl, rfl, rfl, by decide +kernel, rfl, by decide +kernel, by decide +kernel⟩
def cellOk (gs : List Int) (rs : List (List Int)) (h : Nat) (line : List Int) (a : Nat) (f : Int) : Prop := (∀ b, 0 < a → line[a - 1]? = some b → b ≤ f) ∧ ∀ u, look gs rs ((h : Int) - 1) (gs.getD h 0 + a) = some u → u < f
def rowOk (gs : List Int) (rs : List (List Int)) (h : Nat) (line : List Int) : Prop := ∀ a f, line[a]? = some f → cellOk gs rs h line a f
def goodP (gs : List Int) (rs : List (List Int)) : Prop := ∀ h line, rs[h]? = some line → rowOk gs rs h line
def spec__law_good : List Dt → W OT := S2 fun d1 d2 P _ n => ∃ (gs : List Int) (rs : List (List Int)), d1 = intsD gs ∧ d2 = rowsD rs ∧ gs.length = rs.length ∧ ∀ b, (b = true ↔ goodP gs rs) → P (.sh (.bool b)) n
theorem iteT' {c : Bool} {a b : Prop} (h : c = true) (k : a) : if c = true then a else b := by rw [if_pos h]; exact k
theorem iteF' {c : Bool} {a b : Prop} (h : c = false) (k : b) : if c = true then a else b := by rw [h, if_neg Bool.false_ne_true]; exact k
theorem kEnum_rows {rs : List (List Int)} : kEnum [rowsD rs] = some (enumF 0 (rs.map intsD)) := rfl
theorem kEnum_ints {xs : List Int} : kEnum [intsD xs] = some (enumF 0 (xs.map .int)) := rfl

theorem G__law_good (T : Txt K mg base tabs a) : FnOk Pr w K mg base (L2.CX Pr w) 2 a.f__law_good a.d__law_good ["gone", "lines"] (spW tabs mg spec__law_good) := by
  have nd := (sc__law_good).nd
  refine impW (okW (k := 1) T.F__law_good sc__law_good fun A outer s H E hr tk po =>
    (ss_cons (s_for (i_enum (a_cons (x_var (pv 1)) a_nil) (fun _ q => pi_enum rfl T.n_enumerate q)) (g_pair (pg_tup rfl (pgs_cons (pg_name (i := 2) nd rfl (by first | exact Or.inl rfl | exact Or.inr rfl)) (pgs_cons (pg_name (i := 3) nd rfl (by first | exact Or.inl rfl | exact Or.inr rfl)) pgs_nil)))) (ss_one (s_for (i_enum (a_cons (x_var (pv 3)) a_nil) (fun _ q => pi_enum rfl T.n_enumerate q)) (g_pair (pg_tup rfl (pgs_cons (pg_name (i := 4) nd rfl (by first | exact Or.inl rfl | exact Or.inr rfl)) (pgs_cons (pg_name (i := 5) nd rfl (by first | exact Or.inl rfl | exact Or.inr rfl)) pgs_nil)))) (ss_cons (s_set (x_frz (o_call (a_cons (x_var (pv 0)) (a_cons (x_var (pv 1)) (a_cons (x_op op_sub rd_sub (x_var (pv 2)) x_int) (a_cons (x_op op_addD rd_add (x_ix ix_seq rd_ix (x_var (pv 0)) (x_var (pv 2)) (fun _ _ => rfl)) (x_var (pv 4))) a_nil)))) (fun _ q => pe_callS (G__law_look T) (hr.mono (by decide)) (by rfl) T.m__law_look T.F__law_look.kp T.b__law_look (fun _ => passAt tk _) q))) (fun _ q => ps_set (i := 6) nd rfl (by first | exact Or.inl rfl | exact Or.inr rfl) q))
    (ss_cons (s_if (t_w (w_and (t_cmp op_gt rd_gt (x_var (pv 4)) x_int (nomark _)) (w_and1 (t_cmp op_gt rd_gt (x_ix ix_seq rd_ix (x_var (pv 3)) (x_op op_sub rd_sub (x_var (pv 4)) x_int) (fun _ _ => rfl)) (x_var (pv 5)) (nomark _))))) (ss_one (s_ret (o_sh x_bl))) ss_nil)
    (ss_one (s_if (t_w (w_and (t_cmp op_notN rd_notN (x_var (pv 6)) x_non (nomark _)) (w_and1 (t_cmp op_ge rd_ge (x_var (pv 6)) (x_var (pv 5)) (nomark _))))) (ss_one (s_ret (o_sh x_bl))) ss_nil)))) (fun _ _ _ a b c => ps_for po rfl a b c))) (fun _ _ _ a b c => ps_for po rfl a b c))
    (ss_one (s_ret (o_sh x_bl))))) fun xs P E n h => ?_
  refine sp2 h fun d1 d2 e h => ?_
  subst e
  obtain ⟨gs, rs, rfl, rfl, hl, hP⟩ := h
  simp only [wDef, wRet, wE, W.map, W.bind, W.ret, W.opt, W.ite, W.no, wVar, wBin, wToB, wChain, wNotT, wAndT, wOrT, wAndV, wOrV, wNotV, wIf, wCons, wArgs, wConsO, wLs, wTp, wBinO, wUn, wUnO, wCut, wMove, wNext, wThen, wSet, wSetO, wTgt, wPairO, wDrop, wRetN, wBrk, wCont, wNever, wIfS, wAug, wFor, wBody, wCall, wLc, wLc2, wGen, wClause, startD, slO, wipeD, dPair, viewD, wLend, wLendT, wLendO, wThenJ, wPut, wPut1, wApp, wApp1, wCallK, wScr, wDefM, kids_ls, kids_rt, withK_ls, withK_rt, OT.val, OT.vals, atom, e_add, e_sub, e_lt, e_le, e_gt, e_ge, e_neg, e_int, pick, e_ix0, e_ix1, e_ix2, e_ix3, e_n30, e_n31, e_n20, e_n21, exists_and_left, List.length_cons, List.length_nil, List.map_cons, List.map_nil, List.replicate_zero, List.replicate_succ, List.append_nil, List.nil_append, List.cons_append, List.getElem?_cons_zero, List.getElem?_cons_succ, List.getElem?_nil, List.set_cons_zero, List.set_cons_succ, List.getD_cons_zero, List.getD_cons_succ, List.not_mem_nil, not_false_eq_true, Nat.zero_add, Nat.reduceAdd, Nat.reduceSub, Nat.sub_self, Nat.sub_zero, if_true, if_false, toB_bool, Option.map_some, Option.some.injEq, Sl.ow.injEq, Sl.d.injEq, OT.ls.injEq, OT.rt.injEq, PyData.int.injEq, exists_eq_left', exists_eq_left, true_and, and_true, Bool.false_eq_true, S1, S2, S3, S4, Option.bind_some, Option.bind_none]
  refine ⟨_, kEnum_rows, ?_⟩
  refine wLoop_by (fun r ρ n' => n' = n ∧ ∃ (pre rest : List (List Int)), r = enumF pre.length (rest.map intsD) ∧ pre ++ rest = rs ∧ ∃ (s2 s3 s4 s5 s6 : Sl), ρ = [.d (intsD gs), .d (rowsD rs), s2, s3, s4, s5, s6] ∧ ∀ h line, pre[h]? = some line → rowOk gs rs h line)
    ⟨rfl, [], rs, rfl, rfl, _, _, _, _, _, rfl, fun _ _ z => by simp at z⟩ ?_ ?_
  · rintro d r ρ n' ⟨rfl, pre, rest, hr, hpr, s2, s3, s4, s5, s6, rfl, ok⟩
    cases rest with
    | nil => cases hr
    | cons line rest =>
      rw [List.map_cons, enumF_cons] at hr
      cases hr
      have hrow : rs[pre.length]? = some line := by rw [← hpr]; simp
      simp only [wDef, wRet, wE, W.map, W.bind, W.ret, W.opt, W.ite, W.no, wVar, wBin, wToB, wChain, wNotT, wAndT, wOrT, wAndV, wOrV, wNotV, wIf, wCons, wArgs, wConsO, wLs, wTp, wBinO, wUn, wUnO, wCut, wMove, wNext, wThen, wSet, wSetO, wTgt, wPairO, wDrop, wRetN, wBrk, wCont, wNever, wIfS, wAug, wFor, wBody, wCall, wLc, wLc2, wGen, wClause, startD, slO, wipeD, dPair, viewD, wLend, wLendT, wLendO, wThenJ, wPut, wPut1, wApp, wApp1, wCallK, wScr, wDefM, kids_ls, kids_rt, withK_ls, withK_rt, OT.val, OT.vals, atom, e_add, e_sub, e_lt, e_le, e_gt, e_ge, e_neg, e_int, pick, e_ix0, e_ix1, e_ix2, e_ix3, e_n30, e_n31, e_n20, e_n21, exists_and_left, List.length_cons, List.length_nil, List.map_cons, List.map_nil, List.replicate_zero, List.replicate_succ, List.append_nil, List.nil_append, List.cons_append, List.getElem?_cons_zero, List.getElem?_cons_succ, List.getElem?_nil, List.set_cons_zero, List.set_cons_succ, List.getD_cons_zero, List.getD_cons_succ, List.not_mem_nil, not_false_eq_true, Nat.zero_add, Nat.reduceAdd, Nat.reduceSub, Nat.sub_self, Nat.sub_zero, if_true, if_false, toB_bool, Option.map_some, Option.some.injEq, Sl.ow.injEq, Sl.d.injEq, OT.ls.injEq, OT.rt.injEq, PyData.int.injEq, exists_eq_left', exists_eq_left, true_and, and_true, Bool.false_eq_true, S1, S2, S3, S4, Option.bind_some, Option.bind_none]
      refine ⟨_, kEnum_ints, ?_⟩
      refine wLoop_by (fun r ρ n2 => n2 = n' ∧ ∃ (p2 rest2 : List Int), r = enumF p2.length (rest2.map .int) ∧ p2 ++ rest2 = line ∧ ∃ (s4 s5 s6 : Sl), ρ = [.d (intsD gs), .d (rowsD rs), .d (.int pre.length), .d (intsD line), s4, s5, s6] ∧ ∀ a f, p2[a]? = some f → cellOk gs rs pre.length line a f)
        ⟨rfl, [], line, rfl, rfl, _, _, _, rfl, fun _ _ z => by simp at z⟩ ?_ ?_
      · rintro d r2 ρ n2 ⟨rfl, p2, rest2, hr, hp2, s4, s5, s6, rfl, ok2⟩
        cases rest2 with
        | nil => cases hr
        | cons f rest2 =>
          rw [List.map_cons, enumF_cons] at hr
          cases hr
          have hf : line[p2.length]? = some f := by rw [← hp2]; simp
          have hg : pre.length < gs.length := by
            obtain ⟨q, _⟩ := List.getElem?_eq_some_iff.mp hrow
            omega
          have eg : gs[((pre.length : Nat) : Int).toNat]? = some gs[pre.length] := by rw [Int.toNat_natCast]; exact List.getElem?_eq_getElem hg
          have gd : gs.getD pre.length 0 = gs[pre.length] := by rw [List.getD_eq_getElem?_getD, List.getElem?_eq_getElem hg]; rfl
          have bad : ¬ cellOk gs rs pre.length line p2.length f → P (.sh (.bool false)) n2 := fun z => hP false ⟨nofun, fun g => absurd (g _ _ hrow _ _ hf) z⟩
          have step : cellOk gs rs pre.length line p2.length f → ∀ a f', (p2 ++ [f])[a]? = some f' → cellOk gs rs pre.length line a f' := fun c a f' ha => by
            by_cases hlt : a < p2.length
            · rw [List.getElem?_append_left hlt] at ha
              exact ok2 a f' ha
            · rw [List.getElem?_append_right (by omega)] at ha
              have e0 : a - p2.length = 0 := by
                cases hq : a - p2.length with
                | zero => rfl
                | succ q => rw [hq] at ha; simp at ha
              rw [e0] at ha
              cases ha
              have : a = p2.length := by omega
              subst this
              exact c
          have e2 : p2.length + 1 = (p2 ++ [f]).length := by rw [List.length_append]; rfl
          have e3 : (p2 ++ [f]) ++ rest2 = line := by rw [List.append_assoc]; exact hp2
          simp only [wDef, wRet, wE, W.map, W.bind, W.ret, W.opt, W.ite, W.no, wVar, wBin, wToB, wChain, wNotT, wAndT, wOrT, wAndV, wOrV, wNotV, wIf, wCons, wArgs, wConsO, wLs, wTp, wBinO, wUn, wUnO, wCut, wMove, wNext, wThen, wSet, wSetO, wTgt, wPairO, wDrop, wRetN, wBrk, wCont, wNever, wIfS, wAug, wFor, wBody, wCall, wLc, wLc2, wGen, wClause, startD, slO, wipeD, dPair, viewD, wLend, wLendT, wLendO, wThenJ, wPut, wPut1, wApp, wApp1, wCallK, wScr, wDefM, kids_ls, kids_rt, withK_ls, withK_rt, OT.val, OT.vals, atom, e_add, e_sub, e_lt, e_le, e_gt, e_ge, e_neg, e_int, pick, e_ix0, e_ix1, e_ix2, e_ix3, e_n30, e_n31, e_n20, e_n21, exists_and_left, List.length_cons, List.length_nil, List.map_cons, List.map_nil, List.replicate_zero, List.replicate_succ, List.append_nil, List.nil_append, List.cons_append, List.getElem?_cons_zero, List.getElem?_cons_succ, List.getElem?_nil, List.set_cons_zero, List.set_cons_succ, List.getD_cons_zero, List.getD_cons_succ, List.not_mem_nil, not_false_eq_true, Nat.zero_add, Nat.reduceAdd, Nat.reduceSub, Nat.sub_self, Nat.sub_zero, if_true, if_false, toB_bool, Option.map_some, Option.some.injEq, Sl.ow.injEq, Sl.d.injEq, OT.ls.injEq, OT.rt.injEq, PyData.int.injEq, exists_eq_left', exists_eq_left, true_and, and_true, Bool.false_eq_true, S1, S2, S3, S4, Option.bind_some, Option.bind_none]
          refine ⟨_, dIx_ints (by omega) eg, _, e_add, gs, rs, _, _, rfl, rfl, rfl, rfl, hl, ?_⟩
          have above : ∀ (lk : Option Int), look gs rs ((pre.length : Int) - 1) (gs.getD pre.length 0 + (p2.length : Nat)) = lk → (∀ b, 0 < p2.length → line[p2.length - 1]? = some b → b ≤ f) → 
              (match lk with | none => true | some u => decide (u < f)) = true → cellOk gs rs pre.length line p2.length f := fun lk e hb ha => ⟨hb, fun u hu => by
            rw [e] at hu
            subst hu
            simpa using ha⟩
          rw [← gd]
          generalize hlk : look gs rs ((pre.length : Int) - 1) (gs.getD pre.length 0 + (p2.length : Nat)) = lk at above ⊢
          have left : 0 < p2.length → ∃ b, dIx (intsD line) (.int ((p2.length : Int) - 1)) = some (.int b) ∧ line[p2.length - 1]? = some b := fun h0 => by
            have hb0 : p2.length - 1 < line.length := by
              obtain ⟨q, _⟩ := List.getElem?_eq_some_iff.mp hf
              omega
            have eb : line[((p2.length : Int) - 1).toNat]? = some line[p2.length - 1] := by
              rw [show ((p2.length : Int) - 1).toNat = p2.length - 1 by omega]
              exact List.getElem?_eq_getElem hb0
            exact ⟨_, dIx_ints (by omega) eb, List.getElem?_eq_getElem hb0⟩
          have next : cellOk gs rs pre.length line p2.length f → ∀ x : Sl, ∃ p2_1 rest2_1, enumF (p2.length + 1) (List.map PyData.int rest2) = enumF p2_1.length (List.map PyData.int rest2_1) ∧ p2_1 ++ rest2_1 = line ∧ ∃ s4 s5 s6, [Sl.d (intsD gs), Sl.d (rowsD rs), Sl.d (PyData.int pre.length), Sl.d (intsD line), Sl.d (PyData.int p2.length), Sl.d (PyData.int f), x] = [Sl.d (intsD gs), Sl.d (rowsD rs), Sl.d (PyData.int pre.length), Sl.d (intsD line), s4, s5, s6] ∧ ∀ a f, p2_1[a]? = some f → cellOk gs rs pre.length line a f := fun c x =>
            ⟨p2 ++ [f], rest2, by rw [e2], e3, _, _, _, rfl, step c⟩
          cases lk with
          | none =>
            by_cases h0 : 0 < p2.length
            · obtain ⟨b, hb1, hb2⟩ := left h0
              refine iteT' (decide_eq_true (by omega)) ⟨_, hb1, _, e_gt, _, rfl, ?_⟩
              by_cases hc : f < b
              · exact iteT' (decide_eq_true hc) (bad fun c => by have := c.1 _ h0 hb2; omega)
              · exact iteF' (decide_eq_false hc) ⟨_, rfl, _, rfl, rfl, next (above none rfl (fun b' _ hb' => by rw [hb2] at hb'; cases hb'; omega) rfl) _⟩
            · exact iteF' (decide_eq_false (by omega)) ⟨_, rfl, _, rfl, rfl, next (above none rfl (fun b' z _ => absurd z h0) rfl) _⟩
          | some u =>
            have fin : (∀ b, 0 < p2.length → line[p2.length - 1]? = some b → b ≤ f) → f ≤ u ∨ (u < f ∧ cellOk gs rs pre.length line p2.length f) := fun hb => by
              by_cases hu : f ≤ u
              · exact .inl hu
              · exact .inr ⟨by omega, above (some u) rfl hb (decide_eq_true (by omega))⟩
            have no : f ≤ u → P (.sh (.bool false)) n2 := fun hu => bad fun c => by have := c.2 u hlk; omega
            by_cases h0 : 0 < p2.length
            · obtain ⟨b, hb1, hb2⟩ := left h0
              refine iteT' (decide_eq_true (by omega)) ⟨_, hb1, _, e_gt, _, rfl, ?_⟩
              by_cases hc : f < b
              · exact iteT' (decide_eq_true hc) (bad fun c => by have := c.1 _ h0 hb2; omega)
              · refine iteF' (decide_eq_false hc) ⟨_, rfl, _, rfl, _, e_ge, _, rfl, ?_⟩
                rcases fin (fun b' _ hb' => by rw [hb2] at hb'; cases hb'; omega) with hu | ⟨hu, hc⟩
                · exact iteT' (decide_eq_true hu) (no hu)
                · exact iteF' (decide_eq_false (by omega)) ⟨rfl, next hc _⟩
            · refine iteF' (decide_eq_false (by omega)) ⟨_, rfl, _, rfl, _, e_ge, _, rfl, ?_⟩
              rcases fin (fun b' z _ => absurd z h0) with hu | ⟨hu, hc⟩
              · exact iteT' (decide_eq_true hu) (no hu)
              · exact iteF' (decide_eq_false (by omega)) ⟨rfl, next hc _⟩
      · rintro ρ n2 ⟨rfl, p2, rest2, hr, hp2, s4, s5, s6, rfl, ok2⟩
        cases rest2 with
        | cons _ _ => cases hr
        | nil =>
          rw [List.append_nil] at hp2
          subst hp2
          simp only [wDef, wRet, wE, W.map, W.bind, W.ret, W.opt, W.ite, W.no, wVar, wBin, wToB, wChain, wNotT, wAndT, wOrT, wAndV, wOrV, wNotV, wIf, wCons, wArgs, wConsO, wLs, wTp, wBinO, wUn, wUnO, wCut, wMove, wNext, wThen, wSet, wSetO, wTgt, wPairO, wDrop, wRetN, wBrk, wCont, wNever, wIfS, wAug, wFor, wBody, wCall, wLc, wLc2, wGen, wClause, startD, slO, wipeD, dPair, viewD, wLend, wLendT, wLendO, wThenJ, wPut, wPut1, wApp, wApp1, wCallK, wScr, wDefM, kids_ls, kids_rt, withK_ls, withK_rt, OT.val, OT.vals, atom, e_add, e_sub, e_lt, e_le, e_gt, e_ge, e_neg, e_int, pick, e_ix0, e_ix1, e_ix2, e_ix3, e_n30, e_n31, e_n20, e_n21, exists_and_left, List.length_cons, List.length_nil, List.map_cons, List.map_nil, List.replicate_zero, List.replicate_succ, List.append_nil, List.nil_append, List.cons_append, List.getElem?_cons_zero, List.getElem?_cons_succ, List.getElem?_nil, List.set_cons_zero, List.set_cons_succ, List.getD_cons_zero, List.getD_cons_succ, List.not_mem_nil, not_false_eq_true, Nat.zero_add, Nat.reduceAdd, Nat.reduceSub, Nat.sub_self, Nat.sub_zero, if_true, if_false, toB_bool, Option.map_some, Option.some.injEq, Sl.ow.injEq, Sl.d.injEq, OT.ls.injEq, OT.rt.injEq, PyData.int.injEq, exists_eq_left', exists_eq_left, true_and, and_true, Bool.false_eq_true, S1, S2, S3, S4, Option.bind_some, Option.bind_none]
          refine ⟨pre ++ [p2], rest, by rw [List.length_append]; rfl, by rw [List.append_assoc]; exact hpr, _, _, _, _, _, rfl, fun h l hh => ?_⟩
          by_cases hlt : h < pre.length
          · rw [List.getElem?_append_left hlt] at hh
            exact ok h l hh
          · rw [List.getElem?_append_right (by omega)] at hh
            have e0 : h - pre.length = 0 := by
              cases hq : h - pre.length with
              | zero => rfl
              | succ q => rw [hq] at hh; simp at hh
            rw [e0] at hh
            cases hh
            have : h = pre.length := by omega
            subst this
            exact ok2
  · rintro ρ n' ⟨rfl, pre, rest, hr, hpr, s2, s3, s4, s5, s6, rfl, ok⟩
    cases rest with
    | cons _ _ => cases hr
    | nil =>
      rw [List.append_nil] at hpr
      subst hpr
      simp only [wDef, wRet, wE, W.map, W.bind, W.ret, W.opt, W.ite, W.no, wVar, wBin, wToB, wChain, wNotT, wAndT, wOrT, wAndV, wOrV, wNotV, wIf, wCons, wArgs, wConsO, wLs, wTp, wBinO, wUn, wUnO, wCut, wMove, wNext, wThen, wSet, wSetO, wTgt, wPairO, wDrop, wRetN, wBrk, wCont, wNever, wIfS, wAug, wFor, wBody, wCall, wLc, wLc2, wGen, wClause, startD, slO, wipeD, dPair, viewD, wLend, wLendT, wLendO, wThenJ, wPut, wPut1, wApp, wApp1, wCallK, wScr, wDefM, kids_ls, kids_rt, withK_ls, withK_rt, OT.val, OT.vals, atom, e_add, e_sub, e_lt, e_le, e_gt, e_ge, e_neg, e_int, pick, e_ix0, e_ix1, e_ix2, e_ix3, e_n30, e_n31, e_n20, e_n21, exists_and_left, List.length_cons, List.length_nil, List.map_cons, List.map_nil, List.replicate_zero, List.replicate_succ, List.append_nil, List.nil_append, List.cons_append, List.getElem?_cons_zero, List.getElem?_cons_succ, List.getElem?_nil, List.set_cons_zero, List.set_cons_succ, List.getD_cons_zero, List.getD_cons_succ, List.not_mem_nil, not_false_eq_true, Nat.zero_add, Nat.reduceAdd, Nat.reduceSub, Nat.sub_self, Nat.sub_zero, if_true, if_false, toB_bool, Option.map_some, Option.some.injEq, Sl.ow.injEq, Sl.d.injEq, OT.ls.injEq, OT.rt.injEq, PyData.int.injEq, exists_eq_left', exists_eq_left, true_and, and_true, Bool.false_eq_true, S1, S2, S3, S4, Option.bind_some, Option.bind_none]
      exact hP true ⟨fun _ => ok, fun _ => rfl⟩

end QD

set_option Elab.async false
set_option linter.all false
set_option maxRecDepth 100000
set_option maxHeartbeats 4000000
namespace QD
open PySem PySem.Spec PyProof.Rows L2 GxR XG

variable {Pr : Program} {w : World} {K : PySem.W.Frag} {mg : Str → Option Value} {base : Heap} {tabs : Tb} {a : Ads}
theorem sc__law_piece : FnScope ["draws", "lengths", "step", "gone", "lines", "long", "high", "wide", "left", "above", "low"] ["draws", "lengths", "step"] (defScope (top 27)) := ⟨rfl, rfl, rfl, by decide +kernel, rfl, by decide +kernel, by decide +kernel⟩
def rowsT (rs : List (List Int)) : OT := .ls (rs.map intsT)
theorem val_ints (xs : List Int) : (intsT xs).val = intsD xs := by
  unfold intsT intsD
  simp only [OT.val, OT.vals_eq, List.map_map]
  rfl
theorem val_rows (rs : List (List Int)) : (rowsT rs).val = rowsD rs := by
  unfold rowsT rowsD
  simp only [OT.val, OT.vals_eq, List.map_map]
  congr 1
  apply List.map_congr_left
  intro r _
  exact val_ints r
theorem look_set {gs : List Int} {rs : List (List Int)} {i : Nat} {r' : List Int} {h w : Int} (ne : h ≠ i) : look gs (rs.set i r') h w = look gs rs h w := by
  unfold look
  by_cases h0 : 0 ≤ h
  · rw [if_pos h0, if_pos h0, List.getElem?_set_ne (by omega)]
  · rw [if_neg h0, if_neg h0]
theorem snoc_get {α : Type} {xs : List α} {x f : α} {a : Nat} (h : (xs ++ [x])[a]? = some f) : (a < xs.length ∧ xs[a]? = some f) ∨ (a = xs.length ∧ f = x) := by
  by_cases hlt : a < xs.length
  · rw [List.getElem?_append_left hlt] at h
    exact .inl ⟨hlt, h⟩
  · rw [List.getElem?_append_right (by omega)] at h
    have e0 : a - xs.length = 0 := by
      cases hq : a - xs.length with
      | zero => rfl
      | succ q => rw [hq] at h; simp at h
    rw [e0] at h
    cases h
    exact .inr ⟨by omega, rfl⟩
/-- one more number in a row, none below -/
theorem good_snoc {gs : List Int} {rs : List (List Int)} {i : Nat} {row : List Int} {g x : Int} (hg : goodP gs rs) (hr : rs[i]? = some row) (hn : ∀ r, rs[i + 1]? = some r → r = []) (hgi : gs[i]? = some g)
    (hl : ∀ b, 0 < row.length → row[row.length - 1]? = some b → b ≤ x) (hu : ∀ u, look gs rs ((i : Int) - 1) (g + row.length) = some u → u < x) : goodP gs (rs.set i (row ++ [x])) := by
  have gd : gs.getD i 0 = g := by rw [List.getD_eq_getElem?_getD, hgi]; rfl
  intro h line hline a f ha
  have hi : i < rs.length := by
    obtain ⟨q, _⟩ := List.getElem?_eq_some_iff.mp hr
    exact q
  by_cases e : i = h
  · subst e
    rw [List.getElem?_set_self hi] at hline
    cases hline
    rcases snoc_get ha with ⟨hlt, ha'⟩ | ⟨rfl, rfl⟩
    · obtain ⟨c1, c2⟩ := hg i row hr a f ha'
      refine ⟨fun b h0 hb => ?_, fun u hk => ?_⟩
      · rw [List.getElem?_append_left (by omega)] at hb
        exact c1 b h0 hb
      · rw [look_set (by omega)] at hk
        exact c2 u hk
    · refine ⟨fun b h0 hb => ?_, fun u hk => ?_⟩
      · rw [List.getElem?_append_left (by omega)] at hb
        exact hl b h0 hb
      · rw [look_set (by omega), gd] at hk
        exact hu u hk
  · rw [List.getElem?_set_ne e] at hline
    obtain ⟨c1, c2⟩ := hg h line hline a f ha
    refine ⟨c1, fun u hk => ?_⟩
    by_cases e2 : h = i + 1
    · subst e2
      have := hn line hline
      subst this
      simp at ha
    · rw [look_set (by omega)] at hk
      exact c2 u hk
theorem look_mem {gs : List Int} {rs : List (List Int)} {h w v : Int} (e : look gs rs h w = some v) : ∃ r ∈ rs, v ∈ r := by
  unfold look at e
  split at e
  · split at e
    · rename_i r g h1 h2
      split at e
      · exact ⟨r, List.mem_of_getElem? h1, List.mem_of_getElem? e⟩
      · cases e
    · cases e
  · cases e
theorem rowsT_set (rs : List (List Int)) (i : Nat) (r : List Int) : rowsT (rs.set i r) = .ls ((rs.map intsT).set i (intsT r)) := by
  unfold rowsT
  rw [List.map_set]
def lowOf (l u : Option Int) : Int := if l.getD (-3) < (u.map (· + 1)).getD (-3) then (u.map (· + 1)).getD (-3) else l.getD (-3)
/-- a sorted piece of these lengths -/
structure PieceOk (ls gs : List Int) (rs : List (List Int)) (B : Int) : Prop where
  gone : GoneOk ls gs
  len : rs.length = gs.length
  each : ∀ (i : Nat) r g l, rs[i]? = some r → gs[i]? = some g → ls[i]? = some l → g + (r.length : Int) = l
  good : goodP gs rs
  bd : ∀ r ∈ rs, ∀ x ∈ r, -3 ≤ x ∧ x ≤ B
def spec__law_piece : List Dt → W OT := S3 fun d1 d2 d3 P _ n => ∃ (ls : List Int) (st : Int), d1 = drawD ∧ d2 = intsD ls ∧ d3 = .int st ∧ ls ≠ [] ∧ ls.length ≤ 8 ∧ (∀ l ∈ ls, 1 ≤ l ∧ l ≤ 8) ∧ 1 ≤ st ∧ st ≤ 1000 ∧ ∃ m, n = m + 1000 ∧ ∀ gs rs n', m ≤ n' → n' ≤ n → PieceOk ls gs rs 100000 → P (.tp [.sh (intsD gs), rowsT rs]) n'

theorem G__law_piece (T : Txt K mg base tabs a) : FnOk Pr w K mg base (L2.CX Pr w) 3 a.f__law_piece a.d__law_piece ["draws", "lengths", "step"] (spW tabs mg spec__law_piece) := by
  have nd := (sc__law_piece).nd
  refine impW (okW (k := 2) T.F__law_piece sc__law_piece fun A outer s H E hr tk po =>
    (ss_cons (s_set (x_frz (o_call (a_cons (x_var (pv 0)) (a_cons (x_var (pv 1)) a_nil)) (fun _ q => pe_callS (G__law_within T) (hr.mono (by decide)) (by rfl) T.m__law_within T.F__law_within.kp T.b__law_within (fun _ => passAt tk _) q))) (fun _ q => ps_set (i := 3) nd rfl (by first | exact Or.inl rfl | exact Or.inr rfl) q))
    (ss_cons (s_setOR (ps_setLc (i := 4) (own := [(("long" : Str), 5)]) rfl nd rfl rfl (sw_true rfl rfl rfl (by decide +kernel)) (XI.can (i_list (x_var (pv 1)))) (blkOk_by (own := [(("long" : Str), 5)]) (by kernel_rfl)) (fun _ _ _ _ _ => XTg.can (g_name (pg_name (i := 5) nd rfl (by first | exact Or.inl rfl | exact Or.inr rfl)))) (fun _ _ _ _ _ => XTs.can ts_nil) (fun _ _ _ _ _ => XO.can (o_lst oa_nil))) (lc_read (by decide)))
    (ss_cons (s_for (i_enum (a_cons (x_var (pv 1)) a_nil) (fun _ q => pi_enum rfl T.n_enumerate q)) (g_pair (pg_tup rfl (pgs_cons (pg_name (i := 6) nd rfl (by first | exact Or.inl rfl | exact Or.inr rfl)) (pgs_cons (pg_name (i := 5) nd rfl (by first | exact Or.inl rfl | exact Or.inr rfl)) pgs_nil)))) (ss_one (s_for (i_rng2 (a_cons (x_ix ix_seq rd_ix (x_var (pv 3)) (x_var (pv 6)) (fun _ _ => rfl)) (a_cons (x_var (pv 5)) a_nil)) (fun _ q => pi_range2 rfl T.n_range q)) (g_name (pg_name (i := 7) nd rfl (by first | exact Or.inl rfl | exact Or.inr rfl))) (ss_cons (s_set (x_lend 4 (x_frz (o_call (a_cons (x_var (pv 3)) (a_cons (x_var (pv 4)) (a_cons (x_var (pv 6)) (a_cons (x_op op_sub rd_sub (x_var (pv 7)) x_int) a_nil)))) (fun _ q => pe_callS (G__law_look T) (hr.mono (by decide)) (by rfl) T.m__law_look T.F__law_look.kp T.b__law_look (fun _ => passAt tk _) q)))) (fun _ q => ps_set (i := 8) nd rfl (by first | exact Or.inl rfl | exact Or.inr rfl) q))
    (ss_cons (s_set (x_lend 4 (x_frz (o_call (a_cons (x_var (pv 3)) (a_cons (x_var (pv 4)) (a_cons (x_op op_sub rd_sub (x_var (pv 6)) x_int) (a_cons (x_var (pv 7)) a_nil)))) (fun _ q => pe_callS (G__law_look T) (hr.mono (by decide)) (by rfl) T.m__law_look T.F__law_look.kp T.b__law_look (fun _ => passAt tk _) q)))) (fun _ q => ps_set (i := 9) nd rfl (by first | exact Or.inl rfl | exact Or.inr rfl) q))
    (ss_cons (s_set (x_args rc_maxL (a_cons (x_frz (o_lst (oa_cons (o_sh (x_if (t_cmp op_isN rd_isN (x_var (pv 8)) x_non (nomark _)) (x_neg x_int) (x_var (pv 8)))) (oa_cons (o_sh (x_if (t_cmp op_isN rd_isN (x_var (pv 9)) x_non (nomark _)) (x_neg x_int) (x_op op_addD rd_add (x_var (pv 9)) x_int))) oa_nil (by decide)) (by decide)))) a_nil) (fun _ q => pe_callB (cr_max rfl) (by rfl) T.n_max (by decide +kernel) q)) (fun _ q => ps_set (i := 10) nd rfl (by first | exact Or.inl rfl | exact Or.inr rfl) q))
    (ss_one (s_app1 (i := 4) (x_var (pv 6)) (o_sh (x_op op_addD rd_add (x_var (pv 10)) (x_op op_mod rd_mod (x_args rc_int (a_cons (x_frz (o_call (a_cons (x_var (pv 0)) a_nil) (fun _ q => pe_callS (G__law_next T) (hr.mono (by decide)) (by rfl) T.m__law_next T.F__law_next.kp T.b__law_next (fun _ => passAt tk _) q))) a_nil) (fun _ q => pe_callTy call_int1 (by rfl) T.n_int (by decide +kernel) q)) (x_var (pv 2))))) (fun _ _ p q => ps_expr (pe_bm PySem.F.plainAttrs_list PySem.F.slot_list_append PySem.F.type_list_append mt_append (pe_ix ix_seq (pv 4) p (fun _ _ => rfl)) (pa_cons q pa_nil)))))))) (fun _ _ _ a b c => ps_for po rfl a b c))) (fun _ _ _ a b c => ps_for po rfl a b c))
    (ss_one (s_ret (o_tup (oa_cons (o_sh (x_var (pv 3))) (oa_cons (o_move (pv 4)) oa_nil (by decide)) (by decide))))))))) fun xs P E n h => ?_
  refine sp3 h fun d1 d2 d3 e h => ?_
  subst e
  obtain ⟨ls, st, rfl, rfl, rfl, h1, h2, h3, h4, h5, m, rfl, hP⟩ := h
  simp only [wDef, wRet, wE, W.map, W.bind, W.ret, W.opt, W.ite, W.no, wVar, wBin, wToB, wChain, wNotT, wAndT, wOrT, wAndV, wOrV, wNotV, wIf, wCons, wArgs, wConsO, wLs, wTp, wBinO, wUn, wUnO, wCut, wMove, wNext, wThen, wSet, wSetO, wTgt, wPairO, wDrop, wRetN, wBrk, wCont, wNever, wIfS, wAug, wFor, wBody, wCall, wLc, wLc2, wGen, wClause, startD, slO, wipeD, dPair, viewD, wLend, wLendT, wLendO, wThenJ, wPut, wPut1, wApp, wApp1, wCallK, wScr, wDefM, kids_ls, kids_rt, withK_ls, withK_rt, OT.val, OT.vals, atom, e_add, e_sub, e_lt, e_le, e_gt, e_ge, e_neg, e_int, pick, e_ix0, e_ix1, e_ix2, e_ix3, e_n30, e_n31, e_n20, e_n21, exists_and_left, List.length_cons, List.length_nil, List.map_cons, List.map_nil, List.replicate_zero, List.replicate_succ, List.append_nil, List.nil_append, List.cons_append, List.getElem?_cons_zero, List.getElem?_cons_succ, List.getElem?_nil, List.set_cons_zero, List.set_cons_succ, List.getD_cons_zero, List.getD_cons_succ, List.not_mem_nil, not_false_eq_true, Nat.zero_add, Nat.reduceAdd, Nat.reduceSub, Nat.sub_self, Nat.sub_zero, if_true, if_false, toB_bool, Option.map_some, Option.some.injEq, Sl.ow.injEq, Sl.d.injEq, OT.ls.injEq, OT.rt.injEq, PyData.int.injEq, exists_eq_left', exists_eq_left, true_and, and_true, Bool.false_eq_true, S1, S2, S3, S4, Option.bind_some, Option.bind_none]
  refine ⟨ls, rfl, rfl, h1, by omega, fun l hl => by have := h3 l hl; omega, _, rfl, fun gs n1 hn1 hn2 hgs => ?_⟩
  have hgl := Paired.len hgs.pr
  have hgi : ∀ (i : Nat) l, ls[i]? = some l → ∃ g, gs[i]? = some g ∧ 0 ≤ g ∧ g ≤ l := by
    have key : ∀ {gs ls : List Int}, Paired (fun g l : Int => 0 ≤ g ∧ g ≤ l) gs ls → ∀ (i : Nat) l, ls[i]? = some l → ∃ g, gs[i]? = some g ∧ 0 ≤ g ∧ g ≤ l := fun {gs ls} h => by
      induction h with
      | nil => intro i l h; simp at h
      | cons h _ k =>
        intro i l h2
        cases i with
        | zero => simp at h2; subst h2; exact ⟨_, rfl, h⟩
        | succ i => exact k i l (by simpa using h2)
    exact key hgs.pr
  simp only [wDef, wRet, wE, W.map, W.bind, W.ret, W.opt, W.ite, W.no, wVar, wBin, wToB, wChain, wNotT, wAndT, wOrT, wAndV, wOrV, wNotV, wIf, wCons, wArgs, wConsO, wLs, wTp, wBinO, wUn, wUnO, wCut, wMove, wNext, wThen, wSet, wSetO, wTgt, wPairO, wDrop, wRetN, wBrk, wCont, wNever, wIfS, wAug, wFor, wBody, wCall, wLc, wLc2, wGen, wClause, startD, slO, wipeD, dPair, viewD, wLend, wLendT, wLendO, wThenJ, wPut, wPut1, wApp, wApp1, wCallK, wScr, wDefM, kids_ls, kids_rt, withK_ls, withK_rt, OT.val, OT.vals, atom, e_add, e_sub, e_lt, e_le, e_gt, e_ge, e_neg, e_int, pick, e_ix0, e_ix1, e_ix2, e_ix3, e_n30, e_n31, e_n20, e_n21, exists_and_left, List.length_cons, List.length_nil, List.map_cons, List.map_nil, List.replicate_zero, List.replicate_succ, List.append_nil, List.nil_append, List.cons_append, List.getElem?_cons_zero, List.getElem?_cons_succ, List.getElem?_nil, List.set_cons_zero, List.set_cons_succ, List.getD_cons_zero, List.getD_cons_succ, List.not_mem_nil, not_false_eq_true, Nat.zero_add, Nat.reduceAdd, Nat.reduceSub, Nat.sub_self, Nat.sub_zero, if_true, if_false, toB_bool, Option.map_some, Option.some.injEq, Sl.ow.injEq, Sl.d.injEq, OT.ls.injEq, OT.rt.injEq, PyData.int.injEq, exists_eq_left', exists_eq_left, true_and, and_true, Bool.false_eq_true, S1, S2, S3, S4, Option.bind_some, Option.bind_none]
  refine ⟨ls.map .int, rfl, by rw [List.length_map]; omega, wMap_map (fun _ => .ls []) (fun d _ Q hq => ?_) ?_⟩
  · simp only [wDef, wRet, wE, W.map, W.bind, W.ret, W.opt, W.ite, W.no, wVar, wBin, wToB, wChain, wNotT, wAndT, wOrT, wAndV, wOrV, wNotV, wIf, wCons, wArgs, wConsO, wLs, wTp, wBinO, wUn, wUnO, wCut, wMove, wNext, wThen, wSet, wSetO, wTgt, wPairO, wDrop, wRetN, wBrk, wCont, wNever, wIfS, wAug, wFor, wBody, wCall, wLc, wLc2, wGen, wClause, startD, slO, wipeD, dPair, viewD, wLend, wLendT, wLendO, wThenJ, wPut, wPut1, wApp, wApp1, wCallK, wScr, wDefM, kids_ls, kids_rt, withK_ls, withK_rt, OT.val, OT.vals, atom, e_add, e_sub, e_lt, e_le, e_gt, e_ge, e_neg, e_int, pick, e_ix0, e_ix1, e_ix2, e_ix3, e_n30, e_n31, e_n20, e_n21, exists_and_left, List.length_cons, List.length_nil, List.map_cons, List.map_nil, List.replicate_zero, List.replicate_succ, List.append_nil, List.nil_append, List.cons_append, List.getElem?_cons_zero, List.getElem?_cons_succ, List.getElem?_nil, List.set_cons_zero, List.set_cons_succ, List.getD_cons_zero, List.getD_cons_succ, List.not_mem_nil, not_false_eq_true, Nat.zero_add, Nat.reduceAdd, Nat.reduceSub, Nat.sub_self, Nat.sub_zero, if_true, if_false, toB_bool, Option.map_some, Option.some.injEq, Sl.ow.injEq, Sl.d.injEq, OT.ls.injEq, OT.rt.injEq, PyData.int.injEq, exists_eq_left', exists_eq_left, true_and, and_true, Bool.false_eq_true, S1, S2, S3, S4, Option.bind_some, Option.bind_none]
    exact ⟨by decide, hq⟩
  · refine ⟨_, kEnum_ints, ?_⟩
    have e0 : OT.ls ((ls.map PyData.int).map fun _ => OT.ls []) = rowsT (ls.map fun _ => []) := by
      unfold rowsT
      rw [List.map_map, List.map_map]
      rfl
    rw [e0, val_ints]
    refine wLoop_by (fun r ρ n => ∃ (pre rest : List Int), r = enumF pre.length (rest.map .int) ∧ pre ++ rest = ls ∧ m + 100 + 10 * rest.length ≤ n ∧ n ≤ m + 1000 ∧ ∃ (rs : List (List Int)) (s5 s6 s7 s8 s9 s10 : Sl), ρ = [.d drawD, .d (intsD ls), .d (.int st), .d (intsD gs), .ow (rowsT rs), s5, s6, s7, s8, s9, s10] ∧
        rs.length = ls.length ∧ goodP gs rs ∧ (∀ (i : Nat) r, rs[i]? = some r → if i < pre.length then ∀ g l, gs[i]? = some g → ls[i]? = some l → g + (r.length : Int) = l else r = []) ∧ ∀ r ∈ rs, ∀ x ∈ r, -3 ≤ x ∧ x ≤ 8 * (pre.length : Int) * (st + 1))
      ⟨[], ls, rfl, rfl, by omega, by omega, ls.map (fun _ => []), _, _, _, _, _, _, rfl, by rw [List.length_map], fun h line hl a f ha => ?_, fun i r hr => ?_, fun r hr x hx => ?_⟩ ?_ ?_
    · rw [List.getElem?_map] at hl
      cases hq : ls[h]? with
      | none => rw [hq] at hl; cases hl
      | some l => rw [hq] at hl; cases hl; simp at ha
    · rw [List.getElem?_map] at hr
      rw [if_neg (by simp)]
      cases hq : ls[i]? with
      | none => rw [hq] at hr; cases hr
      | some l => rw [hq] at hr; cases hr; rfl
    · obtain ⟨l, _, rfl⟩ := List.mem_map.mp hr
      cases hx
    · rintro d r ρ n ⟨pre, rest, hr, hpr, b1, b2, rs, s5, s6, s7, s8, s9, s10, rfl, hlen, hgood, hrow, hbd⟩
      cases rest with
      | nil => cases hr
      | cons l rest =>
        rw [List.map_cons, enumF_cons] at hr
        cases hr
        have hli : ls[pre.length]? = some l := by rw [← hpr]; simp
        have hl8 := h3 l (by rw [← hpr]; exact List.mem_append_right _ List.mem_cons_self)
        obtain ⟨g, hg1, hg2, hg3⟩ := hgi _ _ hli
        have eg : gs[((pre.length : Nat) : Int).toNat]? = some g := by rw [Int.toNat_natCast]; exact hg1
        have hpl : pre.length < rs.length := by
          rw [hlen, ← hpr, List.length_append, List.length_cons]; omega
        have r0 : rs[pre.length]? = some [] := by
          have := hrow pre.length _ (List.getElem?_eq_getElem hpl)
          rw [if_neg (by omega)] at this
          rw [List.getElem?_eq_getElem hpl, this]
        simp only [wDef, wRet, wE, W.map, W.bind, W.ret, W.opt, W.ite, W.no, wVar, wBin, wToB, wChain, wNotT, wAndT, wOrT, wAndV, wOrV, wNotV, wIf, wCons, wArgs, wConsO, wLs, wTp, wBinO, wUn, wUnO, wCut, wMove, wNext, wThen, wSet, wSetO, wTgt, wPairO, wDrop, wRetN, wBrk, wCont, wNever, wIfS, wAug, wFor, wBody, wCall, wLc, wLc2, wGen, wClause, startD, slO, wipeD, dPair, viewD, wLend, wLendT, wLendO, wThenJ, wPut, wPut1, wApp, wApp1, wCallK, wScr, wDefM, kids_ls, kids_rt, withK_ls, withK_rt, OT.val, OT.vals, atom, e_add, e_sub, e_lt, e_le, e_gt, e_ge, e_neg, e_int, pick, e_ix0, e_ix1, e_ix2, e_ix3, e_n30, e_n31, e_n20, e_n21, exists_and_left, List.length_cons, List.length_nil, List.map_cons, List.map_nil, List.replicate_zero, List.replicate_succ, List.append_nil, List.nil_append, List.cons_append, List.getElem?_cons_zero, List.getElem?_cons_succ, List.getElem?_nil, List.set_cons_zero, List.set_cons_succ, List.getD_cons_zero, List.getD_cons_succ, List.not_mem_nil, not_false_eq_true, Nat.zero_add, Nat.reduceAdd, Nat.reduceSub, Nat.sub_self, Nat.sub_zero, if_true, if_false, toB_bool, Option.map_some, Option.some.injEq, Sl.ow.injEq, Sl.d.injEq, OT.ls.injEq, OT.rt.injEq, PyData.int.injEq, exists_eq_left', exists_eq_left, true_and, and_true, Bool.false_eq_true, S1, S2, S3, S4, Option.bind_some, Option.bind_none]
        refine ⟨_, dIx_ints (by omega) eg, _, e_rng2 (by omega) (by omega), ?_⟩
        refine wLoop_by (fun r ρ n2 => ∃ (k : Nat) (w : Int), r = dRng w k ∧ w + k = l ∧ m + 100 + 10 * rest.length + k ≤ n2 ∧ n2 ≤ m + 1000 ∧ ∃ (rs : List (List Int)) (row : List Int) (s7 s8 s9 s10 : Sl), ρ = [.d drawD, .d (intsD ls), .d (.int st), .d (intsD gs), .ow (rowsT rs), .d (.int l), .d (.int pre.length), s7, s8, s9, s10] ∧
            rs.length = ls.length ∧ goodP gs rs ∧ rs[pre.length]? = some row ∧ g + row.length = w ∧ (∀ (i : Nat) r, rs[i]? = some r → i ≠ pre.length → if i < pre.length then ∀ g l, gs[i]? = some g → ls[i]? = some l → g + (r.length : Int) = l else r = []) ∧ ∀ r ∈ rs, ∀ x ∈ r, -3 ≤ x ∧ x ≤ (8 * (pre.length : Int) + row.length) * (st + 1))
          ⟨(l - g).toNat, g, rfl, by omega, by simp at b1; omega, by omega, rs, [], _, _, _, _, rfl, hlen, hgood, r0, by simp, fun i r h _ => hrow i r h, by simpa using hbd⟩ ?_ ?_
        · rintro d r2 ρ n2 ⟨k, w, hr, hwk, c1, c2, rs, row, s7, s8, s9, s10, rfl, hlen, hgood, hrw, hgw, hrow, hbd⟩
          cases k with
          | zero => cases hr
          | succ k =>
            rw [dRng_succ] at hr
            cases hr
            have lk : look gs rs (pre.length : Nat) (w - 1) = if 0 < row.length then row[row.length - 1]? else none := by
              unfold look
              rw [if_pos (by omega), Int.toNat_natCast, hrw, hg1]
              dsimp only
              by_cases h : 0 < row.length
              · rw [if_pos (by omega), if_pos h, show (w - 1 - g).toNat = row.length - 1 by omega]
              · rw [if_neg (by omega), if_neg h]
            have hw : w = g + row.length := by omega
            have hB0 : 0 ≤ (8 * (pre.length : Int) + row.length) * (st + 1) := Int.mul_nonneg (by omega) (by omega)
            have hB1 : (8 * (pre.length : Int) + (row.length + 1 : Nat)) * (st + 1) = (8 * (pre.length : Int) + row.length) * (st + 1) + (st + 1) := by
              rw [show (8 * (pre.length : Int) + (row.length + 1 : Nat)) = (8 * (pre.length : Int) + row.length) + 1 by omega, Int.add_mul, Int.one_mul]
            have fL1 : ∀ b, 0 < row.length → row[row.length - 1]? = some b → look gs rs (pre.length : Nat) (w - 1) = some b := fun b h hb => by rw [lk, if_pos h, hb]
            have fL2 : ∀ v, look gs rs (pre.length : Nat) (w - 1) = some v → -3 ≤ v ∧ v ≤ (8 * (pre.length : Int) + row.length) * (st + 1) := fun v e => by
              obtain ⟨r, h1, h2⟩ := look_mem e
              exact hbd r h1 v h2
            have fU2 : ∀ v, look gs rs ((pre.length : Int) - 1) w = some v → -3 ≤ v ∧ v ≤ (8 * (pre.length : Int) + row.length) * (st + 1) := fun v e => by
              obtain ⟨r, h1, h2⟩ := look_mem e
              exact hbd r h1 v h2
            have nxt : ∀ r, rs[pre.length + 1]? = some r → r = [] := fun r hr => by
              have := hrow (pre.length + 1) r hr (by omega)
              rw [if_neg (by omega)] at this
              exact this
            have hpl : pre.length < rs.length := by
              obtain ⟨q, _⟩ := List.getElem?_eq_some_iff.mp hrw
              exact q
            have rowlen : row.length ≤ 8 := by omega
            -- what a number does that is not less than the left one, and greater than the one above
            have fin : ∀ (x : Int), (∀ b, look gs rs (pre.length : Nat) (w - 1) = some b → b ≤ x) → (∀ u, look gs rs ((pre.length : Int) - 1) w = some u → u < x) → -3 ≤ x → x ≤ (8 * (pre.length : Int) + row.length) * (st + 1) + (st + 1) →
                (rs.set pre.length (row ++ [x])).length = ls.length ∧ goodP gs (rs.set pre.length (row ++ [x])) ∧ (rs.set pre.length (row ++ [x]))[pre.length]? = some (row ++ [x]) ∧ g + (row ++ [x]).length = w + 1 ∧
                (∀ (i : Nat) r, (rs.set pre.length (row ++ [x]))[i]? = some r → i ≠ pre.length → if i < pre.length then ∀ g l, gs[i]? = some g → ls[i]? = some l → g + (r.length : Int) = l else r = []) ∧
                ∀ r ∈ rs.set pre.length (row ++ [x]), ∀ y ∈ r, -3 ≤ y ∧ y ≤ (8 * (pre.length : Int) + (row ++ [x]).length) * (st + 1) := fun x hx1 hx2 hx3 hx4 => by
              refine ⟨by rw [List.length_set]; exact hlen, good_snoc hgood hrw nxt hg1 (fun b h hb => hx1 b (fL1 b h hb)) (fun u hu => hx2 u (by rw [hw]; exact hu)), List.getElem?_set_self hpl, by rw [List.length_append, List.length_singleton]; omega, fun i r hr ne => ?_, fun r hr y hy => ?_⟩
              · rw [List.getElem?_set_ne (Ne.symm ne)] at hr
                exact hrow i r hr ne
              · rw [List.length_append, List.length_singleton, hB1]
                rcases List.mem_or_eq_of_mem_set hr with h | rfl
                · have := hbd r h y hy
                  omega
                · rcases List.mem_append.mp hy with h | h
                  · have := hbd row (List.mem_of_getElem? hrw) y h
                    omega
                  · rw [List.mem_singleton.mp h]
                    exact ⟨hx3, hx4⟩
            generalize hBB : (8 * (pre.length : Int) + row.length) * (st + 1) = BB at *
            have ek : kids (rowsT rs) = some (rs.map intsT) := rfl
            have en : ixN (rs.map intsT).length (pre.length : Nat) = some pre.length := by rw [List.length_map, ixN_of (by omega) (by omega), Int.toNat_natCast]
            have er : (rs.map intsT)[pre.length]? = some (intsT row) := by rw [List.getElem?_map, hrw]; rfl
            have err : kids (intsT row) = some (row.map fun x => .sh (.int x)) := rfl
            have eset : ∀ x : Int, withK (rowsT rs) ((rs.map intsT).set pre.length (withK (intsT row) ((row.map fun x => .sh (.int x)) ++ [.sh (.int x)]))) = rowsT (rs.set pre.length (row ++ [x])) := fun x => by
              rw [rowsT_set]
              unfold rowsT intsT
              simp
            simp only [wDef, wRet, wE, W.map, W.bind, W.ret, W.opt, W.ite, W.no, wVar, wBin, wToB, wChain, wNotT, wAndT, wOrT, wAndV, wOrV, wNotV, wIf, wCons, wArgs, wConsO, wLs, wTp, wBinO, wUn, wUnO, wCut, wMove, wNext, wThen, wSet, wSetO, wTgt, wPairO, wDrop, wRetN, wBrk, wCont, wNever, wIfS, wAug, wFor, wBody, wCall, wLc, wLc2, wGen, wClause, startD, slO, wipeD, dPair, viewD, wLend, wLendT, wLendO, wThenJ, wPut, wPut1, wApp, wApp1, wCallK, wScr, wDefM, kids_ls, kids_rt, withK_ls, withK_rt, OT.val, OT.vals, atom, e_add, e_sub, e_lt, e_le, e_gt, e_ge, e_neg, e_int, pick, e_ix0, e_ix1, e_ix2, e_ix3, e_n30, e_n31, e_n20, e_n21, exists_and_left, List.length_cons, List.length_nil, List.map_cons, List.map_nil, List.replicate_zero, List.replicate_succ, List.append_nil, List.nil_append, List.cons_append, List.getElem?_cons_zero, List.getElem?_cons_succ, List.getElem?_nil, List.set_cons_zero, List.set_cons_succ, List.getD_cons_zero, List.getD_cons_succ, List.not_mem_nil, not_false_eq_true, Nat.zero_add, Nat.reduceAdd, Nat.reduceSub, Nat.sub_self, Nat.sub_zero, if_true, if_false, toB_bool, Option.map_some, Option.some.injEq, Sl.ow.injEq, Sl.d.injEq, OT.ls.injEq, OT.rt.injEq, PyData.int.injEq, exists_eq_left', exists_eq_left, true_and, and_true, Bool.false_eq_true, S1, S2, S3, S4, Option.bind_some, Option.bind_none]
            rw [val_rows]
            refine ⟨gs, rs, _, _, rfl, rfl, rfl, rfl, by omega, ?_⟩
            generalize hL : look gs rs (pre.length : Nat) (w - 1) = L at fL1 fL2 fin ⊢
            refine ⟨by cases L <;> rfl, gs, rs, _, _, rfl, rfl, rfl, rfl, by omega, ?_⟩
            generalize hU : look gs rs ((pre.length : Int) - 1) w = U at fU2 fin ⊢
            refine ⟨by cases U <;> rfl, ?_⟩
            cases L with
            | none =>
              cases U with
              | none =>
                refine ⟨_, rfl, _, rfl, _, rfl, _, rfl, by decide, _, e_maxL, _, ek, _, en, _, er, _, err, by rw [List.length_map]; omega, next_ok (n2 - 1) (by omega) fun z a1 a2 => ?_⟩
                have z1 := Int.emod_nonneg z (show st ≠ 0 by omega)
                have z2 := Int.emod_lt_of_pos z (show 0 < st by omega)
                simp only [wDef, wRet, wE, W.map, W.bind, W.ret, W.opt, W.ite, W.no, wVar, wBin, wToB, wChain, wNotT, wAndT, wOrT, wAndV, wOrV, wNotV, wIf, wCons, wArgs, wConsO, wLs, wTp, wBinO, wUn, wUnO, wCut, wMove, wNext, wThen, wSet, wSetO, wTgt, wPairO, wDrop, wRetN, wBrk, wCont, wNever, wIfS, wAug, wFor, wBody, wCall, wLc, wLc2, wGen, wClause, startD, slO, wipeD, dPair, viewD, wLend, wLendT, wLendO, wThenJ, wPut, wPut1, wApp, wApp1, wCallK, wScr, wDefM, kids_ls, kids_rt, withK_ls, withK_rt, OT.val, OT.vals, atom, e_add, e_sub, e_lt, e_le, e_gt, e_ge, e_neg, e_int, pick, e_ix0, e_ix1, e_ix2, e_ix3, e_n30, e_n31, e_n20, e_n21, exists_and_left, List.length_cons, List.length_nil, List.map_cons, List.map_nil, List.replicate_zero, List.replicate_succ, List.append_nil, List.nil_append, List.cons_append, List.getElem?_cons_zero, List.getElem?_cons_succ, List.getElem?_nil, List.set_cons_zero, List.set_cons_succ, List.getD_cons_zero, List.getD_cons_succ, List.not_mem_nil, not_false_eq_true, Nat.zero_add, Nat.reduceAdd, Nat.reduceSub, Nat.sub_self, Nat.sub_zero, if_true, if_false, toB_bool, Option.map_some, Option.some.injEq, Sl.ow.injEq, Sl.d.injEq, OT.ls.injEq, OT.rt.injEq, PyData.int.injEq, exists_eq_left', exists_eq_left, true_and, and_true, Bool.false_eq_true, S1, S2, S3, S4, Option.bind_some, Option.bind_none]
                refine ⟨_, e_mod (by omega), _, e_add, k, w + 1, rfl, by omega, by omega, by omega, _, row ++ [_], _, _, _, _, by rw [eset], fin _ (fun _ z => by cases z) (fun _ z => by cases z) (by split <;> omega) (by split <;> omega)⟩
              | some u =>
                have bu := fU2 u rfl
                refine ⟨_, rfl, _, rfl, _, rfl, _, rfl, _, e_add, by decide, _, e_maxL, _, ek, _, en, _, er, _, err, by rw [List.length_map]; omega, next_ok (n2 - 1) (by omega) fun z a1 a2 => ?_⟩
                have z1 := Int.emod_nonneg z (show st ≠ 0 by omega)
                have z2 := Int.emod_lt_of_pos z (show 0 < st by omega)
                simp only [wDef, wRet, wE, W.map, W.bind, W.ret, W.opt, W.ite, W.no, wVar, wBin, wToB, wChain, wNotT, wAndT, wOrT, wAndV, wOrV, wNotV, wIf, wCons, wArgs, wConsO, wLs, wTp, wBinO, wUn, wUnO, wCut, wMove, wNext, wThen, wSet, wSetO, wTgt, wPairO, wDrop, wRetN, wBrk, wCont, wNever, wIfS, wAug, wFor, wBody, wCall, wLc, wLc2, wGen, wClause, startD, slO, wipeD, dPair, viewD, wLend, wLendT, wLendO, wThenJ, wPut, wPut1, wApp, wApp1, wCallK, wScr, wDefM, kids_ls, kids_rt, withK_ls, withK_rt, OT.val, OT.vals, atom, e_add, e_sub, e_lt, e_le, e_gt, e_ge, e_neg, e_int, pick, e_ix0, e_ix1, e_ix2, e_ix3, e_n30, e_n31, e_n20, e_n21, exists_and_left, List.length_cons, List.length_nil, List.map_cons, List.map_nil, List.replicate_zero, List.replicate_succ, List.append_nil, List.nil_append, List.cons_append, List.getElem?_cons_zero, List.getElem?_cons_succ, List.getElem?_nil, List.set_cons_zero, List.set_cons_succ, List.getD_cons_zero, List.getD_cons_succ, List.not_mem_nil, not_false_eq_true, Nat.zero_add, Nat.reduceAdd, Nat.reduceSub, Nat.sub_self, Nat.sub_zero, if_true, if_false, toB_bool, Option.map_some, Option.some.injEq, Sl.ow.injEq, Sl.d.injEq, OT.ls.injEq, OT.rt.injEq, PyData.int.injEq, exists_eq_left', exists_eq_left, true_and, and_true, Bool.false_eq_true, S1, S2, S3, S4, Option.bind_some, Option.bind_none]
                refine ⟨_, e_mod (by omega), _, e_add, k, w + 1, rfl, by omega, by omega, by omega, _, row ++ [_], _, _, _, _, by rw [eset], fin _ (fun _ z => by cases z) (fun _ z => by cases z; split <;> omega) (by split <;> omega) (by split <;> omega)⟩
            | some v =>
              have bv := fL2 v rfl
              cases U with
              | none =>
                refine ⟨_, rfl, _, rfl, _, rfl, _, rfl, by decide, _, e_maxL, _, ek, _, en, _, er, _, err, by rw [List.length_map]; omega, next_ok (n2 - 1) (by omega) fun z a1 a2 => ?_⟩
                have z1 := Int.emod_nonneg z (show st ≠ 0 by omega)
                have z2 := Int.emod_lt_of_pos z (show 0 < st by omega)
                simp only [wDef, wRet, wE, W.map, W.bind, W.ret, W.opt, W.ite, W.no, wVar, wBin, wToB, wChain, wNotT, wAndT, wOrT, wAndV, wOrV, wNotV, wIf, wCons, wArgs, wConsO, wLs, wTp, wBinO, wUn, wUnO, wCut, wMove, wNext, wThen, wSet, wSetO, wTgt, wPairO, wDrop, wRetN, wBrk, wCont, wNever, wIfS, wAug, wFor, wBody, wCall, wLc, wLc2, wGen, wClause, startD, slO, wipeD, dPair, viewD, wLend, wLendT, wLendO, wThenJ, wPut, wPut1, wApp, wApp1, wCallK, wScr, wDefM, kids_ls, kids_rt, withK_ls, withK_rt, OT.val, OT.vals, atom, e_add, e_sub, e_lt, e_le, e_gt, e_ge, e_neg, e_int, pick, e_ix0, e_ix1, e_ix2, e_ix3, e_n30, e_n31, e_n20, e_n21, exists_and_left, List.length_cons, List.length_nil, List.map_cons, List.map_nil, List.replicate_zero, List.replicate_succ, List.append_nil, List.nil_append, List.cons_append, List.getElem?_cons_zero, List.getElem?_cons_succ, List.getElem?_nil, List.set_cons_zero, List.set_cons_succ, List.getD_cons_zero, List.getD_cons_succ, List.not_mem_nil, not_false_eq_true, Nat.zero_add, Nat.reduceAdd, Nat.reduceSub, Nat.sub_self, Nat.sub_zero, if_true, if_false, toB_bool, Option.map_some, Option.some.injEq, Sl.ow.injEq, Sl.d.injEq, OT.ls.injEq, OT.rt.injEq, PyData.int.injEq, exists_eq_left', exists_eq_left, true_and, and_true, Bool.false_eq_true, S1, S2, S3, S4, Option.bind_some, Option.bind_none]
                refine ⟨_, e_mod (by omega), _, e_add, k, w + 1, rfl, by omega, by omega, by omega, _, row ++ [_], _, _, _, _, by rw [eset], fin _ (fun _ z => by cases z; split <;> omega) (fun _ z => by cases z) (by split <;> omega) (by split <;> omega)⟩
              | some u =>
                have bu := fU2 u rfl
                refine ⟨_, rfl, _, rfl, _, rfl, _, rfl, _, e_add, by decide, _, e_maxL, _, ek, _, en, _, er, _, err, by rw [List.length_map]; omega, next_ok (n2 - 1) (by omega) fun z a1 a2 => ?_⟩
                have z1 := Int.emod_nonneg z (show st ≠ 0 by omega)
                have z2 := Int.emod_lt_of_pos z (show 0 < st by omega)
                simp only [wDef, wRet, wE, W.map, W.bind, W.ret, W.opt, W.ite, W.no, wVar, wBin, wToB, wChain, wNotT, wAndT, wOrT, wAndV, wOrV, wNotV, wIf, wCons, wArgs, wConsO, wLs, wTp, wBinO, wUn, wUnO, wCut, wMove, wNext, wThen, wSet, wSetO, wTgt, wPairO, wDrop, wRetN, wBrk, wCont, wNever, wIfS, wAug, wFor, wBody, wCall, wLc, wLc2, wGen, wClause, startD, slO, wipeD, dPair, viewD, wLend, wLendT, wLendO, wThenJ, wPut, wPut1, wApp, wApp1, wCallK, wScr, wDefM, kids_ls, kids_rt, withK_ls, withK_rt, OT.val, OT.vals, atom, e_add, e_sub, e_lt, e_le, e_gt, e_ge, e_neg, e_int, pick, e_ix0, e_ix1, e_ix2, e_ix3, e_n30, e_n31, e_n20, e_n21, exists_and_left, List.length_cons, List.length_nil, List.map_cons, List.map_nil, List.replicate_zero, List.replicate_succ, List.append_nil, List.nil_append, List.cons_append, List.getElem?_cons_zero, List.getElem?_cons_succ, List.getElem?_nil, List.set_cons_zero, List.set_cons_succ, List.getD_cons_zero, List.getD_cons_succ, List.not_mem_nil, not_false_eq_true, Nat.zero_add, Nat.reduceAdd, Nat.reduceSub, Nat.sub_self, Nat.sub_zero, if_true, if_false, toB_bool, Option.map_some, Option.some.injEq, Sl.ow.injEq, Sl.d.injEq, OT.ls.injEq, OT.rt.injEq, PyData.int.injEq, exists_eq_left', exists_eq_left, true_and, and_true, Bool.false_eq_true, S1, S2, S3, S4, Option.bind_some, Option.bind_none]
                refine ⟨_, e_mod (by omega), _, e_add, k, w + 1, rfl, by omega, by omega, by omega, _, row ++ [_], _, _, _, _, by rw [eset], fin _ (fun _ z => by cases z; split <;> omega) (fun _ z => by cases z; split <;> omega) (by split <;> omega) (by split <;> omega)⟩
        · rintro ρ n2 ⟨k, w, hr, hwk, c1, c2, rs, row, s7, s8, s9, s10, rfl, hlen, hgood, hrw, hgw, hrow, hbd⟩
          cases k with
          | succ k => rw [dRng_succ] at hr; cases hr
          | zero =>
            simp only [wDef, wRet, wE, W.map, W.bind, W.ret, W.opt, W.ite, W.no, wVar, wBin, wToB, wChain, wNotT, wAndT, wOrT, wAndV, wOrV, wNotV, wIf, wCons, wArgs, wConsO, wLs, wTp, wBinO, wUn, wUnO, wCut, wMove, wNext, wThen, wSet, wSetO, wTgt, wPairO, wDrop, wRetN, wBrk, wCont, wNever, wIfS, wAug, wFor, wBody, wCall, wLc, wLc2, wGen, wClause, startD, slO, wipeD, dPair, viewD, wLend, wLendT, wLendO, wThenJ, wPut, wPut1, wApp, wApp1, wCallK, wScr, wDefM, kids_ls, kids_rt, withK_ls, withK_rt, OT.val, OT.vals, atom, e_add, e_sub, e_lt, e_le, e_gt, e_ge, e_neg, e_int, pick, e_ix0, e_ix1, e_ix2, e_ix3, e_n30, e_n31, e_n20, e_n21, exists_and_left, List.length_cons, List.length_nil, List.map_cons, List.map_nil, List.replicate_zero, List.replicate_succ, List.append_nil, List.nil_append, List.cons_append, List.getElem?_cons_zero, List.getElem?_cons_succ, List.getElem?_nil, List.set_cons_zero, List.set_cons_succ, List.getD_cons_zero, List.getD_cons_succ, List.not_mem_nil, not_false_eq_true, Nat.zero_add, Nat.reduceAdd, Nat.reduceSub, Nat.sub_self, Nat.sub_zero, if_true, if_false, toB_bool, Option.map_some, Option.some.injEq, Sl.ow.injEq, Sl.d.injEq, OT.ls.injEq, OT.rt.injEq, PyData.int.injEq, exists_eq_left', exists_eq_left, true_and, and_true, Bool.false_eq_true, S1, S2, S3, S4, Option.bind_some, Option.bind_none]
            refine ⟨pre ++ [l], rest, by rw [List.length_append]; rfl, by rw [List.append_assoc]; exact hpr, by omega, by omega, rs, _, _, _, _, _, _, rfl, hlen, hgood, fun i r hr => ?_, fun r hr x hx => ?_⟩
            · by_cases e : i = pre.length
              · subst e
                rw [hrw] at hr
                cases hr
                rw [if_pos (by rw [List.length_append]; simp)]
                intro g' l' h1 h2
                rw [hg1] at h1
                rw [hli] at h2
                cases h1
                cases h2
                omega
              · have := hrow i r hr e
                by_cases h : i < pre.length
                · rw [if_pos h] at this
                  rw [if_pos (by rw [List.length_append]; omega)]
                  exact this
                · rw [if_neg h] at this
                  rw [if_neg (by rw [List.length_append, List.length_singleton]; omega)]
                  exact this
            · have := hbd r hr x hx
              have e : (8 * (pre.length : Int) + row.length) * (st + 1) ≤ (8 * ((pre ++ [l]).length : Int)) * (st + 1) := Int.mul_le_mul_of_nonneg_right (by rw [List.length_append, List.length_singleton]; omega) (by omega)
              omega
    · rintro ρ n ⟨pre, rest, hr, hpr, b1, b2, rs, s5, s6, s7, s8, s9, s10, rfl, hlen, hgood, hrow, hbd⟩
      cases rest with
      | cons l rest => rw [List.map_cons, enumF_cons] at hr; cases hr
      | nil =>
        rw [List.append_nil] at hpr
        subst hpr
        unfold rowsT
        simp only [wDef, wRet, wE, W.map, W.bind, W.ret, W.opt, W.ite, W.no, wVar, wBin, wToB, wChain, wNotT, wAndT, wOrT, wAndV, wOrV, wNotV, wIf, wCons, wArgs, wConsO, wLs, wTp, wBinO, wUn, wUnO, wCut, wMove, wNext, wThen, wSet, wSetO, wTgt, wPairO, wDrop, wRetN, wBrk, wCont, wNever, wIfS, wAug, wFor, wBody, wCall, wLc, wLc2, wGen, wClause, startD, slO, wipeD, dPair, viewD, wLend, wLendT, wLendO, wThenJ, wPut, wPut1, wApp, wApp1, wCallK, wScr, wDefM, kids_ls, kids_rt, withK_ls, withK_rt, OT.val, OT.vals, atom, e_add, e_sub, e_lt, e_le, e_gt, e_ge, e_neg, e_int, pick, e_ix0, e_ix1, e_ix2, e_ix3, e_n30, e_n31, e_n20, e_n21, exists_and_left, List.length_cons, List.length_nil, List.map_cons, List.map_nil, List.replicate_zero, List.replicate_succ, List.append_nil, List.nil_append, List.cons_append, List.getElem?_cons_zero, List.getElem?_cons_succ, List.getElem?_nil, List.set_cons_zero, List.set_cons_succ, List.getD_cons_zero, List.getD_cons_succ, List.not_mem_nil, not_false_eq_true, Nat.zero_add, Nat.reduceAdd, Nat.reduceSub, Nat.sub_self, Nat.sub_zero, if_true, if_false, toB_bool, Option.map_some, Option.some.injEq, Sl.ow.injEq, Sl.d.injEq, OT.ls.injEq, OT.rt.injEq, PyData.int.injEq, exists_eq_left', exists_eq_left, true_and, and_true, Bool.false_eq_true, S1, S2, S3, S4, Option.bind_some, Option.bind_none]
        refine ⟨by decide, hP gs rs n (by omega) (by omega) ⟨hgs, by omega, fun i r g l h1 h2 h3 => ?_, hgood, fun r hr x hx => ?_⟩⟩
        · have hi : i < pre.length := by
            obtain ⟨q, _⟩ := List.getElem?_eq_some_iff.mp h3
            exact q
          have := hrow i r h1
          rw [if_pos hi] at this
          exact this g l h2 h3
        · have := hbd r hr x hx
          have e : 8 * (pre.length : Int) * (st + 1) ≤ 64 * 1001 := Int.mul_le_mul (by omega) (by omega) (by omega) (by omega)
          omega

end QD

set_option Elab.async false
set_option linter.all false
set_option maxRecDepth 100000
set_option maxHeartbeats 4000000
namespace QD
open PySem PySem.Spec PyProof.Rows L2 GxR XG

variable {Pr : Program} {w : World} {K : PySem.W.Frag} {mg : Str → Option Value} {base : Heap} {tabs : Tb} {a : Ads}
theorem sc__law_right : FnScope ["gone", "lines", "before", "good", "both", "due", "told"] ["gone", "lines"] (defScope (top 29)) := ⟨rfl, rfl, rfl, by decide +kernel, rfl, by decide +kernel, by decide +kernel⟩
theorem falls_iff : ∀ r : List Int, fallsA r = false ↔ ∀ a b f, 0 < a → r[a - 1]? = some b → r[a]? = some f → b ≤ f
  | [] => ⟨fun _ a b f _ _ h => by simp at h, fun _ => rfl⟩
  | [x] => ⟨fun _ a b f h0 _ h => by
      have : a = a - 1 + 1 := by omega
      rw [this] at h
      simp at h, fun _ => rfl⟩
  | x :: y :: r => by
    simp only [fallsA, Bool.or_eq_false_iff, decide_eq_false_iff_not]
    rw [falls_iff (y :: r)]
    constructor
    · rintro ⟨h1, h2⟩ a b f h0 hb hf
      obtain ⟨a, rfl⟩ : ∃ a', a = a' + 1 := ⟨a - 1, by omega⟩
      cases a with
      | zero =>
        simp at hb hf
        omega
      | succ a => exact h2 (a + 1) b f (by omega) (by simpa using hb) (by simpa using hf)
    · intro h
      refine ⟨?_, fun a b f h0 hb hf => ?_⟩
      · have := h 1 x y (by decide) rfl rfl
        omega
      · obtain ⟨a, rfl⟩ : ∃ a', a = a' + 1 := ⟨a - 1, by omega⟩
        exact h (a + 2) b f (by omega) (by simpa using hb) (by simpa using hf)
theorem fails_iff : ∀ u s : List Int, failsB u s = false ↔ ∀ (i : Nat) a b, u[i]? = some a → s[i]? = some b → a < b
  | [], s => ⟨fun _ i a b h _ => by simp at h, fun _ => by unfold failsB; rfl⟩
  | _ :: _, [] => ⟨fun _ i a b _ h => by simp at h, fun _ => by unfold failsB; rfl⟩
  | x :: u, y :: s => by
    simp only [failsB, Bool.or_eq_false_iff, decide_eq_false_iff_not]
    rw [fails_iff u s]
    constructor
    · rintro ⟨h1, h2⟩ i a b ha hb
      cases i with
      | zero => simp at ha hb; omega
      | succ i => exact h2 i a b (by simpa using ha) (by simpa using hb)
    · intro h
      refine ⟨?_, fun i a b ha hb => h (i + 1) a b (by simpa using ha) (by simpa using hb)⟩
      have := h 0 x y rfl rfl
      omega
def UpOk (ms : List Int) (rs : List (List Int)) (up : Option (Int × List Int)) : Prop := ∀ m r, ms[0]? = some m → rs[0]? = some r → ∀ m' u, up = some (m', u) → failsB u (r.drop (m' - m).toNat) = false
def Stair (ms : List Int) (rs : List (List Int)) : Prop := ∀ (h : Nat) u r m' m, rs[h]? = some u → rs[h + 1]? = some r → ms[h]? = some m' → ms[h + 1]? = some m → failsB u (r.drop (m' - m).toNat) = false
theorem firstU_none : ∀ (ms : List Int) (rs : List (List Int)) (up : Option (Int × List Int)) (i : Nat), ms.length = rs.length → (firstU i ms rs up = none ↔ UpOk ms rs up ∧ (∀ r ∈ rs, fallsA r = false) ∧ Stair ms rs)
  | [], [], up, i, _ => ⟨fun _ => ⟨fun m r h => (by simp at h), fun r h => (by cases h), fun h u r m' m h1 => (by simp at h1)⟩, fun _ => rfl⟩
  | m :: ms, r :: rs, up, i, hl => by
    have ih := firstU_none ms rs (some (m, r)) (i + 1) (by simpa using hl)
    have e1 : UpOk ms rs (some (m, r)) ∧ Stair ms rs ↔ Stair (m :: ms) (r :: rs) := by
      constructor
      · rintro ⟨h1, h2⟩ h u r' m' m2 a b c d
        cases h with
        | zero => cases a; cases c; exact h1 m2 r' (by simpa using d) (by simpa using b) _ _ rfl
        | succ h => exact h2 h u r' m' m2 (by simpa using a) (by simpa using b) (by simpa using c) (by simpa using d)
      · intro h
        refine ⟨fun m2 r' a b m' u e => ?_, fun k u r' m' m2 a b c d => h (k + 1) u r' m' m2 (by simpa using a) (by simpa using b) (by simpa using c) (by simpa using d)⟩
        cases e
        exact h 0 _ r' _ m2 rfl (by simpa using b) rfl (by simpa using a)
    have e2 : (∀ r' ∈ r :: rs, fallsA r' = false) ↔ fallsA r = false ∧ ∀ r' ∈ rs, fallsA r' = false := by simp
    rw [e2, ← e1]
    simp only [firstU]
    by_cases hf : fallsA r = true
    · rw [if_pos hf]
      exact ⟨fun z => (by cases z), fun z => (by rw [z.2.1.1] at hf; cases hf)⟩
    · rw [if_neg hf]
      have hf' : fallsA r = false := by simpa using hf
      cases up with
      | none =>
        rw [ih]
        exact ⟨fun ⟨a, b, c⟩ => ⟨fun _ _ _ _ _ _ e => (by cases e), ⟨hf', b⟩, a, c⟩, fun ⟨_, b, a, c⟩ => ⟨a, b.2, c⟩⟩
      | some p =>
        obtain ⟨m', u⟩ := p
        by_cases hb : failsB u (r.drop (m' - m).toNat) = true
        · simp only [hb, if_true]
          exact ⟨fun z => (by cases z), fun z => (by have := z.1 m r rfl rfl m' u rfl; rw [this] at hb; cases hb)⟩
        · simp only [hb, if_false, Bool.false_eq_true]
          rw [ih]
          have hb' : failsB u (r.drop (m' - m).toNat) = false := by simpa using hb
          exact ⟨fun ⟨a, b, c⟩ => ⟨fun m2 r2 h1 h2 _ _ e => (by cases h1; cases h2; cases e; exact hb'), ⟨hf', b⟩, a, c⟩, fun ⟨_, b, a, c⟩ => ⟨a, b.2, c⟩⟩
  | [], _ :: _, _, _, h => by simp at h
  | _ :: _, [], _, _, h => by simp at h
theorem good_iff {gs : List Int} {rs : List (List Int)} (hl : gs.length = rs.length) (hm : ∀ i, i + 1 < gs.length → gs.getD (i + 1) 0 ≤ gs.getD i 0) : goodP gs rs ↔ (∀ r ∈ rs, fallsA r = false) ∧ Stair gs rs := by
  have gd : ∀ {i : Nat} {m : Int}, gs[i]? = some m → gs.getD i 0 = m := fun h => by rw [List.getD_eq_getElem?_getD, h]; rfl
  constructor
  · intro hg
    refine ⟨fun r hr => ?_, fun h u r m' m hu hr hm' hmm => ?_⟩
    · obtain ⟨i, hi, e⟩ := List.getElem_of_mem hr
      have e2 : rs[i]? = some r := by rw [List.getElem?_eq_getElem hi, e]
      exact (falls_iff r).mpr fun a b f h0 hb hf => (hg i r e2 a f hf).1 b h0 hb
    · refine (fails_iff _ _).mpr fun i a b ha hb => ?_
      have hle : m ≤ m' := by
        have := hm h (by
          obtain ⟨q, _⟩ := List.getElem?_eq_some_iff.mp hmm
          exact q)
        rw [gd hm', gd hmm] at this
        exact this
      rw [List.getElem?_drop] at hb
      refine (hg (h + 1) r hr _ b hb).2 a ?_
      unfold look
      rw [if_pos (by omega), show (((h + 1 : Nat) : Int) - 1).toNat = h by omega, hu, hm', gd hmm]
      dsimp only
      rw [if_pos (by omega), show (m + (((m' - m).toNat + i : Nat) : Int) - m').toNat = i by omega]
      exact ha
  · rintro ⟨h1, h2⟩ h line hline a f ha
    refine ⟨fun b h0 hb => (falls_iff line).mp (h1 line (List.mem_of_getElem? hline)) a b f h0 hb ha, fun u hu => ?_⟩
    unfold look at hu
    split at hu
    · rename_i hp
      obtain ⟨k, rfl⟩ : ∃ k, h = k + 1 := ⟨h - 1, by omega⟩
      rw [show (((k + 1 : Nat) : Int) - 1).toNat = k by omega] at hu
      split at hu
      · rename_i r g hr hg
        have hlt : k + 1 < gs.length := by
          obtain ⟨q, _⟩ := List.getElem?_eq_some_iff.mp hline
          omega
        have hg2 : gs[k + 1]? = some (gs.getD (k + 1) 0) := by rw [List.getElem?_eq_getElem hlt, List.getD_eq_getElem?_getD, List.getElem?_eq_getElem hlt]; rfl
        have hle := hm k hlt
        rw [gd hg] at hle
        split at hu
        · rename_i h3
          refine (fails_iff _ _).mp (h2 k r line g _ hr hline hg hg2) _ u f hu ?_
          rw [List.getElem?_drop, show (g - gs.getD (k + 1) 0).toNat + (gs.getD (k + 1) 0 + (a : Int) - g).toNat = a by omega]
          exact ha
        · cases hu
      · cases hu
    · cases hu
theorem sorted_iff {gs : List Int} {rs : List (List Int)} (hk : okPiece gs rs = true) : sortedP gs rs = true ↔ goodP gs rs := by
  obtain ⟨k1, k2, k3, _⟩ := okPiece_facts hk
  rw [good_iff k1 k3]
  unfold sortedP
  rw [Option.isNone_iff_eq_none, firstU_none gs rs none 0 k1]
  exact ⟨fun h => h.2, fun h => ⟨fun _ _ _ _ _ _ e => (by cases e), h⟩⟩
/-! what is written out -/
theorem sm_ints : ∀ xs : List Int, (∀ x ∈ xs, x.natAbs.log2 < 300) → smallA (xs.map .int) = true
  | [], _ => rfl
  | x :: xs, h => by
    simp only [List.map_cons, smallA, smallD, Bool.and_eq_true, decide_eq_true_eq]
    exact ⟨h x List.mem_cons_self, sm_ints xs fun y hy => h y (List.mem_cons_of_mem _ hy)⟩
theorem nd_ints : ∀ xs : List Int, nodesA (xs.map .int) = xs.length
  | [] => rfl
  | x :: xs => by
    simp only [List.map_cons, nodesA, nodes, List.length_cons, nd_ints xs]
    omega
theorem dp_ints : ∀ xs : List Int, PyData.depthAll (xs.map .int) = 0
  | [] => rfl
  | x :: xs => by
    simp only [List.map_cons, PyData.depthAll, PyData.depth, dp_ints xs]
    rfl
theorem sm_rows : ∀ rs : List (List Int), (∀ r ∈ rs, ∀ x ∈ r, x.natAbs.log2 < 300) → smallA (rs.map intsD) = true
  | [], _ => rfl
  | r :: rs, h => by
    simp only [List.map_cons, smallA, Bool.and_eq_true]
    exact ⟨sm_ints r (h r List.mem_cons_self), sm_rows rs fun y hy => h y (List.mem_cons_of_mem _ hy)⟩
theorem nd_rows : ∀ (rs : List (List Int)) (N : Nat), (∀ r ∈ rs, r.length ≤ N) → nodesA (rs.map intsD) ≤ rs.length * (N + 1)
  | [], _, _ => by simp [nodesA]
  | r :: rs, N, h => by
    have h1 := h r List.mem_cons_self
    have h2 := nd_rows rs N fun y hy => h y (List.mem_cons_of_mem _ hy)
    simp only [List.map_cons, nodesA, List.length_cons]
    have e : nodes (intsD r) = r.length + 1 := by unfold intsD; simp only [nodes, nd_ints]
    rw [e, Nat.succ_mul]
    omega
theorem dp_rows : ∀ rs : List (List Int), PyData.depthAll (rs.map intsD) ≤ 1
  | [] => Nat.zero_le _
  | r :: rs => by
    have h2 := dp_rows rs
    have e : (intsD r).depth = 1 := by unfold intsD; simp only [PyData.depth, dp_ints]
    simp only [List.map_cons, PyData.depthAll, e]
    omega
theorem e_repr {d : Dt} (h1 : isDisplay d = true) (h2 : smallD d = true) (h3 : nodes d ≤ 30000) (h4 : d.depth ≤ 60) : fRepr [d] = some (.str d.shown) := by
  simp only [fRepr]
  rw [if_pos ⟨h1, h2, h3, h4⟩]
theorem e_revR (rs : List (List Int)) : gRevL (rowsD rs) = some (.ls ((rs.reverse.map intsD).map .sh)) := by
  simp only [rowsD, gRevL, List.map_reverse]
theorem val_sh (ds : List Dt) : (OT.ls (ds.map .sh)).val = .list ds := by
  simp only [OT.val, vals_sh]
theorem e_sumR {rs : List (List Int)} (h : rs ≠ []) (hl : rs.flatten.length ≤ 1000000) : fSumL [.list (rs.map intsD), .list []] = some (intsT rs.flatten) := by
  have e : rs.map intsD = (rs.map fun r => r.map PyData.int).map .list := by rw [List.map_map]; rfl
  have e2 : (rs.map fun r => r.map PyData.int).flatten = rs.flatten.map .int := by rw [List.map_flatten]
  simp only [fSumL]
  rw [e, dLs_map, Option.bind_some, e2, if_pos ⟨by simpa using h, by rw [List.length_map]; exact hl⟩]
  unfold intsT
  rw [List.map_map]
  rfl
theorem flat8 : ∀ l : List (List Int), (∀ r ∈ l, r.length ≤ 8) → l.flatten.length ≤ 8 * l.length
  | [], _ => Nat.le_refl _
  | r :: l, hl => by
    have h1 := hl r List.mem_cons_self
    have h2 := flat8 l fun r hr => hl r (List.mem_cons_of_mem _ hr)
    rw [List.flatten_cons, List.length_append, List.length_cons]
    omega
/-- the text of a piece -/
theorem repr_piece {gs : List Int} {rs : List (List Int)} (hk : okPiece gs rs = true) (hsm : ∀ r ∈ rs, ∀ x ∈ r, x.natAbs.log2 < 300) : fRepr [.list [intsD gs, rowsD rs]] = some (.str (PyData.list [intsD gs, rowsD rs]).shown) := by
  obtain ⟨k1, k2, k3, k4, k5, k6⟩ := okPiece_facts hk
  have s1 : smallD (intsD gs) = true := sm_ints gs fun x hx => by
    have := k6 x hx
    exact Nat.lt_of_le_of_lt (Nat.log2_le_self _) (by omega)
  have s2 : smallD (rowsD rs) = true := sm_rows rs hsm
  have n1 : nodes (intsD gs) = gs.length + 1 := by unfold intsD; simp only [nodes, nd_ints]
  have n2 : nodes (rowsD rs) ≤ rs.length * 9 + 1 := by unfold rowsD; simp only [nodes]; have := nd_rows rs 8 k2; omega
  have d1 : (intsD gs).depth = 1 := by unfold intsD; simp only [PyData.depth, dp_ints]
  have d2 : (rowsD rs).depth ≤ 2 := by unfold rowsD; simp only [PyData.depth]; have := dp_rows rs; omega
  refine e_repr rfl ?_ ?_ ?_
  · simp only [smallD, smallA, s1, s2]; rfl
  · simp only [nodes, nodesA]
    omega
  · simp only [PyData.depth, PyData.depthAll, d1]
    omega
def spec__law_right : List Dt → W OT := S2 fun d1 d2 P _ n => ∃ (gs : List Int) (rs : List (List Int)), d1 = intsD gs ∧ d2 = rowsD rs ∧ okPiece gs rs = true ∧ (∀ r ∈ rs, ∀ x ∈ r, x.natAbs.log2 < 300) ∧ P (.sh (.bool true)) n

theorem G__law_right (T : Txt K mg base tabs a) : FnG Pr w K mg base (L2.CX Pr w) 8 a.f__law_right a.d__law_right ["gone", "lines"] (spW tabs mg spec__law_right) := by
  have nd := (sc__law_right).nd
  refine impG (okG (k := 7) T.F__law_right sc__law_right fun A outer s H E hgd hr tk po =>
    (ss_cons (s_set (x_args rc_repr (a_cons (x_frz (o_lst (oa_cons (o_sh (x_var (pv 0))) (oa_cons (o_sh (x_var (pv 1))) oa_nil (by decide)) (by decide)))) a_nil) (fun _ q => pe_callB (cr_repr hgd hr.units) (by rfl) T.n_repr (by decide +kernel) q)) (fun _ q => ps_set (i := 2) nd rfl (by first | exact Or.inl rfl | exact Or.inr rfl) q))
    (ss_cons (s_set (x_frz (o_call (a_cons (x_var (pv 0)) (a_cons (x_var (pv 1)) a_nil)) (fun _ q => pe_callS (G__law_good T) (hr.mono (by decide)) (by rfl) T.m__law_good T.F__law_good.kp T.b__law_good (fun _ => passAt tk _) q))) (fun _ q => ps_set (i := 3) nd rfl (by first | exact Or.inl rfl | exact Or.inr rfl) q))
    (ss_cons (s_set (x_frz (o_lst (oa_cons (o_call (a_cons (x_var (pv 0)) (a_cons (x_var (pv 1)) a_nil)) (fun _ q => pe_callS (G_is_sorted T) (hr.mono (by decide)) (by rfl) T.m_is_sorted T.F_is_sorted.kp T.b_is_sorted (fun _ => passAt tk _) q)) (oa_cons (o_callK0 (k_cons (x_var (pv 1)) (k_cons (x_var (pv 0)) k_nil)) (fun _ q => pe_callKS0 (G_is_sorted T) (hr.mono (by decide)) (by rfl) T.m_is_sorted T.F_is_sorted.kp (T.F_is_sorted.kb (ps := ["missing", "rows"]) (n := 0) (ks := ["rows", "missing"]) (perm := [1, 0]) fun _ _ _ _ _ _ us ws h1 h2 => match us, ws, h1, h2 with | [], [_, _], _, _ => rfl) (fun _ => passAt tk _) q)) oa_nil (by decide)) (by decide)))) (fun _ q => ps_set (i := 4) nd rfl (by first | exact Or.inl rfl | exact Or.inr rfl) q))
    (ss_cons (s_if (t_cmp (op_neX hr.units) rd_neX (x_args rc_repr (a_cons (x_var (pv 4)) a_nil) (fun _ q => pe_callB (cr_repr hgd hr.units) (by rfl) T.n_repr (by decide +kernel) q)) (x_args rc_repr (a_cons (x_frz (o_lst (oa_cons (o_sh (x_var (pv 3))) (oa_cons (o_sh (x_var (pv 3))) oa_nil (by decide)) (by decide)))) a_nil) (fun _ q => pe_callB (cr_repr hgd hr.units) (by rfl) T.n_repr (by decide +kernel) q)) (nomark _)) (ss_one (s_ret (o_sh x_bl))) ss_nil)
    (ss_cons (s_if (t_not (t_val (x_var (pv 3)))) (ss_one (s_ret (o_sh (x_cmp (op_eqX hr.units) rd_eqX (x_args rc_repr (a_cons (x_frz (o_lst (oa_cons (o_sh (x_var (pv 0))) (oa_cons (o_sh (x_var (pv 1))) oa_nil (by decide)) (by decide)))) a_nil) (fun _ q => pe_callB (cr_repr hgd hr.units) (by rfl) T.n_repr (by decide +kernel) q)) (x_var (pv 2)) (nomark _))))) ss_nil)
    (ss_cons (s_set (x_frz (o_args rc_sumL (a_cons (x_frz (o_revL (x_var (pv 1)))) (a_cons (x_frz (o_lst oa_nil)) a_nil)) (fun _ q => pe_callB (cr_sumL rfl) (by rfl) T.n_sum (by decide +kernel) q))) (fun _ q => ps_set (i := 5) nd rfl (by first | exact Or.inl rfl | exact Or.inr rfl) q))
    (ss_cons (s_setO (o_lst (oa_cons (o_call (a_cons (x_var (pv 0)) (a_cons (x_var (pv 1)) a_nil)) (fun _ q => pe_callS (G_word_of T) (hr.mono (by decide)) (by rfl) T.m_word_of T.F_word_of.kp T.b_word_of (fun _ => passAt tk _) q)) (oa_cons (o_callK0 (k_cons (x_var (pv 1)) (k_cons (x_var (pv 0)) k_nil)) (fun _ q => pe_callKS0 (G_word_of T) (hr.mono (by decide)) (by rfl) T.m_word_of T.F_word_of.kp (T.F_word_of.kb (ps := ["missing", "rows"]) (n := 0) (ks := ["rows", "missing"]) (perm := [1, 0]) fun _ _ _ _ _ _ us ws h1 h2 => match us, ws, h1, h2 with | [], [_, _], _, _ => rfl) (fun _ => passAt tk _) q)) oa_nil (by decide)) (by decide))) (fun _ q => ps_set (i := 6) nd rfl (by first | exact Or.inl rfl | exact Or.inr rfl) q))
    (ss_cons (s_if (t_lend 6 (t_w (w_or (t_cmp (op_neX hr.units) rd_neX (x_args rc_repr (a_cons (x_var (pv 6)) a_nil) (fun _ q => pe_callB (cr_repr hgd hr.units) (by rfl) T.n_repr (by decide +kernel) q)) (x_args rc_repr (a_cons (x_frz (o_lst (oa_cons (o_sh (x_var (pv 5))) (oa_cons (o_sh (x_var (pv 5))) oa_nil (by decide)) (by decide)))) a_nil) (fun _ q => pe_callB (cr_repr hgd hr.units) (by rfl) T.n_repr (by decide +kernel) q)) (nomark _)) (w_or1 (t_cmp (op_neX hr.units) rd_neX (x_args rc_repr (a_cons (x_frz (o_lst (oa_cons (o_sh (x_var (pv 0))) (oa_cons (o_sh (x_var (pv 1))) oa_nil (by decide)) (by decide)))) a_nil) (fun _ q => pe_callB (cr_repr hgd hr.units) (by rfl) T.n_repr (by decide +kernel) q)) (x_var (pv 2)) (nomark _)))))) (ss_one (s_ret (o_sh x_bl))) ss_nil)
    (ss_cons (s_app1 (i := 6) x_int (o_sh x_non) (fun _ _ p q => ps_expr (pe_bm PySem.F.plainAttrs_list PySem.F.slot_list_append PySem.F.type_list_append mt_append (pe_ix ix_seq (pv 6) p (fun _ _ => rfl)) (pa_cons q pa_nil))))
    (ss_one (s_ret (o_sh (x_and (x_cmp (op_eqX hr.units) rd_eqX (x_args rc_repr (a_cons (x_frz (o_call (a_cons (x_var (pv 0)) (a_cons (x_var (pv 1)) a_nil)) (fun _ q => pe_callS (G_word_of T) (hr.mono (by decide)) (by rfl) T.m_word_of T.F_word_of.kp T.b_word_of (fun _ => passAt tk _) q))) a_nil) (fun _ q => pe_callB (cr_repr hgd hr.units) (by rfl) T.n_repr (by decide +kernel) q)) (x_args rc_repr (a_cons (x_var (pv 5)) a_nil) (fun _ q => pe_callB (cr_repr hgd hr.units) (by rfl) T.n_repr (by decide +kernel) q)) (nomark _)) (x_one (x_cmp (op_eqX hr.units) rd_eqX (x_args rc_repr (a_cons (x_frz (o_lst (oa_cons (o_sh (x_var (pv 0))) (oa_cons (o_sh (x_var (pv 1))) oa_nil (by decide)) (by decide)))) a_nil) (fun _ q => pe_callB (cr_repr hgd hr.units) (by rfl) T.n_repr (by decide +kernel) q)) (x_var (pv 2)) (nomark _))))))))))))))))) fun xs P E n h => ?_
  refine sp2 h fun d1 d2 e h => ?_
  subst e
  obtain ⟨gs, rs, rfl, rfl, hk, hsm, hP⟩ := h
  have rp := repr_piece hk hsm
  generalize (PyData.list [intsD gs, rowsD rs]).shown = S at rp
  obtain ⟨k1, k2, k3, k4, k5, k6⟩ := okPiece_facts hk
  simp only [wDef, wRet, wE, W.map, W.bind, W.ret, W.opt, W.ite, W.no, wVar, wBin, wToB, wChain, wNotT, wAndT, wOrT, wAndV, wOrV, wNotV, wIf, wCons, wArgs, wConsO, wLs, wTp, wBinO, wUn, wUnO, wCut, wMove, wNext, wThen, wSet, wSetO, wTgt, wPairO, wDrop, wRetN, wBrk, wCont, wNever, wIfS, wAug, wFor, wBody, wCall, wLc, wLc2, wGen, wClause, startD, slO, wipeD, dPair, viewD, wLend, wLendT, wLendO, wThenJ, wPut, wPut1, wApp, wApp1, wCallK, wScr, wDefM, kids_ls, kids_rt, withK_ls, withK_rt, OT.val, OT.vals, atom, e_add, e_sub, e_lt, e_le, e_gt, e_ge, e_neg, e_int, pick, e_ix0, e_ix1, e_ix2, e_ix3, e_n30, e_n31, e_n20, e_n21, exists_and_left, List.length_cons, List.length_nil, List.map_cons, List.map_nil, List.replicate_zero, List.replicate_succ, List.append_nil, List.nil_append, List.cons_append, List.getElem?_cons_zero, List.getElem?_cons_succ, List.getElem?_nil, List.set_cons_zero, List.set_cons_succ, List.getD_cons_zero, List.getD_cons_succ, List.not_mem_nil, not_false_eq_true, Nat.zero_add, Nat.reduceAdd, Nat.reduceSub, Nat.sub_self, Nat.sub_zero, if_true, if_false, toB_bool, Option.map_some, Option.some.injEq, Sl.ow.injEq, Sl.d.injEq, OT.ls.injEq, OT.rt.injEq, PyData.int.injEq, exists_eq_left', exists_eq_left, true_and, and_true, Bool.false_eq_true, S1, S2, S3, S4, Option.bind_some, Option.bind_none]
  refine ⟨by decide, _, rp, gs, rs, rfl, rfl, k1, fun b hb => ?_⟩
  have hb' : sortedP gs rs = b := by
    have := (sorted_iff hk).trans hb.symm
    cases b <;> cases hq : sortedP gs rs <;> simp_all
  refine ⟨gs, rs, rfl, rfl, hk, ?_⟩
  simp only [wDef, wRet, wE, W.map, W.bind, W.ret, W.opt, W.ite, W.no, wVar, wBin, wToB, wChain, wNotT, wAndT, wOrT, wAndV, wOrV, wNotV, wIf, wCons, wArgs, wConsO, wLs, wTp, wBinO, wUn, wUnO, wCut, wMove, wNext, wThen, wSet, wSetO, wTgt, wPairO, wDrop, wRetN, wBrk, wCont, wNever, wIfS, wAug, wFor, wBody, wCall, wLc, wLc2, wGen, wClause, startD, slO, wipeD, dPair, viewD, wLend, wLendT, wLendO, wThenJ, wPut, wPut1, wApp, wApp1, wCallK, wScr, wDefM, kids_ls, kids_rt, withK_ls, withK_rt, OT.val, OT.vals, atom, e_add, e_sub, e_lt, e_le, e_gt, e_ge, e_neg, e_int, pick, e_ix0, e_ix1, e_ix2, e_ix3, e_n30, e_n31, e_n20, e_n21, exists_and_left, List.length_cons, List.length_nil, List.map_cons, List.map_nil, List.replicate_zero, List.replicate_succ, List.append_nil, List.nil_append, List.cons_append, List.getElem?_cons_zero, List.getElem?_cons_succ, List.getElem?_nil, List.set_cons_zero, List.set_cons_succ, List.getD_cons_zero, List.getD_cons_succ, List.not_mem_nil, not_false_eq_true, Nat.zero_add, Nat.reduceAdd, Nat.reduceSub, Nat.sub_self, Nat.sub_zero, if_true, if_false, toB_bool, Option.map_some, Option.some.injEq, Sl.ow.injEq, Sl.d.injEq, OT.ls.injEq, OT.rt.injEq, PyData.int.injEq, exists_eq_left', exists_eq_left, true_and, and_true, Bool.false_eq_true, S1, S2, S3, S4, Option.bind_some, Option.bind_none]
  refine ⟨gs, rs, rfl, rfl, hk, ?_⟩
  simp only [wDef, wRet, wE, W.map, W.bind, W.ret, W.opt, W.ite, W.no, wVar, wBin, wToB, wChain, wNotT, wAndT, wOrT, wAndV, wOrV, wNotV, wIf, wCons, wArgs, wConsO, wLs, wTp, wBinO, wUn, wUnO, wCut, wMove, wNext, wThen, wSet, wSetO, wTgt, wPairO, wDrop, wRetN, wBrk, wCont, wNever, wIfS, wAug, wFor, wBody, wCall, wLc, wLc2, wGen, wClause, startD, slO, wipeD, dPair, viewD, wLend, wLendT, wLendO, wThenJ, wPut, wPut1, wApp, wApp1, wCallK, wScr, wDefM, kids_ls, kids_rt, withK_ls, withK_rt, OT.val, OT.vals, atom, e_add, e_sub, e_lt, e_le, e_gt, e_ge, e_neg, e_int, pick, e_ix0, e_ix1, e_ix2, e_ix3, e_n30, e_n31, e_n20, e_n21, exists_and_left, List.length_cons, List.length_nil, List.map_cons, List.map_nil, List.replicate_zero, List.replicate_succ, List.append_nil, List.nil_append, List.cons_append, List.getElem?_cons_zero, List.getElem?_cons_succ, List.getElem?_nil, List.set_cons_zero, List.set_cons_succ, List.getD_cons_zero, List.getD_cons_succ, List.not_mem_nil, not_false_eq_true, Nat.zero_add, Nat.reduceAdd, Nat.reduceSub, Nat.sub_self, Nat.sub_zero, if_true, if_false, toB_bool, Option.map_some, Option.some.injEq, Sl.ow.injEq, Sl.d.injEq, OT.ls.injEq, OT.rt.injEq, PyData.int.injEq, exists_eq_left', exists_eq_left, true_and, and_true, Bool.false_eq_true, S1, S2, S3, S4, Option.bind_some, Option.bind_none]
  rw [hb']
  have rb : fRepr [.list [.bool b, .bool b]] = some (.str (PyData.list [.bool b, .bool b]).shown) := by cases b <;> exact e_repr rfl rfl (by decide) (by decide)
  refine ⟨by decide, _, rb, by decide, _, rb, _, e_neS _, _, rfl, iteF' rfl ?_⟩
  cases b with
  | false =>
    refine iteT' rfl ⟨by decide, _, rp, _, e_eqS _, hP⟩
  | true =>
    refine iteF' rfl ?_
    have hne : rs.reverse ≠ [] := by
      intro z
      have := congrArg List.length z
      rw [List.length_reverse] at this
      have : rs.length = 0 := this
      omega
    have hfl : (wordOf rs).length ≤ 64 := by
      have := flat8 rs.reverse fun r hr => k2 r (List.mem_reverse.mp hr)
      rw [List.length_reverse] at this
      unfold wordOf
      omega
    have hws : ∀ x ∈ wordOf rs, x.natAbs.log2 < 300 := fun x hx => by
      obtain ⟨r, hr, hx⟩ := List.mem_flatten.mp hx
      exact hsm r (List.mem_reverse.mp hr) x hx
    have sW : smallD (intsD (wordOf rs)) = true := sm_ints _ hws
    have nW : nodes (intsD (wordOf rs)) = (wordOf rs).length + 1 := by unfold intsD; simp only [nodes, nd_ints]
    have dW : (intsD (wordOf rs)).depth = 1 := by unfold intsD; simp only [PyData.depth, dp_ints]
    have r1 : fRepr [intsD (wordOf rs)] = some (.str (intsD (wordOf rs)).shown) := e_repr rfl sW (by omega) (by omega)
    have r2 : fRepr [.list [intsD (wordOf rs), intsD (wordOf rs)]] = some (.str (PyData.list [intsD (wordOf rs), intsD (wordOf rs)]).shown) := e_repr rfl (by simp only [smallD, smallA, sW]; rfl) (by simp only [nodes, nodesA]; omega) (by simp only [PyData.depth, PyData.depthAll, dW]; decide)
    have e1 : rs.reverse.flatten = wordOf rs := rfl
    refine ⟨_, e_revR rs, by decide, _, by rw [val_sh]; exact e_sumR hne (by rw [e1]; omega), gs, rs, rfl, rfl, hk, hb', ?_⟩
    rw [e1, val_ints]
    simp only [wDef, wRet, wE, W.map, W.bind, W.ret, W.opt, W.ite, W.no, wVar, wBin, wToB, wChain, wNotT, wAndT, wOrT, wAndV, wOrV, wNotV, wIf, wCons, wArgs, wConsO, wLs, wTp, wBinO, wUn, wUnO, wCut, wMove, wNext, wThen, wSet, wSetO, wTgt, wPairO, wDrop, wRetN, wBrk, wCont, wNever, wIfS, wAug, wFor, wBody, wCall, wLc, wLc2, wGen, wClause, startD, slO, wipeD, dPair, viewD, wLend, wLendT, wLendO, wThenJ, wPut, wPut1, wApp, wApp1, wCallK, wScr, wDefM, kids_ls, kids_rt, withK_ls, withK_rt, OT.val, OT.vals, atom, e_add, e_sub, e_lt, e_le, e_gt, e_ge, e_neg, e_int, pick, e_ix0, e_ix1, e_ix2, e_ix3, e_n30, e_n31, e_n20, e_n21, exists_and_left, List.length_cons, List.length_nil, List.map_cons, List.map_nil, List.replicate_zero, List.replicate_succ, List.append_nil, List.nil_append, List.cons_append, List.getElem?_cons_zero, List.getElem?_cons_succ, List.getElem?_nil, List.set_cons_zero, List.set_cons_succ, List.getD_cons_zero, List.getD_cons_succ, List.not_mem_nil, not_false_eq_true, Nat.zero_add, Nat.reduceAdd, Nat.reduceSub, Nat.sub_self, Nat.sub_zero, if_true, if_false, toB_bool, Option.map_some, Option.some.injEq, Sl.ow.injEq, Sl.d.injEq, OT.ls.injEq, OT.rt.injEq, PyData.int.injEq, exists_eq_left', exists_eq_left, true_and, and_true, Bool.false_eq_true, S1, S2, S3, S4, Option.bind_some, Option.bind_none]
    refine ⟨gs, rs, rfl, rfl, hk, hb', ?_⟩
    simp only [wDef, wRet, wE, W.map, W.bind, W.ret, W.opt, W.ite, W.no, wVar, wBin, wToB, wChain, wNotT, wAndT, wOrT, wAndV, wOrV, wNotV, wIf, wCons, wArgs, wConsO, wLs, wTp, wBinO, wUn, wUnO, wCut, wMove, wNext, wThen, wSet, wSetO, wTgt, wPairO, wDrop, wRetN, wBrk, wCont, wNever, wIfS, wAug, wFor, wBody, wCall, wLc, wLc2, wGen, wClause, startD, slO, wipeD, dPair, viewD, wLend, wLendT, wLendO, wThenJ, wPut, wPut1, wApp, wApp1, wCallK, wScr, wDefM, kids_ls, kids_rt, withK_ls, withK_rt, OT.val, OT.vals, atom, e_add, e_sub, e_lt, e_le, e_gt, e_ge, e_neg, e_int, pick, e_ix0, e_ix1, e_ix2, e_ix3, e_n30, e_n31, e_n20, e_n21, exists_and_left, List.length_cons, List.length_nil, List.map_cons, List.map_nil, List.replicate_zero, List.replicate_succ, List.append_nil, List.nil_append, List.cons_append, List.getElem?_cons_zero, List.getElem?_cons_succ, List.getElem?_nil, List.set_cons_zero, List.set_cons_succ, List.getD_cons_zero, List.getD_cons_succ, List.not_mem_nil, not_false_eq_true, Nat.zero_add, Nat.reduceAdd, Nat.reduceSub, Nat.sub_self, Nat.sub_zero, if_true, if_false, toB_bool, Option.map_some, Option.some.injEq, Sl.ow.injEq, Sl.d.injEq, OT.ls.injEq, OT.rt.injEq, PyData.int.injEq, exists_eq_left', exists_eq_left, true_and, and_true, Bool.false_eq_true, S1, S2, S3, S4, Option.bind_some, Option.bind_none]
    have vW : (intsO (wordOf rs)).val = intsD (wordOf rs) := val_ints _
    rw [vW]
    refine ⟨by decide, _, r2, by decide, _, r2, _, e_neS _, _, rfl, iteF' rfl ⟨by decide, _, rp, _, e_neS _, _, rfl, iteF' rfl ⟨_, rfl, by rw [List.length_map]; omega, gs, rs, rfl, rfl, hk, hb', ?_⟩⟩⟩
    simp only [wDef, wRet, wE, W.map, W.bind, W.ret, W.opt, W.ite, W.no, wVar, wBin, wToB, wChain, wNotT, wAndT, wOrT, wAndV, wOrV, wNotV, wIf, wCons, wArgs, wConsO, wLs, wTp, wBinO, wUn, wUnO, wCut, wMove, wNext, wThen, wSet, wSetO, wTgt, wPairO, wDrop, wRetN, wBrk, wCont, wNever, wIfS, wAug, wFor, wBody, wCall, wLc, wLc2, wGen, wClause, startD, slO, wipeD, dPair, viewD, wLend, wLendT, wLendO, wThenJ, wPut, wPut1, wApp, wApp1, wCallK, wScr, wDefM, kids_ls, kids_rt, withK_ls, withK_rt, OT.val, OT.vals, atom, e_add, e_sub, e_lt, e_le, e_gt, e_ge, e_neg, e_int, pick, e_ix0, e_ix1, e_ix2, e_ix3, e_n30, e_n31, e_n20, e_n21, exists_and_left, List.length_cons, List.length_nil, List.map_cons, List.map_nil, List.replicate_zero, List.replicate_succ, List.append_nil, List.nil_append, List.cons_append, List.getElem?_cons_zero, List.getElem?_cons_succ, List.getElem?_nil, List.set_cons_zero, List.set_cons_succ, List.getD_cons_zero, List.getD_cons_succ, List.not_mem_nil, not_false_eq_true, Nat.zero_add, Nat.reduceAdd, Nat.reduceSub, Nat.sub_self, Nat.sub_zero, if_true, if_false, toB_bool, Option.map_some, Option.some.injEq, Sl.ow.injEq, Sl.d.injEq, OT.ls.injEq, OT.rt.injEq, PyData.int.injEq, exists_eq_left', exists_eq_left, true_and, and_true, Bool.false_eq_true, S1, S2, S3, S4, Option.bind_some, Option.bind_none]
    rw [vW]
    exact ⟨_, r1, _, r1, _, e_eqS _, _, rfl, iteT' rfl ⟨by decide, _, rp, _, e_eqS _, hP⟩⟩

end QD

set_option Elab.async false
set_option linter.all false
set_option maxRecDepth 100000
set_option maxHeartbeats 4000000
namespace QD
open PySem PySem.Spec PyProof.Rows L2 GxR XG

variable {Pr : Program} {w : World} {K : PySem.W.Frag} {mg : Str → Option Value} {base : Heap} {tabs : Tb} {a : Ads}
theorem sc_law : FnScope ["script", "draws", "cell", "step", "gone", "lines", "one", "line", "turn", "at", "bent", "far"] ["script"] (defScope (top 30)) := ⟨rfl, rfl, rfl, by decide +kernel, rfl, by decide +kernel, by decide +kernel⟩
theorem firstOut_none : ∀ (gs : List Int) (l far : Int) (i : Nat), gs.Pairwise (· ≥ ·) → (∀ g ∈ gs, l ≤ g ∧ g ≤ far) → firstOut l far i (gs.map .int) = none
  | [], _, _, _, _, _ => rfl
  | g :: gs, l, far, i, hp, hb => by
    obtain ⟨h1, h2⟩ := List.pairwise_cons.mp hp
    have := hb g List.mem_cons_self
    simp only [List.map_cons, firstOut]
    rw [if_pos this]
    exact firstOut_none gs l g (i + 1) h2 fun x hx => ⟨(hb x (List.mem_cons_of_mem _ hx)).1, h1 x hx⟩
theorem okRows_of : ∀ (ls gs : List Int) (rs : List (List Int)) (far : Int), gs.length = rs.length → ls.length = rs.length → (∀ (i : Nat) r g l, rs[i]? = some r → gs[i]? = some g → ls[i]? = some l → g + (r.length : Int) = l) → ls.Pairwise (· ≥ ·) → (∀ l ∈ ls, l ≤ far) → okRows far gs rs = true
  | [], [], [], _, _, _, _, _, _ => rfl
  | l :: ls, g :: gs, r :: rs, far, h1, h2, h3, h4, h5 => by
    obtain ⟨p1, p2⟩ := List.pairwise_cons.mp h4
    have e := h3 0 r g l rfl rfl rfl
    simp only [okRows, Bool.and_eq_true, decide_eq_true_eq]
    refine ⟨by rw [e]; exact h5 l List.mem_cons_self, ?_⟩
    rw [e]
    exact okRows_of ls gs rs l (by simpa using h1) (by simpa using h2) (fun i r g l a b c => h3 (i + 1) r g l (by simpa using a) (by simpa using b) (by simpa using c)) p2 p1
  | [], _, _ :: _, _, _, h, _, _, _ => by simp at h
  | [], _ :: _, [], _, h, _, _, _, _ => by simp at h
  | _ :: _, _, [], _, _, h, _, _, _ => by simp at h
  | _ :: _, [], _ :: _, _, h, _, _, _, _ => by simp at h
theorem okRows_lens : ∀ (far : Int) (ms : List Int) (rs rs' : List (List Int)), rs.map List.length = rs'.map List.length → okRows far ms rs = okRows far ms rs'
  | far, ms, [], [], _ => rfl
  | far, [], r :: rs, r' :: rs', _ => rfl
  | far, m :: ms, r :: rs, r' :: rs', h => by
    simp only [List.map_cons, List.cons.injEq] at h
    simp only [okRows, h.1, okRows_lens (m + r'.length) ms rs rs' h.2]
  | _, _, [], _ :: _, h => by simp at h
  | _, _, _ :: _, [], h => by simp at h
/-- a piece as the law makes it -/
structure Fine (gs : List Int) (rs : List (List Int)) : Prop where
  ok : okPiece gs rs = true
  good : goodP gs rs
  bd : ∀ r ∈ rs, ∀ x ∈ r, -(10 ^ 75) ≤ x ∧ x ≤ 10 ^ 75
theorem Fine.sm {x : Int} (h : -(10 ^ 75) - 100 ≤ x ∧ x ≤ 10 ^ 75 + 100) : x.natAbs.log2 < 300 := by
  refine lg (by decide) ?_
  have e : (10 : Int) ^ 75 + 100 < (2 ^ 300 : Nat) := by decide +kernel
  generalize (2 : Nat) ^ 300 = M at e ⊢
  generalize (10 : Int) ^ 75 = N at e h
  omega
theorem Fine.of {ls gs : List Int} {rs : List (List Int)} (hs : ShapeOk 8 8 ls) (h : PieceOk ls gs rs 100000) : Fine gs rs := by
  have hgl := Paired.len h.gone.pr
  have hl := h.len
  have hs1 := hs.len
  refine ⟨?_, h.good, fun r hr x hx => by have := h.bd r hr x hx; omega⟩
  unfold okPiece
  rw [Bool.and_eq_true]
  refine ⟨?_, okRows_of ls gs rs 8 (by omega) (by omega) h.each hs.mono fun l hl => (hs.each l hl).2⟩
  unfold okMiss intsD
  simp only [Bool.and_eq_true, decide_eq_true_eq, List.length_map, Option.isNone_iff_eq_none]
  refine ⟨⟨by omega, firstOut_none gs 0 8 0 h.gone.mono fun g hg => ?_⟩, by simp [isDict]⟩
  obtain ⟨i, hi, e⟩ := List.getElem_of_mem hg
  have key : ∀ {gs ls : List Int}, Paired (fun g l : Int => 0 ≤ g ∧ g ≤ l) gs ls → ∀ g ∈ gs, ∃ l ∈ ls, 0 ≤ g ∧ g ≤ l := fun {gs ls} h => by
    induction h with
    | nil => intro g hg; cases hg
    | cons h _ k =>
      intro g hg
      rcases List.mem_cons.mp hg with rfl | hg
      · exact ⟨_, List.mem_cons_self, h⟩
      · obtain ⟨l, h1, h2⟩ := k g hg
        exact ⟨l, List.mem_cons_of_mem _ h1, h2⟩
  obtain ⟨l, h1, h2⟩ := key h.gone.pr g hg
  have := hs.each l h1
  omega
def scale (x : Int) : Int := (x - 900) * 10 ^ 55
theorem look_map {f : Int → Int} {gs : List Int} {rs : List (List Int)} {h w : Int} : look gs (rs.map (·.map f)) h w = (look gs rs h w).map f := by
  unfold look
  split
  · rw [List.getElem?_map]
    cases rs[h.toNat]? with
    | none => rfl
    | some r =>
      cases gs[h.toNat]? with
      | none => rfl
      | some g =>
        simp only [Option.map_some]
        split
        · rw [List.getElem?_map]
        · rfl
  · rfl
theorem good_map {f : Int → Int} (hf : ∀ a b, a < b → f a < f b) {gs : List Int} {rs : List (List Int)} (h : goodP gs rs) : goodP gs (rs.map (·.map f)) := by
  have hle : ∀ a b, a ≤ b → f a ≤ f b := fun a b hab => by
    rcases Int.lt_or_eq_of_le hab with h | h
    · exact Int.le_of_lt (hf a b h)
    · rw [h]; exact Int.le_refl _
  intro k line hl a x hx
  rw [List.getElem?_map] at hl
  cases hr : rs[k]? with
  | none => rw [hr] at hl; cases hl
  | some r =>
    rw [hr] at hl
    cases hl
    rw [List.getElem?_map] at hx
    cases hv : r[a]? with
    | none => rw [hv] at hx; cases hx
    | some v =>
      rw [hv] at hx
      cases hx
      obtain ⟨c1, c2⟩ := h k r hr a v hv
      refine ⟨fun b h0 hb => ?_, fun u hu => ?_⟩
      · rw [List.getElem?_map] at hb
        cases hq : r[a - 1]? with
        | none => rw [hq] at hb; cases hb
        | some y => rw [hq] at hb; cases hb; exact hle _ _ (c1 y h0 hq)
      · rw [look_map] at hu
        cases hq : look gs rs ((k : Int) - 1) (gs.getD k 0 + a) with
        | none => rw [hq] at hu; cases hu
        | some y => rw [hq] at hu; cases hu; exact hf _ _ (c2 y hq)
theorem Fine.scaled {ls gs : List Int} {rs : List (List Int)} (hs : ShapeOk 8 8 ls) (h : PieceOk ls gs rs 100000) : Fine gs (rs.map (·.map scale)) := by
  have f := Fine.of hs h
  refine ⟨?_, good_map (fun a b hab => ?_) f.good, fun r hr x hx => ?_⟩
  · have := f.ok
    unfold okPiece at this ⊢
    rw [okRows_lens 8 gs (rs.map (·.map scale)) rs (by rw [List.map_map]; apply List.map_congr_left; intro r _; simp)]
    exact this
  · unfold scale
    exact Int.mul_lt_mul_of_pos_right (by omega) (by decide +kernel)
  · obtain ⟨r', hr', rfl⟩ := List.mem_map.mp hr
    obtain ⟨y, hy, rfl⟩ := List.mem_map.mp hx
    have hb := h.bd r' hr' y hy
    unfold scale
    have e : (10 : Int) ^ 75 = 10 ^ 20 * 10 ^ 55 := by decide +kernel
    have p : (0 : Int) ≤ 10 ^ 55 := by decide +kernel
    rw [e]
    constructor
    · rw [← Int.neg_mul]
      exact Int.mul_le_mul_of_nonneg_right (by omega) p
    · exact Int.mul_le_mul_of_nonneg_right (by omega) p
theorem e_ix4 {i : Int} (h0 : 0 ≤ i) (h1 : i < 4) : ∃ v : Int, dIx (.list [.int 1, .int 2, .int 3, .int 500]) (.int i) = some (.int v) ∧ 1 ≤ v ∧ v ≤ 500 := by
  rcases (by omega : i = 0 ∨ i = 1 ∨ i = 2 ∨ i = 3) with rfl | rfl | rfl | rfl
  · exact ⟨1, e_ix0, by decide, by decide⟩
  · exact ⟨2, e_ix1, by decide, by decide⟩
  · exact ⟨3, e_ix2, by decide, by decide⟩
  · exact ⟨500, e_ix3, by decide, by decide⟩
theorem cut_ints (ns : List Int) (l u : Option Int) : ∃ zs : List Int, cutD (ns.map .int) l u = zs.map .int ∧ zs.length ≤ ns.length := by
  unfold cutD
  refine ⟨(ns.drop (HT.sIx (ns.map PyData.int).length 0 l)).take (HT.sIx (ns.map PyData.int).length (ns.map PyData.int).length u - HT.sIx (ns.map PyData.int).length 0 l), by rw [List.map_take, List.map_drop], ?_⟩
  rw [List.length_take, List.length_drop]
  omega
theorem lay_ints : ∀ xs : List Int, PyData.canLayAll0 (xs.map .int) = true
  | [] => rfl
  | x :: xs => by
    simp only [List.map_cons, PyData.canLayAll0, PyData.canLay0, lay_ints xs]
    rfl
theorem ndr_ints : ∀ xs : List Int, noDrA (xs.map .int) = true
  | [] => rfl
  | x :: xs => by
    simp only [List.map_cons, noDrA, noDr, ndr_ints xs]
    rfl
theorem shaped_ints (xs : List Int) : SeqAt.shaped (intsD xs) = true := by
  unfold SeqAt.shaped intsD
  simp only [PyData.canLay0, PyData.depth, dp_ints, lay_ints]
  rfl
theorem ne_nil (r : List Int) : dNeX (intsD r) (.list []) = some (.bool (!r.isEmpty)) := by
  unfold dNeX intsD
  simp only
  unfold dNe
  rw [if_pos ⟨⟨shaped_ints r, shaped_ints []⟩, ndr_ints r, rfl⟩]
  cases r with
  | nil => rfl
  | cons x r => simp [PyData.eqv, PyData.eqvAll]
theorem eqv_ints : ∀ xs ys : List Int, PyData.eqvAll (xs.map .int) (ys.map .int) = decide (xs = ys)
  | [], [] => by simp [PyData.eqvAll]
  | [], y :: ys => by simp [PyData.eqvAll]
  | x :: xs, [] => by simp [PyData.eqvAll]
  | x :: xs, y :: ys => by
    simp only [List.map_cons, PyData.eqvAll, PyData.eqv, eqv_ints xs ys, List.cons.injEq, Bool.decide_and]
    rfl
theorem eq_ints (xs ys : List Int) : dEqX (intsD xs) (intsD ys) = some (.bool (decide (xs = ys))) := by
  unfold dEqX intsD
  simp only
  unfold dEq
  rw [if_pos ⟨⟨shaped_ints xs, shaped_ints ys⟩, ndr_ints xs, ndr_ints ys⟩]
  simp only [PyData.eqv, eqv_ints]
def spec_law (t : Tb) : List Dt → W OT := S1 fun d P _ n => d = scrD t.a ∧ t.on = true ∧ t.ns.length ≤ 100 ∧ n = 900000 ∧ ∀ n', P (.sh (.bool true)) n'

theorem G_law (T : Txt K mg base tabs a) : FnG Pr w K mg base (L2.CX Pr w) 9 a.f_law a.d_law ["script"] (spW tabs mg (spec_law tabs)) := by
  have nd := (sc_law).nd
  refine impG (okG (k := 8) T.F_law sc_law fun A outer s H E hgd hr tk po =>
    (ss_cons (s_for (i_list (x_frz (o_lc (own := [(("cell" : Str), 2)]) rfl nd (i_list (x_op op_addD rd_add (x_frz (o_cutScr T.tK.symm (pv 0) (sl_so x_int))) (x_frz (o_lst (oa_cons (o_sh x_int) oa_nil (by decide)))))) (blkOk_by (own := [(("cell" : Str), 2)]) (by kernel_rfl)) (by decide) (fun _ _ _ _ _ => (g_name (pg_name (i := 2) nd rfl (by first | exact Or.inl rfl | exact Or.inr rfl)))) (fun _ _ _ _ _ => ts_nil) (fun _ _ _ _ _ => (o_call (a_cons (x_var (pv 2)) a_nil) (fun _ q => pe_callS (G__law_draws T) (hr.mono (by decide)) (by rfl) T.m__law_draws T.F__law_draws.kp T.b__law_draws (fun _ => passAt takes0 _) q)))))) (g_name (pg_name (i := 1) nd rfl (by first | exact Or.inl rfl | exact Or.inr rfl))) (ss_cons (s_set (x_ix ix_seq rd_ix (x_frz (o_lst (oa_cons (o_sh x_int) (oa_cons (o_sh x_int) (oa_cons (o_sh x_int) (oa_cons (o_sh x_int) oa_nil (by decide)) (by decide)) (by decide)) (by decide)))) (x_op op_mod rd_mod (x_args rc_int (a_cons (x_frz (o_call (a_cons (x_var (pv 1)) a_nil) (fun _ q => pe_callS (G__law_next T) (hr.mono (by decide)) (by rfl) T.m__law_next T.F__law_next.kp T.b__law_next (fun _ => passAt tk _) q))) a_nil) (fun _ q => pe_callTy call_int1 (by rfl) T.n_int (by decide +kernel) q)) x_int) (fun _ _ => rfl)) (fun _ q => ps_set (i := 3) nd rfl (by first | exact Or.inl rfl | exact Or.inr rfl) q))
    (ss_cons (s_tgt (x_frz (o_call (a_cons (x_var (pv 1)) (a_cons (x_frz (o_call (a_cons (x_var (pv 1)) (a_cons x_int (a_cons x_int a_nil))) (fun _ q => pe_callS (G__law_shape T) (hr.mono (by decide)) (by rfl) T.m__law_shape T.F__law_shape.kp T.b__law_shape (fun _ => passAt tk _) q))) (a_cons (x_var (pv 3)) a_nil))) (fun _ q => pe_callS (G__law_piece T) (hr.mono (by decide)) (by rfl) T.m__law_piece T.F__law_piece.kp T.b__law_piece (fun _ => passAt tk _) q))) (g_pair (pg_tup rfl (pgs_cons (pg_name (i := 4) nd rfl (by first | exact Or.inl rfl | exact Or.inr rfl)) (pgs_cons (pg_name (i := 5) nd rfl (by first | exact Or.inl rfl | exact Or.inr rfl)) pgs_nil)))) (fun _ _ q r => ps_asg q r))
    (ss_consJ (s_if (t_cmp (op_eqX hr.units) rd_eqX (x_var (pv 3)) x_int (nomark _)) (ss_one (s_setFR (ps_setLc (i := 5) (own := [(("line" : Str), 7)]) rfl nd rfl rfl (sw_true rfl rfl rfl (by decide +kernel)) (XI.can (i_list (x_var (pv 5)))) (blkOk_by (own := [(("line" : Str), 7)]) (by kernel_rfl)) (fun _ _ _ _ _ => XTg.can (g_name (pg_name (i := 7) nd rfl (by first | exact Or.inl rfl | exact Or.inr rfl)))) (fun _ _ _ _ _ => XTs.can ts_nil) (fun _ _ _ _ _ => XO.can (o_lc (own := [(("one" : Str), 6)]) rfl nd (i_list (x_var (pv 7))) (blkOk_by (own := [(("one" : Str), 6)]) (by kernel_rfl)) (by decide) (fun _ _ _ _ _ => (g_name (pg_name (i := 6) nd rfl (by first | exact Or.inl rfl | exact Or.inr rfl)))) (fun _ _ _ _ _ => ts_nil) (fun _ _ _ _ _ => (o_sh (x_op op_mulD rd_mul (x_op op_sub rd_sub (x_var (pv 6)) x_int) (x_op op_powW rd_pow x_int x_int))))))) (lc_read (by decide)))) ss_nil)
    (ss_cons (s_if (t_w (w_or (t_not (t_val (x_frz (o_call (a_cons (x_var (pv 4)) (a_cons (x_var (pv 5)) a_nil)) (fun _ q => pe_callS (G__law_good T) (hr.mono (by decide)) (by rfl) T.m__law_good T.F__law_good.kp T.b__law_good (fun _ => passAt tk _) q))))) (w_or1 (t_not (t_val (x_frz (o_call (a_cons (x_var (pv 4)) (a_cons (x_var (pv 5)) a_nil)) (fun _ q => pe_callG (G__law_right T) hgd (hr.mono (by decide)) (by rfl) T.m__law_right T.F__law_right.kp T.b__law_right (fun _ => passAt tk _) q)))))))) (ss_one (s_ret (o_sh x_bl))) ss_nil)
    (ss_one (s_for (i_rng1 (a_cons x_int a_nil) (fun _ q => pi_range1 rfl T.n_range q)) (g_name (pg_name (i := 8) nd rfl (by first | exact Or.inl rfl | exact Or.inr rfl))) (ss_cons (s_set (x_op op_mod rd_mod (x_args rc_int (a_cons (x_frz (o_call (a_cons (x_var (pv 1)) a_nil) (fun _ q => pe_callS (G__law_next T) (hr.mono (by decide)) (by rfl) T.m__law_next T.F__law_next.kp T.b__law_next (fun _ => passAt tk _) q))) a_nil) (fun _ q => pe_callTy call_int1 (by rfl) T.n_int (by decide +kernel) q)) (x_args rc_len (a_cons (x_var (pv 5)) a_nil) (fun _ q => pe_callB call_len_seq (by rfl) T.n_len (by decide +kernel) q))) (fun _ q => ps_set (i := 9) nd rfl (by first | exact Or.inl rfl | exact Or.inr rfl) q))
    (ss_one (s_if (t_cmp (op_neX hr.units) rd_neX (x_ix ix_seq rd_ix (x_var (pv 5)) (x_var (pv 9)) (fun _ _ => rfl)) (x_frz (o_lst oa_nil)) (nomark _)) (ss_cons (s_setOR (ps_setLc (i := 10) (own := [(("line" : Str), 7)]) rfl nd rfl rfl (sw_true rfl rfl rfl (by decide +kernel)) (XI.can (i_list (x_var (pv 5)))) (blkOk_by (own := [(("line" : Str), 7)]) (by kernel_rfl)) (fun _ _ _ _ _ => XTg.can (g_name (pg_name (i := 7) nd rfl (by first | exact Or.inl rfl | exact Or.inr rfl)))) (fun _ _ _ _ _ => XTs.can ts_nil) (fun _ _ _ _ _ => XO.can (o_args rc_listO (a_cons (x_var (pv 7)) a_nil) (fun _ q => pe_callTy call_list_of (by rfl) T.n_list (by decide +kernel) q)))) (lc_read (by decide)))
    (ss_cons (s_set (x_lend 10 (x_op op_mod rd_mod (x_args rc_int (a_cons (x_frz (o_call (a_cons (x_var (pv 1)) a_nil) (fun _ q => pe_callS (G__law_next T) (hr.mono (by decide)) (by rfl) T.m__law_next T.F__law_next.kp T.b__law_next (fun _ => passAt tk _) q))) a_nil) (fun _ q => pe_callTy call_int1 (by rfl) T.n_int (by decide +kernel) q)) (x_args rc_len (a_cons (x_ix ix_seq rd_ix (x_var (pv 10)) (x_var (pv 9)) (fun _ _ => rfl)) a_nil) (fun _ q => pe_callB call_len_seq (by rfl) T.n_len (by decide +kernel) q)))) (fun _ q => ps_set (i := 11) nd rfl (by first | exact Or.inl rfl | exact Or.inr rfl) q))
    (ss_cons (s_put1 (i := 10) (o_sh (x_lend 10 (x_op op_sub rd_sub (x_op op_addD rd_add (x_ix ix_seq rd_ix (x_ix ix_seq rd_ix (x_var (pv 10)) (x_var (pv 9)) (fun _ _ => rfl)) (x_var (pv 11)) (fun _ _ => rfl)) (x_op op_mod rd_mod (x_args rc_int (a_cons (x_frz (o_call (a_cons (x_var (pv 1)) a_nil) (fun _ q => pe_callS (G__law_next T) (hr.mono (by decide)) (by rfl) T.m__law_next T.F__law_next.kp T.b__law_next (fun _ => passAt tk _) q))) a_nil) (fun _ q => pe_callTy call_int1 (by rfl) T.n_int (by decide +kernel) q)) x_int)) x_int))) (x_var (pv 9)) (x_var (pv 11)) (fun _ _ _ q r u => ps_asg q (pg_sub (pe_ix ix_seq (pv 10) r (fun _ _ => rfl)) u set_list (by intro _; rfl))))
    (ss_one (s_if (t_lend 10 (t_not (t_val (x_frz (o_call (a_cons (x_var (pv 4)) (a_cons (x_var (pv 10)) a_nil)) (fun _ q => pe_callG (G__law_right T) hgd (hr.mono (by decide)) (by rfl) T.m__law_right T.F__law_right.kp T.b__law_right (fun _ => passAt tk _) q)))))) (ss_one (s_ret (o_sh x_bl))) ss_nil))))) ss_nil))) (fun _ _ _ a b c => ps_for po rfl a b c))))))) (fun _ _ _ a b c => ps_for po rfl a b c))
    (ss_cons (s_if (t_w (w_or (t_not (t_val (x_frz (o_call (a_cons (x_frz (o_lst (oa_cons (o_sh x_int) oa_nil (by decide)))) (a_cons (x_frz (o_lst (oa_cons (o_lst oa_nil) oa_nil (by decide)))) a_nil)) (fun _ q => pe_callG (G__law_right T) hgd (hr.mono (by decide)) (by rfl) T.m__law_right T.F__law_right.kp T.b__law_right (fun _ => passAt tk _) q))))) (w_or1 (t_not (t_val (x_frz (o_call (a_cons (x_op op_mulD rd_mul (x_frz (o_lst (oa_cons (o_sh x_int) oa_nil (by decide)))) x_int) (a_cons (x_frz (o_lc (own := [(("turn" : Str), 8)]) rfl nd (i_rng1 (a_cons x_int a_nil) (fun _ q => pi_range1 rfl T.n_range q)) (blkOk_by (own := [(("turn" : Str), 8)]) (by kernel_rfl)) (by decide) (fun _ _ _ _ _ => (g_name (pg_name (i := 8) nd rfl (by first | exact Or.inl rfl | exact Or.inr rfl)))) (fun _ _ _ _ _ => ts_nil) (fun _ _ _ _ _ => (o_lst oa_nil)))) a_nil)) (fun _ q => pe_callG (G__law_right T) hgd (hr.mono (by decide)) (by rfl) T.m__law_right T.F__law_right.kp T.b__law_right (fun _ => passAt tk _) q)))))))) (ss_one (s_ret (o_sh x_bl))) ss_nil)
    (ss_cons (s_if (t_val (x_frz (o_call (a_cons (x_frz (o_lst (oa_cons (o_sh x_int) (oa_cons (o_sh x_int) oa_nil (by decide)) (by decide)))) (a_cons (x_frz (o_lst (oa_cons (o_lst (oa_cons (o_sh x_int) (oa_cons (o_sh x_int) oa_nil (by decide)) (by decide))) (oa_cons (o_lst (oa_cons (o_sh x_int) oa_nil (by decide))) oa_nil (by decide)) (by decide)))) a_nil)) (fun _ q => pe_callS (G_is_sorted T) (hr.mono (by decide)) (by rfl) T.m_is_sorted T.F_is_sorted.kp T.b_is_sorted (fun _ => passAt tk _) q)))) (ss_one (s_ret (o_sh x_bl))) ss_nil)
    (ss_one (s_ret (o_sh (x_cmp (op_eqX hr.units) rd_eqX (x_frz (o_call (a_cons (x_frz (o_lst (oa_cons (o_sh x_int) (oa_cons (o_sh x_int) oa_nil (by decide)) (by decide)))) (a_cons (x_frz (o_lst (oa_cons (o_lst (oa_cons (o_sh x_int) oa_nil (by decide))) (oa_cons (o_lst (oa_cons (o_sh x_int) (oa_cons (o_sh x_int) oa_nil (by decide)) (by decide))) oa_nil (by decide)) (by decide)))) a_nil)) (fun _ q => pe_callS (G_word_of T) (hr.mono (by decide)) (by rfl) T.m_word_of T.F_word_of.kp T.b_word_of (fun _ => passAt tk _) q))) (x_frz (o_lst (oa_cons (o_sh x_int) (oa_cons (o_sh x_int) (oa_cons (o_sh x_int) oa_nil (by decide)) (by decide)) (by decide)))) (nomark _))))))))) fun xs P E n h => ?_
  refine sp1 h fun d e h => ?_
  subst e
  obtain ⟨rfl, hon, hns, rfl, hP⟩ := h
  simp only [wDef, wRet, wE, W.map, W.bind, W.ret, W.opt, W.ite, W.no, wVar, wBin, wToB, wChain, wNotT, wAndT, wOrT, wAndV, wOrV, wNotV, wIf, wCons, wArgs, wConsO, wLs, wTp, wBinO, wUn, wUnO, wCut, wMove, wNext, wThen, wSet, wSetO, wTgt, wPairO, wDrop, wRetN, wBrk, wCont, wNever, wIfS, wAug, wFor, wBody, wCall, wLc, wLc2, wGen, wClause, startD, slO, wipeD, dPair, viewD, wLend, wLendT, wLendO, wThenJ, wPut, wPut1, wApp, wApp1, wCallK, wScr, wDefM, kids_ls, kids_rt, withK_ls, withK_rt, OT.val, OT.vals, atom, e_add, e_sub, e_lt, e_le, e_gt, e_ge, e_neg, e_int, pick, e_ix0, e_ix1, e_ix2, e_ix3, e_n30, e_n31, e_n20, e_n21, exists_and_left, List.length_cons, List.length_nil, List.map_cons, List.map_nil, List.replicate_zero, List.replicate_succ, List.append_nil, List.nil_append, List.cons_append, List.getElem?_cons_zero, List.getElem?_cons_succ, List.getElem?_nil, List.set_cons_zero, List.set_cons_succ, List.getD_cons_zero, List.getD_cons_succ, List.not_mem_nil, not_false_eq_true, Nat.zero_add, Nat.reduceAdd, Nat.reduceSub, Nat.sub_self, Nat.sub_zero, if_true, if_false, toB_bool, Option.map_some, Option.some.injEq, Sl.ow.injEq, Sl.d.injEq, OT.ls.injEq, OT.rt.injEq, PyData.int.injEq, exists_eq_left', exists_eq_left, true_and, and_true, Bool.false_eq_true, S1, S2, S3, S4, Option.bind_some, Option.bind_none]
  obtain ⟨zs, hz1, hz2⟩ := cut_ints tabs.ns none (some 6)
  refine ⟨hon, _, rfl, by decide, ?_⟩
  rw [vals_sh, hz1]
  refine ⟨_, e_cat (by rw [List.length_map]; simp; omega), _, rfl, by rw [List.length_append, List.length_map]; simp; omega, wMap_map (fun _ => .sh drawD) (fun d hd Q hq => ?_) ?_⟩
  · obtain ⟨z, rfl⟩ : ∃ z, d = .int z := by
      rcases List.mem_append.mp hd with h | h
      · obtain ⟨z, _, rfl⟩ := List.mem_map.mp h
        exact ⟨z, rfl⟩
      · exact ⟨0, List.mem_singleton.mp h⟩
    simp only [wDef, wRet, wE, W.map, W.bind, W.ret, W.opt, W.ite, W.no, wVar, wBin, wToB, wChain, wNotT, wAndT, wOrT, wAndV, wOrV, wNotV, wIf, wCons, wArgs, wConsO, wLs, wTp, wBinO, wUn, wUnO, wCut, wMove, wNext, wThen, wSet, wSetO, wTgt, wPairO, wDrop, wRetN, wBrk, wCont, wNever, wIfS, wAug, wFor, wBody, wCall, wLc, wLc2, wGen, wClause, startD, slO, wipeD, dPair, viewD, wLend, wLendT, wLendO, wThenJ, wPut, wPut1, wApp, wApp1, wCallK, wScr, wDefM, kids_ls, kids_rt, withK_ls, withK_rt, OT.val, OT.vals, atom, e_add, e_sub, e_lt, e_le, e_gt, e_ge, e_neg, e_int, pick, e_ix0, e_ix1, e_ix2, e_ix3, e_n30, e_n31, e_n20, e_n21, exists_and_left, List.length_cons, List.length_nil, List.map_cons, List.map_nil, List.replicate_zero, List.replicate_succ, List.append_nil, List.nil_append, List.cons_append, List.getElem?_cons_zero, List.getElem?_cons_succ, List.getElem?_nil, List.set_cons_zero, List.set_cons_succ, List.getD_cons_zero, List.getD_cons_succ, List.not_mem_nil, not_false_eq_true, Nat.zero_add, Nat.reduceAdd, Nat.reduceSub, Nat.sub_self, Nat.sub_zero, if_true, if_false, toB_bool, Option.map_some, Option.some.injEq, Sl.ow.injEq, Sl.d.injEq, OT.ls.injEq, OT.rt.injEq, PyData.int.injEq, exists_eq_left', exists_eq_left, true_and, and_true, Bool.false_eq_true, S1, S2, S3, S4, Option.bind_some, Option.bind_none]
    exact ⟨z, rfl, by decide, hq⟩
  · refine ⟨_, rfl, ?_⟩
    rw [OT.vals_eq]
    refine wLoop_by (fun r ρ n => (∀ d ∈ r, d = drawD) ∧ 3000 * r.length ≤ n ∧ ∃ (s1 s2 s3 s4 s5 s6 s7 s8 s9 s10 s11 : Sl), ρ = [.d (scrD tabs.a), s1, s2, s3, s4, s5, s6, s7, s8, s9, s10, s11])
      ⟨fun d hd => ?_, ?_, _, _, _, _, _, _, _, _, _, _, _, rfl⟩ ?_ ?_
    · rw [List.map_map] at hd
      obtain ⟨_, _, rfl⟩ := List.mem_map.mp hd
      rfl
    · rw [List.length_map, List.length_map, List.length_append, List.length_map]
      simp
      omega
    · rintro d r ρ n ⟨hd, hn, s1, s2, s3, s4, s5, s6, s7, s8, s9, s10, s11, rfl⟩
      obtain rfl := hd d List.mem_cons_self
      rw [List.length_cons] at hn
      simp only [wDef, wRet, wE, W.map, W.bind, W.ret, W.opt, W.ite, W.no, wVar, wBin, wToB, wChain, wNotT, wAndT, wOrT, wAndV, wOrV, wNotV, wIf, wCons, wArgs, wConsO, wLs, wTp, wBinO, wUn, wUnO, wCut, wMove, wNext, wThen, wSet, wSetO, wTgt, wPairO, wDrop, wRetN, wBrk, wCont, wNever, wIfS, wAug, wFor, wBody, wCall, wLc, wLc2, wGen, wClause, startD, slO, wipeD, dPair, viewD, wLend, wLendT, wLendO, wThenJ, wPut, wPut1, wApp, wApp1, wCallK, wScr, wDefM, kids_ls, kids_rt, withK_ls, withK_rt, OT.val, OT.vals, atom, e_add, e_sub, e_lt, e_le, e_gt, e_ge, e_neg, e_int, pick, e_ix0, e_ix1, e_ix2, e_ix3, e_n30, e_n31, e_n20, e_n21, exists_and_left, List.length_cons, List.length_nil, List.map_cons, List.map_nil, List.replicate_zero, List.replicate_succ, List.append_nil, List.nil_append, List.cons_append, List.getElem?_cons_zero, List.getElem?_cons_succ, List.getElem?_nil, List.set_cons_zero, List.set_cons_succ, List.getD_cons_zero, List.getD_cons_succ, List.not_mem_nil, not_false_eq_true, Nat.zero_add, Nat.reduceAdd, Nat.reduceSub, Nat.sub_self, Nat.sub_zero, if_true, if_false, toB_bool, Option.map_some, Option.some.injEq, Sl.ow.injEq, Sl.d.injEq, OT.ls.injEq, OT.rt.injEq, PyData.int.injEq, exists_eq_left', exists_eq_left, true_and, and_true, Bool.false_eq_true, S1, S2, S3, S4, Option.bind_some, Option.bind_none]
      refine ⟨by decide, next_ok (n - 1) (by omega) fun z a1 a2 => ?_⟩
      have z1 := Int.emod_nonneg z (show (4 : Int) ≠ 0 by decide)
      have z2 := Int.emod_lt_of_pos z (show (0 : Int) < 4 by decide)
      obtain ⟨st, hst, st1, st2⟩ := e_ix4 z1 z2
      simp only [wDef, wRet, wE, W.map, W.bind, W.ret, W.opt, W.ite, W.no, wVar, wBin, wToB, wChain, wNotT, wAndT, wOrT, wAndV, wOrV, wNotV, wIf, wCons, wArgs, wConsO, wLs, wTp, wBinO, wUn, wUnO, wCut, wMove, wNext, wThen, wSet, wSetO, wTgt, wPairO, wDrop, wRetN, wBrk, wCont, wNever, wIfS, wAug, wFor, wBody, wCall, wLc, wLc2, wGen, wClause, startD, slO, wipeD, dPair, viewD, wLend, wLendT, wLendO, wThenJ, wPut, wPut1, wApp, wApp1, wCallK, wScr, wDefM, kids_ls, kids_rt, withK_ls, withK_rt, OT.val, OT.vals, atom, e_add, e_sub, e_lt, e_le, e_gt, e_ge, e_neg, e_int, pick, e_ix0, e_ix1, e_ix2, e_ix3, e_n30, e_n31, e_n20, e_n21, exists_and_left, List.length_cons, List.length_nil, List.map_cons, List.map_nil, List.replicate_zero, List.replicate_succ, List.append_nil, List.nil_append, List.cons_append, List.getElem?_cons_zero, List.getElem?_cons_succ, List.getElem?_nil, List.set_cons_zero, List.set_cons_succ, List.getD_cons_zero, List.getD_cons_succ, List.not_mem_nil, not_false_eq_true, Nat.zero_add, Nat.reduceAdd, Nat.reduceSub, Nat.sub_self, Nat.sub_zero, if_true, if_false, toB_bool, Option.map_some, Option.some.injEq, Sl.ow.injEq, Sl.d.injEq, OT.ls.injEq, OT.rt.injEq, PyData.int.injEq, exists_eq_left', exists_eq_left, true_and, and_true, Bool.false_eq_true, S1, S2, S3, S4, Option.bind_some, Option.bind_none]
      refine ⟨_, e_mod (by decide), _, hst, 8, 8, rfl, rfl, rfl, by decide, by decide, by decide, by decide, n - 201, by omega, fun ls n1 hn1 hn2 hls => ?_⟩
      simp only [wDef, wRet, wE, W.map, W.bind, W.ret, W.opt, W.ite, W.no, wVar, wBin, wToB, wChain, wNotT, wAndT, wOrT, wAndV, wOrV, wNotV, wIf, wCons, wArgs, wConsO, wLs, wTp, wBinO, wUn, wUnO, wCut, wMove, wNext, wThen, wSet, wSetO, wTgt, wPairO, wDrop, wRetN, wBrk, wCont, wNever, wIfS, wAug, wFor, wBody, wCall, wLc, wLc2, wGen, wClause, startD, slO, wipeD, dPair, viewD, wLend, wLendT, wLendO, wThenJ, wPut, wPut1, wApp, wApp1, wCallK, wScr, wDefM, kids_ls, kids_rt, withK_ls, withK_rt, OT.val, OT.vals, atom, e_add, e_sub, e_lt, e_le, e_gt, e_ge, e_neg, e_int, pick, e_ix0, e_ix1, e_ix2, e_ix3, e_n30, e_n31, e_n20, e_n21, exists_and_left, List.length_cons, List.length_nil, List.map_cons, List.map_nil, List.replicate_zero, List.replicate_succ, List.append_nil, List.nil_append, List.cons_append, List.getElem?_cons_zero, List.getElem?_cons_succ, List.getElem?_nil, List.set_cons_zero, List.set_cons_succ, List.getD_cons_zero, List.getD_cons_succ, List.not_mem_nil, not_false_eq_true, Nat.zero_add, Nat.reduceAdd, Nat.reduceSub, Nat.sub_self, Nat.sub_zero, if_true, if_false, toB_bool, Option.map_some, Option.some.injEq, Sl.ow.injEq, Sl.d.injEq, OT.ls.injEq, OT.rt.injEq, PyData.int.injEq, exists_eq_left', exists_eq_left, true_and, and_true, Bool.false_eq_true, S1, S2, S3, S4, Option.bind_some, Option.bind_none]
      rw [val_ints]
      refine ⟨ls, st, rfl, rfl, rfl, ?_, ?_, hls.each, st1, by omega, n1 - 1000, by omega, fun gs rs n2 hn3 hn4 hps => ?_⟩
      · intro z
        have := hls.len
        rw [z] at this
        simp at this
      · have := hls.len
        omega
      simp only [wDef, wRet, wE, W.map, W.bind, W.ret, W.opt, W.ite, W.no, wVar, wBin, wToB, wChain, wNotT, wAndT, wOrT, wAndV, wOrV, wNotV, wIf, wCons, wArgs, wConsO, wLs, wTp, wBinO, wUn, wUnO, wCut, wMove, wNext, wThen, wSet, wSetO, wTgt, wPairO, wDrop, wRetN, wBrk, wCont, wNever, wIfS, wAug, wFor, wBody, wCall, wLc, wLc2, wGen, wClause, startD, slO, wipeD, dPair, viewD, wLend, wLendT, wLendO, wThenJ, wPut, wPut1, wApp, wApp1, wCallK, wScr, wDefM, kids_ls, kids_rt, withK_ls, withK_rt, OT.val, OT.vals, atom, e_add, e_sub, e_lt, e_le, e_gt, e_ge, e_neg, e_int, pick, e_ix0, e_ix1, e_ix2, e_ix3, e_n30, e_n31, e_n20, e_n21, exists_and_left, List.length_cons, List.length_nil, List.map_cons, List.map_nil, List.replicate_zero, List.replicate_succ, List.append_nil, List.nil_append, List.cons_append, List.getElem?_cons_zero, List.getElem?_cons_succ, List.getElem?_nil, List.set_cons_zero, List.set_cons_succ, List.getD_cons_zero, List.getD_cons_succ, List.not_mem_nil, not_false_eq_true, Nat.zero_add, Nat.reduceAdd, Nat.reduceSub, Nat.sub_self, Nat.sub_zero, if_true, if_false, toB_bool, Option.map_some, Option.some.injEq, Sl.ow.injEq, Sl.d.injEq, OT.ls.injEq, OT.rt.injEq, PyData.int.injEq, exists_eq_left', exists_eq_left, true_and, and_true, Bool.false_eq_true, S1, S2, S3, S4, Option.bind_some, Option.bind_none]
      rw [val_rows]
      have hne : ∀ rs' : List (List Int), rs'.length = rs.length → rs' ≠ [] := fun rs' e z => by
        have h1 := hps.len
        have h2 := Paired.len hps.gone.pr
        have h3 := hls.len
        rw [z] at e
        simp at e
        omega
      refine ⟨fun ρ n => n = n2 ∧ ∃ (rs' : List (List Int)) (s6 s7 s8 s9 s10 s11 : Sl), Fine gs rs' ∧ rs' ≠ [] ∧ ρ = [.d (scrD tabs.a), .d drawD, s2, .d (.int st), .d (intsD gs), .d (rowsD rs'), s6, s7, s8, s9, s10, s11], ?_, ?_⟩
      · refine ⟨_, e_eqI, _, rfl, ?_⟩
        by_cases h5 : st = 500
        · rw [decide_eq_true h5, if_pos rfl]
          have hrl : rs.length ≤ 8 := by
            have h1 := hps.len
            have h2 := Paired.len hps.gone.pr
            have h3 := hls.len
            omega
          refine ⟨_, rfl, by rw [List.length_map]; omega, wMap_of rs intsD (fun r => intsT (r.map scale)) rfl (fun row hrow Q hq => ?_) ?_⟩
          · simp only [wDef, wRet, wE, W.map, W.bind, W.ret, W.opt, W.ite, W.no, wVar, wBin, wToB, wChain, wNotT, wAndT, wOrT, wAndV, wOrV, wNotV, wIf, wCons, wArgs, wConsO, wLs, wTp, wBinO, wUn, wUnO, wCut, wMove, wNext, wThen, wSet, wSetO, wTgt, wPairO, wDrop, wRetN, wBrk, wCont, wNever, wIfS, wAug, wFor, wBody, wCall, wLc, wLc2, wGen, wClause, startD, slO, wipeD, dPair, viewD, wLend, wLendT, wLendO, wThenJ, wPut, wPut1, wApp, wApp1, wCallK, wScr, wDefM, kids_ls, kids_rt, withK_ls, withK_rt, OT.val, OT.vals, atom, e_add, e_sub, e_lt, e_le, e_gt, e_ge, e_neg, e_int, pick, e_ix0, e_ix1, e_ix2, e_ix3, e_n30, e_n31, e_n20, e_n21, exists_and_left, List.length_cons, List.length_nil, List.map_cons, List.map_nil, List.replicate_zero, List.replicate_succ, List.append_nil, List.nil_append, List.cons_append, List.getElem?_cons_zero, List.getElem?_cons_succ, List.getElem?_nil, List.set_cons_zero, List.set_cons_succ, List.getD_cons_zero, List.getD_cons_succ, List.not_mem_nil, not_false_eq_true, Nat.zero_add, Nat.reduceAdd, Nat.reduceSub, Nat.sub_self, Nat.sub_zero, if_true, if_false, toB_bool, Option.map_some, Option.some.injEq, Sl.ow.injEq, Sl.d.injEq, OT.ls.injEq, OT.rt.injEq, PyData.int.injEq, exists_eq_left', exists_eq_left, true_and, and_true, Bool.false_eq_true, S1, S2, S3, S4, Option.bind_some, Option.bind_none]
            refine ⟨row.map .int, rfl, ?_, wMap_of row .int (fun x => .sh (.int (scale x))) rfl (fun x hx Q hq => ?_) ?_⟩
            · rw [List.length_map]
              obtain ⟨i, hi, e⟩ := List.getElem_of_mem hrow
              have h1 := hps.len
              have h2 := Paired.len hps.gone.pr
              have e1 := hps.each i row gs[i] ls[i] (by rw [List.getElem?_eq_getElem hi, e]) (List.getElem?_eq_getElem (by omega)) (List.getElem?_eq_getElem (by omega))
              have e2 := hls.each ls[i] (List.getElem_mem _)
              have e3 := (okPiece_facts (Fine.of hls hps).ok).2.1 row hrow
              omega
            · have hb := hps.bd row hrow x hx
              simp only [wDef, wRet, wE, W.map, W.bind, W.ret, W.opt, W.ite, W.no, wVar, wBin, wToB, wChain, wNotT, wAndT, wOrT, wAndV, wOrV, wNotV, wIf, wCons, wArgs, wConsO, wLs, wTp, wBinO, wUn, wUnO, wCut, wMove, wNext, wThen, wSet, wSetO, wTgt, wPairO, wDrop, wRetN, wBrk, wCont, wNever, wIfS, wAug, wFor, wBody, wCall, wLc, wLc2, wGen, wClause, startD, slO, wipeD, dPair, viewD, wLend, wLendT, wLendO, wThenJ, wPut, wPut1, wApp, wApp1, wCallK, wScr, wDefM, kids_ls, kids_rt, withK_ls, withK_rt, OT.val, OT.vals, atom, e_add, e_sub, e_lt, e_le, e_gt, e_ge, e_neg, e_int, pick, e_ix0, e_ix1, e_ix2, e_ix3, e_n30, e_n31, e_n20, e_n21, exists_and_left, List.length_cons, List.length_nil, List.map_cons, List.map_nil, List.replicate_zero, List.replicate_succ, List.append_nil, List.nil_append, List.cons_append, List.getElem?_cons_zero, List.getElem?_cons_succ, List.getElem?_nil, List.set_cons_zero, List.set_cons_succ, List.getD_cons_zero, List.getD_cons_succ, List.not_mem_nil, not_false_eq_true, Nat.zero_add, Nat.reduceAdd, Nat.reduceSub, Nat.sub_self, Nat.sub_zero, if_true, if_false, toB_bool, Option.map_some, Option.some.injEq, Sl.ow.injEq, Sl.d.injEq, OT.ls.injEq, OT.rt.injEq, PyData.int.injEq, exists_eq_left', exists_eq_left, true_and, and_true, Bool.false_eq_true, S1, S2, S3, S4, Option.bind_some, Option.bind_none]
              exact ⟨_, e_pow (by decide +kernel), _, e_mul (mid_s (by omega) (by omega)) (mid_of (by decide +kernel) (by decide +kernel)), hq⟩
            · have e : row.map (fun x => OT.sh (.int (scale x))) = (row.map scale).map fun x => .sh (.int x) := by rw [List.map_map]; rfl
              rw [e]
              exact hq
          · have e : PyData.list (OT.vals (rs.map fun r => intsT (r.map scale))) = rowsD (rs.map (·.map scale)) := by
              unfold rowsD
              rw [OT.vals_eq, List.map_map, List.map_map]
              congr 1
              apply List.map_congr_left
              intro r _
              exact val_ints _
            rw [e]
            exact ⟨rfl, rs.map (·.map scale), _, _, _, _, _, _, Fine.scaled hls hps, hne _ (by rw [List.length_map]), rfl⟩
        · rw [decide_eq_false h5, if_neg Bool.false_ne_true]
          exact ⟨rfl, rs, _, _, _, _, _, _, Fine.of hls hps, hne _ rfl, rfl⟩
      · rintro ρ n' ⟨rfl, rs', s6, s7, s8, s9, s10, s11, fine, hne', rfl⟩
        obtain ⟨k1, k2, k3, k4, k5, k6⟩ := okPiece_facts fine.ok
        simp only [wDef, wRet, wE, W.map, W.bind, W.ret, W.opt, W.ite, W.no, wVar, wBin, wToB, wChain, wNotT, wAndT, wOrT, wAndV, wOrV, wNotV, wIf, wCons, wArgs, wConsO, wLs, wTp, wBinO, wUn, wUnO, wCut, wMove, wNext, wThen, wSet, wSetO, wTgt, wPairO, wDrop, wRetN, wBrk, wCont, wNever, wIfS, wAug, wFor, wBody, wCall, wLc, wLc2, wGen, wClause, startD, slO, wipeD, dPair, viewD, wLend, wLendT, wLendO, wThenJ, wPut, wPut1, wApp, wApp1, wCallK, wScr, wDefM, kids_ls, kids_rt, withK_ls, withK_rt, OT.val, OT.vals, atom, e_add, e_sub, e_lt, e_le, e_gt, e_ge, e_neg, e_int, pick, e_ix0, e_ix1, e_ix2, e_ix3, e_n30, e_n31, e_n20, e_n21, exists_and_left, List.length_cons, List.length_nil, List.map_cons, List.map_nil, List.replicate_zero, List.replicate_succ, List.append_nil, List.nil_append, List.cons_append, List.getElem?_cons_zero, List.getElem?_cons_succ, List.getElem?_nil, List.set_cons_zero, List.set_cons_succ, List.getD_cons_zero, List.getD_cons_succ, List.not_mem_nil, not_false_eq_true, Nat.zero_add, Nat.reduceAdd, Nat.reduceSub, Nat.sub_self, Nat.sub_zero, if_true, if_false, toB_bool, Option.map_some, Option.some.injEq, Sl.ow.injEq, Sl.d.injEq, OT.ls.injEq, OT.rt.injEq, PyData.int.injEq, exists_eq_left', exists_eq_left, true_and, and_true, Bool.false_eq_true, S1, S2, S3, S4, Option.bind_some, Option.bind_none]
        refine ⟨gs, rs', rfl, rfl, k1, fun b hb => ?_⟩
        obtain rfl : b = true := hb.mpr fine.good
        simp only [wDef, wRet, wE, W.map, W.bind, W.ret, W.opt, W.ite, W.no, wVar, wBin, wToB, wChain, wNotT, wAndT, wOrT, wAndV, wOrV, wNotV, wIf, wCons, wArgs, wConsO, wLs, wTp, wBinO, wUn, wUnO, wCut, wMove, wNext, wThen, wSet, wSetO, wTgt, wPairO, wDrop, wRetN, wBrk, wCont, wNever, wIfS, wAug, wFor, wBody, wCall, wLc, wLc2, wGen, wClause, startD, slO, wipeD, dPair, viewD, wLend, wLendT, wLendO, wThenJ, wPut, wPut1, wApp, wApp1, wCallK, wScr, wDefM, kids_ls, kids_rt, withK_ls, withK_rt, OT.val, OT.vals, atom, e_add, e_sub, e_lt, e_le, e_gt, e_ge, e_neg, e_int, pick, e_ix0, e_ix1, e_ix2, e_ix3, e_n30, e_n31, e_n20, e_n21, exists_and_left, List.length_cons, List.length_nil, List.map_cons, List.map_nil, List.replicate_zero, List.replicate_succ, List.append_nil, List.nil_append, List.cons_append, List.getElem?_cons_zero, List.getElem?_cons_succ, List.getElem?_nil, List.set_cons_zero, List.set_cons_succ, List.getD_cons_zero, List.getD_cons_succ, List.not_mem_nil, not_false_eq_true, Nat.zero_add, Nat.reduceAdd, Nat.reduceSub, Nat.sub_self, Nat.sub_zero, if_true, if_false, toB_bool, Option.map_some, Option.some.injEq, Sl.ow.injEq, Sl.d.injEq, OT.ls.injEq, OT.rt.injEq, PyData.int.injEq, exists_eq_left', exists_eq_left, true_and, and_true, Bool.false_eq_true, S1, S2, S3, S4, Option.bind_some, Option.bind_none]
        refine ⟨gs, rs', rfl, rfl, fine.ok, fun r hr x hx => Fine.sm (by have := fine.bd r hr x hx; omega), ?_⟩
        simp only [wDef, wRet, wE, W.map, W.bind, W.ret, W.opt, W.ite, W.no, wVar, wBin, wToB, wChain, wNotT, wAndT, wOrT, wAndV, wOrV, wNotV, wIf, wCons, wArgs, wConsO, wLs, wTp, wBinO, wUn, wUnO, wCut, wMove, wNext, wThen, wSet, wSetO, wTgt, wPairO, wDrop, wRetN, wBrk, wCont, wNever, wIfS, wAug, wFor, wBody, wCall, wLc, wLc2, wGen, wClause, startD, slO, wipeD, dPair, viewD, wLend, wLendT, wLendO, wThenJ, wPut, wPut1, wApp, wApp1, wCallK, wScr, wDefM, kids_ls, kids_rt, withK_ls, withK_rt, OT.val, OT.vals, atom, e_add, e_sub, e_lt, e_le, e_gt, e_ge, e_neg, e_int, pick, e_ix0, e_ix1, e_ix2, e_ix3, e_n30, e_n31, e_n20, e_n21, exists_and_left, List.length_cons, List.length_nil, List.map_cons, List.map_nil, List.replicate_zero, List.replicate_succ, List.append_nil, List.nil_append, List.cons_append, List.getElem?_cons_zero, List.getElem?_cons_succ, List.getElem?_nil, List.set_cons_zero, List.set_cons_succ, List.getD_cons_zero, List.getD_cons_succ, List.not_mem_nil, not_false_eq_true, Nat.zero_add, Nat.reduceAdd, Nat.reduceSub, Nat.sub_self, Nat.sub_zero, if_true, if_false, toB_bool, Option.map_some, Option.some.injEq, Sl.ow.injEq, Sl.d.injEq, OT.ls.injEq, OT.rt.injEq, PyData.int.injEq, exists_eq_left', exists_eq_left, true_and, and_true, Bool.false_eq_true, S1, S2, S3, S4, Option.bind_some, Option.bind_none]
        refine ⟨_, e_rng1 (by decide), ?_⟩
        refine wLoop_by (fun r2 ρ n3 => ∃ (k : Nat) (lo : Int), r2 = dRng lo k ∧ 3000 * r.length + 100 + 3 * k ≤ n3 ∧ ∃ (s8 s9 s10 s11 : Sl), ρ = [.d (scrD tabs.a), .d drawD, s2, .d (.int st), .d (intsD gs), .d (rowsD rs'), s6, s7, s8, s9, s10, s11])
          ⟨_, _, rfl, by omega, _, _, _, _, rfl⟩ ?_ ?_
        · rintro d r2 ρ n3 ⟨k, lo, hr2, hn5, s8, s9, s10, s11, rfl⟩
          cases k with
          | zero => cases hr2
          | succ k =>
            rw [dRng_succ] at hr2
            cases hr2
            have elr : fLen [rowsD rs'] = some (.int (rs'.length : Nat)) := by simp [rowsD, fLen]
            simp only [wDef, wRet, wE, W.map, W.bind, W.ret, W.opt, W.ite, W.no, wVar, wBin, wToB, wChain, wNotT, wAndT, wOrT, wAndV, wOrV, wNotV, wIf, wCons, wArgs, wConsO, wLs, wTp, wBinO, wUn, wUnO, wCut, wMove, wNext, wThen, wSet, wSetO, wTgt, wPairO, wDrop, wRetN, wBrk, wCont, wNever, wIfS, wAug, wFor, wBody, wCall, wLc, wLc2, wGen, wClause, startD, slO, wipeD, dPair, viewD, wLend, wLendT, wLendO, wThenJ, wPut, wPut1, wApp, wApp1, wCallK, wScr, wDefM, kids_ls, kids_rt, withK_ls, withK_rt, OT.val, OT.vals, atom, e_add, e_sub, e_lt, e_le, e_gt, e_ge, e_neg, e_int, pick, e_ix0, e_ix1, e_ix2, e_ix3, e_n30, e_n31, e_n20, e_n21, exists_and_left, List.length_cons, List.length_nil, List.map_cons, List.map_nil, List.replicate_zero, List.replicate_succ, List.append_nil, List.nil_append, List.cons_append, List.getElem?_cons_zero, List.getElem?_cons_succ, List.getElem?_nil, List.set_cons_zero, List.set_cons_succ, List.getD_cons_zero, List.getD_cons_succ, List.not_mem_nil, not_false_eq_true, Nat.zero_add, Nat.reduceAdd, Nat.reduceSub, Nat.sub_self, Nat.sub_zero, if_true, if_false, toB_bool, Option.map_some, Option.some.injEq, Sl.ow.injEq, Sl.d.injEq, OT.ls.injEq, OT.rt.injEq, PyData.int.injEq, exists_eq_left', exists_eq_left, true_and, and_true, Bool.false_eq_true, S1, S2, S3, S4, Option.bind_some, Option.bind_none]
            refine next_ok (n3 - 1) (by omega) fun y a3 a4 => ?_
            have y1 := Int.emod_nonneg y (show (rs'.length : Int) ≠ 0 by omega)
            have y2 := Int.emod_lt_of_pos y (show 0 < (rs'.length : Int) by omega)
            simp only [wDef, wRet, wE, W.map, W.bind, W.ret, W.opt, W.ite, W.no, wVar, wBin, wToB, wChain, wNotT, wAndT, wOrT, wAndV, wOrV, wNotV, wIf, wCons, wArgs, wConsO, wLs, wTp, wBinO, wUn, wUnO, wCut, wMove, wNext, wThen, wSet, wSetO, wTgt, wPairO, wDrop, wRetN, wBrk, wCont, wNever, wIfS, wAug, wFor, wBody, wCall, wLc, wLc2, wGen, wClause, startD, slO, wipeD, dPair, viewD, wLend, wLendT, wLendO, wThenJ, wPut, wPut1, wApp, wApp1, wCallK, wScr, wDefM, kids_ls, kids_rt, withK_ls, withK_rt, OT.val, OT.vals, atom, e_add, e_sub, e_lt, e_le, e_gt, e_ge, e_neg, e_int, pick, e_ix0, e_ix1, e_ix2, e_ix3, e_n30, e_n31, e_n20, e_n21, exists_and_left, List.length_cons, List.length_nil, List.map_cons, List.map_nil, List.replicate_zero, List.replicate_succ, List.append_nil, List.nil_append, List.cons_append, List.getElem?_cons_zero, List.getElem?_cons_succ, List.getElem?_nil, List.set_cons_zero, List.set_cons_succ, List.getD_cons_zero, List.getD_cons_succ, List.not_mem_nil, not_false_eq_true, Nat.zero_add, Nat.reduceAdd, Nat.reduceSub, Nat.sub_self, Nat.sub_zero, if_true, if_false, toB_bool, Option.map_some, Option.some.injEq, Sl.ow.injEq, Sl.d.injEq, OT.ls.injEq, OT.rt.injEq, PyData.int.injEq, exists_eq_left', exists_eq_left, true_and, and_true, Bool.false_eq_true, S1, S2, S3, S4, Option.bind_some, Option.bind_none]
            refine ⟨_, elr, _, e_mod (by omega), ?_⟩
            generalize y % (rs'.length : Int) = at_ at y1 y2 ⊢
            have hat : at_.toNat < rs'.length := by omega
            have hra : rs'[at_.toNat]? = some rs'[at_.toNat] := List.getElem?_eq_getElem hat
            generalize rs'[at_.toNat] = row at hra
            have erow : (rs'.map intsD)[at_.toNat]? = some (intsD row) := by rw [List.getElem?_map, hra]; rfl
            have erd : dIx (rowsD rs') (.int at_) = some (intsD row) := e_ix y1 erow
            simp only [wDef, wRet, wE, W.map, W.bind, W.ret, W.opt, W.ite, W.no, wVar, wBin, wToB, wChain, wNotT, wAndT, wOrT, wAndV, wOrV, wNotV, wIf, wCons, wArgs, wConsO, wLs, wTp, wBinO, wUn, wUnO, wCut, wMove, wNext, wThen, wSet, wSetO, wTgt, wPairO, wDrop, wRetN, wBrk, wCont, wNever, wIfS, wAug, wFor, wBody, wCall, wLc, wLc2, wGen, wClause, startD, slO, wipeD, dPair, viewD, wLend, wLendT, wLendO, wThenJ, wPut, wPut1, wApp, wApp1, wCallK, wScr, wDefM, kids_ls, kids_rt, withK_ls, withK_rt, OT.val, OT.vals, atom, e_add, e_sub, e_lt, e_le, e_gt, e_ge, e_neg, e_int, pick, e_ix0, e_ix1, e_ix2, e_ix3, e_n30, e_n31, e_n20, e_n21, exists_and_left, List.length_cons, List.length_nil, List.map_cons, List.map_nil, List.replicate_zero, List.replicate_succ, List.append_nil, List.nil_append, List.cons_append, List.getElem?_cons_zero, List.getElem?_cons_succ, List.getElem?_nil, List.set_cons_zero, List.set_cons_succ, List.getD_cons_zero, List.getD_cons_succ, List.not_mem_nil, not_false_eq_true, Nat.zero_add, Nat.reduceAdd, Nat.reduceSub, Nat.sub_self, Nat.sub_zero, if_true, if_false, toB_bool, Option.map_some, Option.some.injEq, Sl.ow.injEq, Sl.d.injEq, OT.ls.injEq, OT.rt.injEq, PyData.int.injEq, exists_eq_left', exists_eq_left, true_and, and_true, Bool.false_eq_true, S1, S2, S3, S4, Option.bind_some, Option.bind_none]
            refine ⟨_, erd, by decide, _, ne_nil row, _, rfl, ?_⟩
            cases row with
            | nil =>
              exact iteF' rfl ⟨k, lo + 1, rfl, by omega, _, _, _, _, rfl⟩
            | cons x0 row0 =>
              refine iteT' rfl ?_
              have hpos : 0 < (x0 :: row0).length := Nat.succ_pos _
              have hrow8 := k2 _ (List.mem_of_getElem? hra)
              have hrowm := List.mem_of_getElem? hra
              generalize x0 :: row0 = row at hra erow erd hpos hrow8 hrowm
              have elrow : fLen [intsD row] = some (.int (row.length : Nat)) := by simp [intsD, fLen]
              have eV : PyData.list (OT.vals (rs'.map intsT)) = rowsD rs' := val_rows rs'
              refine ⟨_, rfl, by rw [List.length_map]; omega, wMap_of rs' intsD intsT rfl (fun rr hrr Q hq => ?_) ?_⟩
              · simp only [wDef, wRet, wE, W.map, W.bind, W.ret, W.opt, W.ite, W.no, wVar, wBin, wToB, wChain, wNotT, wAndT, wOrT, wAndV, wOrV, wNotV, wIf, wCons, wArgs, wConsO, wLs, wTp, wBinO, wUn, wUnO, wCut, wMove, wNext, wThen, wSet, wSetO, wTgt, wPairO, wDrop, wRetN, wBrk, wCont, wNever, wIfS, wAug, wFor, wBody, wCall, wLc, wLc2, wGen, wClause, startD, slO, wipeD, dPair, viewD, wLend, wLendT, wLendO, wThenJ, wPut, wPut1, wApp, wApp1, wCallK, wScr, wDefM, kids_ls, kids_rt, withK_ls, withK_rt, OT.val, OT.vals, atom, e_add, e_sub, e_lt, e_le, e_gt, e_ge, e_neg, e_int, pick, e_ix0, e_ix1, e_ix2, e_ix3, e_n30, e_n31, e_n20, e_n21, exists_and_left, List.length_cons, List.length_nil, List.map_cons, List.map_nil, List.replicate_zero, List.replicate_succ, List.append_nil, List.nil_append, List.cons_append, List.getElem?_cons_zero, List.getElem?_cons_succ, List.getElem?_nil, List.set_cons_zero, List.set_cons_succ, List.getD_cons_zero, List.getD_cons_succ, List.not_mem_nil, not_false_eq_true, Nat.zero_add, Nat.reduceAdd, Nat.reduceSub, Nat.sub_self, Nat.sub_zero, if_true, if_false, toB_bool, Option.map_some, Option.some.injEq, Sl.ow.injEq, Sl.d.injEq, OT.ls.injEq, OT.rt.injEq, PyData.int.injEq, exists_eq_left', exists_eq_left, true_and, and_true, Bool.false_eq_true, S1, S2, S3, S4, Option.bind_some, Option.bind_none]
                refine ⟨intsT rr, ?_, hq⟩
                unfold intsD intsT
                simp only [fListO, List.map_map]
                rfl
              · rw [eV]
                refine next_ok (n3 - 2) (by omega) fun f a5 a6 => ?_
                have f1 := Int.emod_nonneg f (show (row.length : Int) ≠ 0 by omega)
                have f2 := Int.emod_lt_of_pos f (show 0 < (row.length : Int) by omega)
                simp only [wDef, wRet, wE, W.map, W.bind, W.ret, W.opt, W.ite, W.no, wVar, wBin, wToB, wChain, wNotT, wAndT, wOrT, wAndV, wOrV, wNotV, wIf, wCons, wArgs, wConsO, wLs, wTp, wBinO, wUn, wUnO, wCut, wMove, wNext, wThen, wSet, wSetO, wTgt, wPairO, wDrop, wRetN, wBrk, wCont, wNever, wIfS, wAug, wFor, wBody, wCall, wLc, wLc2, wGen, wClause, startD, slO, wipeD, dPair, viewD, wLend, wLendT, wLendO, wThenJ, wPut, wPut1, wApp, wApp1, wCallK, wScr, wDefM, kids_ls, kids_rt, withK_ls, withK_rt, OT.val, OT.vals, atom, e_add, e_sub, e_lt, e_le, e_gt, e_ge, e_neg, e_int, pick, e_ix0, e_ix1, e_ix2, e_ix3, e_n30, e_n31, e_n20, e_n21, exists_and_left, List.length_cons, List.length_nil, List.map_cons, List.map_nil, List.replicate_zero, List.replicate_succ, List.append_nil, List.nil_append, List.cons_append, List.getElem?_cons_zero, List.getElem?_cons_succ, List.getElem?_nil, List.set_cons_zero, List.set_cons_succ, List.getD_cons_zero, List.getD_cons_succ, List.not_mem_nil, not_false_eq_true, Nat.zero_add, Nat.reduceAdd, Nat.reduceSub, Nat.sub_self, Nat.sub_zero, if_true, if_false, toB_bool, Option.map_some, Option.some.injEq, Sl.ow.injEq, Sl.d.injEq, OT.ls.injEq, OT.rt.injEq, PyData.int.injEq, exists_eq_left', exists_eq_left, true_and, and_true, Bool.false_eq_true, S1, S2, S3, S4, Option.bind_some, Option.bind_none]
                refine ⟨_, erd, _, elrow, _, e_mod (by omega), ?_⟩
                generalize f % (row.length : Int) = far at f1 f2 ⊢
                have hfa : far.toNat < row.length := by omega
                have exf : dIx (intsD row) (.int far) = some (.int row[far.toNat]) := dIx_ints f1 (List.getElem?_eq_getElem hfa)
                refine ⟨rfl, _, erd, _, exf, next_ok (n3 - 3) (by omega) fun w a7 a8 => ?_⟩
                have w1 := Int.emod_nonneg w (show (5 : Int) ≠ 0 by decide)
                have w2 := Int.emod_lt_of_pos w (show (0 : Int) < 5 by decide)
                simp only [wDef, wRet, wE, W.map, W.bind, W.ret, W.opt, W.ite, W.no, wVar, wBin, wToB, wChain, wNotT, wAndT, wOrT, wAndV, wOrV, wNotV, wIf, wCons, wArgs, wConsO, wLs, wTp, wBinO, wUn, wUnO, wCut, wMove, wNext, wThen, wSet, wSetO, wTgt, wPairO, wDrop, wRetN, wBrk, wCont, wNever, wIfS, wAug, wFor, wBody, wCall, wLc, wLc2, wGen, wClause, startD, slO, wipeD, dPair, viewD, wLend, wLendT, wLendO, wThenJ, wPut, wPut1, wApp, wApp1, wCallK, wScr, wDefM, kids_ls, kids_rt, withK_ls, withK_rt, OT.val, OT.vals, atom, e_add, e_sub, e_lt, e_le, e_gt, e_ge, e_neg, e_int, pick, e_ix0, e_ix1, e_ix2, e_ix3, e_n30, e_n31, e_n20, e_n21, exists_and_left, List.length_cons, List.length_nil, List.map_cons, List.map_nil, List.replicate_zero, List.replicate_succ, List.append_nil, List.nil_append, List.cons_append, List.getElem?_cons_zero, List.getElem?_cons_succ, List.getElem?_nil, List.set_cons_zero, List.set_cons_succ, List.getD_cons_zero, List.getD_cons_succ, List.not_mem_nil, not_false_eq_true, Nat.zero_add, Nat.reduceAdd, Nat.reduceSub, Nat.sub_self, Nat.sub_zero, if_true, if_false, toB_bool, Option.map_some, Option.some.injEq, Sl.ow.injEq, Sl.d.injEq, OT.ls.injEq, OT.rt.injEq, PyData.int.injEq, exists_eq_left', exists_eq_left, true_and, and_true, Bool.false_eq_true, S1, S2, S3, S4, Option.bind_some, Option.bind_none]
                have hx := fine.bd row hrowm row[far.toNat] (List.getElem_mem hfa)
                generalize row[far.toNat] = x at hx
                refine ⟨_, e_mod (by decide), _, e_add, _, e_sub, rfl, _, ixN_of y1 (by rw [List.length_map]; exact y2), intsT row, by rw [List.getElem?_map, hra]; rfl, _, rfl, _, ixN_of f1 (by rw [List.length_map]; exact f2), ?_⟩
                have eset : PyData.list (OT.vals ((rs'.map intsT).set at_.toNat (withK (intsT row) ((row.map fun x => OT.sh (.int x)).set far.toNat (.sh (.int (x + w % 5 - 2))))))) = rowsD (rs'.set at_.toNat (row.set far.toNat (x + w % 5 - 2))) := by
                  rw [← val_rows, rowsT_set]
                  unfold intsT
                  simp only [withK_ls, OT.val, List.map_set]
                rw [eset]
                refine ⟨gs, _, rfl, rfl, ?_, fun r hr v hv => ?_, ?_⟩
                · have := fine.ok
                  unfold okPiece at this ⊢
                  rw [okRows_lens 8 gs _ rs' (by
                    rw [List.map_set, List.length_set]
                    apply List.ext_getElem?
                    intro i
                    by_cases e : at_.toNat = i
                    · subst e
                      rw [List.getElem?_set_self (by rw [List.length_map]; exact hat), List.getElem?_map, hra]
                      rfl
                    · rw [List.getElem?_set_ne e])]
                  exact this
                · rcases List.mem_or_eq_of_mem_set hr with h | rfl
                  · exact Fine.sm (by have := fine.bd r h v hv; omega)
                  · rcases List.mem_or_eq_of_mem_set hv with h | rfl
                    · exact Fine.sm (by have := fine.bd row hrowm v h; omega)
                    · exact Fine.sm (by omega)
                · simp only [wDef, wRet, wE, W.map, W.bind, W.ret, W.opt, W.ite, W.no, wVar, wBin, wToB, wChain, wNotT, wAndT, wOrT, wAndV, wOrV, wNotV, wIf, wCons, wArgs, wConsO, wLs, wTp, wBinO, wUn, wUnO, wCut, wMove, wNext, wThen, wSet, wSetO, wTgt, wPairO, wDrop, wRetN, wBrk, wCont, wNever, wIfS, wAug, wFor, wBody, wCall, wLc, wLc2, wGen, wClause, startD, slO, wipeD, dPair, viewD, wLend, wLendT, wLendO, wThenJ, wPut, wPut1, wApp, wApp1, wCallK, wScr, wDefM, kids_ls, kids_rt, withK_ls, withK_rt, OT.val, OT.vals, atom, e_add, e_sub, e_lt, e_le, e_gt, e_ge, e_neg, e_int, pick, e_ix0, e_ix1, e_ix2, e_ix3, e_n30, e_n31, e_n20, e_n21, exists_and_left, List.length_cons, List.length_nil, List.map_cons, List.map_nil, List.replicate_zero, List.replicate_succ, List.append_nil, List.nil_append, List.cons_append, List.getElem?_cons_zero, List.getElem?_cons_succ, List.getElem?_nil, List.set_cons_zero, List.set_cons_succ, List.getD_cons_zero, List.getD_cons_succ, List.not_mem_nil, not_false_eq_true, Nat.zero_add, Nat.reduceAdd, Nat.reduceSub, Nat.sub_self, Nat.sub_zero, if_true, if_false, toB_bool, Option.map_some, Option.some.injEq, Sl.ow.injEq, Sl.d.injEq, OT.ls.injEq, OT.rt.injEq, PyData.int.injEq, exists_eq_left', exists_eq_left, true_and, and_true, Bool.false_eq_true, S1, S2, S3, S4, Option.bind_some, Option.bind_none]
                  exact ⟨k, lo + 1, rfl, by omega, _, _, _, _, rfl⟩
        · rintro ρ n3 ⟨k, lo, hr2, hn5, s8, s9, s10, s11, rfl⟩
          cases k with
          | succ k => rw [dRng_succ] at hr2; cases hr2
          | zero =>
            simp only [wDef, wRet, wE, W.map, W.bind, W.ret, W.opt, W.ite, W.no, wVar, wBin, wToB, wChain, wNotT, wAndT, wOrT, wAndV, wOrV, wNotV, wIf, wCons, wArgs, wConsO, wLs, wTp, wBinO, wUn, wUnO, wCut, wMove, wNext, wThen, wSet, wSetO, wTgt, wPairO, wDrop, wRetN, wBrk, wCont, wNever, wIfS, wAug, wFor, wBody, wCall, wLc, wLc2, wGen, wClause, startD, slO, wipeD, dPair, viewD, wLend, wLendT, wLendO, wThenJ, wPut, wPut1, wApp, wApp1, wCallK, wScr, wDefM, kids_ls, kids_rt, withK_ls, withK_rt, OT.val, OT.vals, atom, e_add, e_sub, e_lt, e_le, e_gt, e_ge, e_neg, e_int, pick, e_ix0, e_ix1, e_ix2, e_ix3, e_n30, e_n31, e_n20, e_n21, exists_and_left, List.length_cons, List.length_nil, List.map_cons, List.map_nil, List.replicate_zero, List.replicate_succ, List.append_nil, List.nil_append, List.cons_append, List.getElem?_cons_zero, List.getElem?_cons_succ, List.getElem?_nil, List.set_cons_zero, List.set_cons_succ, List.getD_cons_zero, List.getD_cons_succ, List.not_mem_nil, not_false_eq_true, Nat.zero_add, Nat.reduceAdd, Nat.reduceSub, Nat.sub_self, Nat.sub_zero, if_true, if_false, toB_bool, Option.map_some, Option.some.injEq, Sl.ow.injEq, Sl.d.injEq, OT.ls.injEq, OT.rt.injEq, PyData.int.injEq, exists_eq_left', exists_eq_left, true_and, and_true, Bool.false_eq_true, S1, S2, S3, S4, Option.bind_some, Option.bind_none]
            exact ⟨fun d h => hd d (List.mem_cons_of_mem _ h), by omega, _, _, _, _, _, _, _, _, _, _, _, rfl⟩
    · rintro ρ n ⟨_, _, s1, s2, s3, s4, s5, s6, s7, s8, s9, s10, s11, rfl⟩
      simp only [wDef, wRet, wE, W.map, W.bind, W.ret, W.opt, W.ite, W.no, wVar, wBin, wToB, wChain, wNotT, wAndT, wOrT, wAndV, wOrV, wNotV, wIf, wCons, wArgs, wConsO, wLs, wTp, wBinO, wUn, wUnO, wCut, wMove, wNext, wThen, wSet, wSetO, wTgt, wPairO, wDrop, wRetN, wBrk, wCont, wNever, wIfS, wAug, wFor, wBody, wCall, wLc, wLc2, wGen, wClause, startD, slO, wipeD, dPair, viewD, wLend, wLendT, wLendO, wThenJ, wPut, wPut1, wApp, wApp1, wCallK, wScr, wDefM, kids_ls, kids_rt, withK_ls, withK_rt, OT.val, OT.vals, atom, e_add, e_sub, e_lt, e_le, e_gt, e_ge, e_neg, e_int, pick, e_ix0, e_ix1, e_ix2, e_ix3, e_n30, e_n31, e_n20, e_n21, exists_and_left, List.length_cons, List.length_nil, List.map_cons, List.map_nil, List.replicate_zero, List.replicate_succ, List.append_nil, List.nil_append, List.cons_append, List.getElem?_cons_zero, List.getElem?_cons_succ, List.getElem?_nil, List.set_cons_zero, List.set_cons_succ, List.getD_cons_zero, List.getD_cons_succ, List.not_mem_nil, not_false_eq_true, Nat.zero_add, Nat.reduceAdd, Nat.reduceSub, Nat.sub_self, Nat.sub_zero, if_true, if_false, toB_bool, Option.map_some, Option.some.injEq, Sl.ow.injEq, Sl.d.injEq, OT.ls.injEq, OT.rt.injEq, PyData.int.injEq, exists_eq_left', exists_eq_left, true_and, and_true, Bool.false_eq_true, S1, S2, S3, S4, Option.bind_some, Option.bind_none]
      refine ⟨by decide, by decide, by decide, [0], [[]], rfl, rfl, by decide, fun r hr x hx => ?_, ?_⟩
      · rw [List.mem_singleton.mp hr] at hx
        cases hx
      simp only [wDef, wRet, wE, W.map, W.bind, W.ret, W.opt, W.ite, W.no, wVar, wBin, wToB, wChain, wNotT, wAndT, wOrT, wAndV, wOrV, wNotV, wIf, wCons, wArgs, wConsO, wLs, wTp, wBinO, wUn, wUnO, wCut, wMove, wNext, wThen, wSet, wSetO, wTgt, wPairO, wDrop, wRetN, wBrk, wCont, wNever, wIfS, wAug, wFor, wBody, wCall, wLc, wLc2, wGen, wClause, startD, slO, wipeD, dPair, viewD, wLend, wLendT, wLendO, wThenJ, wPut, wPut1, wApp, wApp1, wCallK, wScr, wDefM, kids_ls, kids_rt, withK_ls, withK_rt, OT.val, OT.vals, atom, e_add, e_sub, e_lt, e_le, e_gt, e_ge, e_neg, e_int, pick, e_ix0, e_ix1, e_ix2, e_ix3, e_n30, e_n31, e_n20, e_n21, exists_and_left, List.length_cons, List.length_nil, List.map_cons, List.map_nil, List.replicate_zero, List.replicate_succ, List.append_nil, List.nil_append, List.cons_append, List.getElem?_cons_zero, List.getElem?_cons_succ, List.getElem?_nil, List.set_cons_zero, List.set_cons_succ, List.getD_cons_zero, List.getD_cons_succ, List.not_mem_nil, not_false_eq_true, Nat.zero_add, Nat.reduceAdd, Nat.reduceSub, Nat.sub_self, Nat.sub_zero, if_true, if_false, toB_bool, Option.map_some, Option.some.injEq, Sl.ow.injEq, Sl.d.injEq, OT.ls.injEq, OT.rt.injEq, PyData.int.injEq, exists_eq_left', exists_eq_left, true_and, and_true, Bool.false_eq_true, S1, S2, S3, S4, Option.bind_some, Option.bind_none]
      refine ⟨by decide, _, e_rep ⟨by decide, by decide, by decide⟩, _, e_rng1 (by decide), by decide, wMap_map (fun _ => .ls []) (fun d _ Q hq => ?_) ?_⟩
      · simp only [wDef, wRet, wE, W.map, W.bind, W.ret, W.opt, W.ite, W.no, wVar, wBin, wToB, wChain, wNotT, wAndT, wOrT, wAndV, wOrV, wNotV, wIf, wCons, wArgs, wConsO, wLs, wTp, wBinO, wUn, wUnO, wCut, wMove, wNext, wThen, wSet, wSetO, wTgt, wPairO, wDrop, wRetN, wBrk, wCont, wNever, wIfS, wAug, wFor, wBody, wCall, wLc, wLc2, wGen, wClause, startD, slO, wipeD, dPair, viewD, wLend, wLendT, wLendO, wThenJ, wPut, wPut1, wApp, wApp1, wCallK, wScr, wDefM, kids_ls, kids_rt, withK_ls, withK_rt, OT.val, OT.vals, atom, e_add, e_sub, e_lt, e_le, e_gt, e_ge, e_neg, e_int, pick, e_ix0, e_ix1, e_ix2, e_ix3, e_n30, e_n31, e_n20, e_n21, exists_and_left, List.length_cons, List.length_nil, List.map_cons, List.map_nil, List.replicate_zero, List.replicate_succ, List.append_nil, List.nil_append, List.cons_append, List.getElem?_cons_zero, List.getElem?_cons_succ, List.getElem?_nil, List.set_cons_zero, List.set_cons_succ, List.getD_cons_zero, List.getD_cons_succ, List.not_mem_nil, not_false_eq_true, Nat.zero_add, Nat.reduceAdd, Nat.reduceSub, Nat.sub_self, Nat.sub_zero, if_true, if_false, toB_bool, Option.map_some, Option.some.injEq, Sl.ow.injEq, Sl.d.injEq, OT.ls.injEq, OT.rt.injEq, PyData.int.injEq, exists_eq_left', exists_eq_left, true_and, and_true, Bool.false_eq_true, S1, S2, S3, S4, Option.bind_some, Option.bind_none]
        exact ⟨by decide, hq⟩
      refine ⟨[8, 8, 8, 8, 8, 8, 8, 8], [[], [], [], [], [], [], [], []], rfl, rfl, by decide, fun r hr x hx => ?_, ?_⟩
      · have : ∀ r ∈ [[], [], [], [], [], [], [], ([] : List Int)], r = [] := by decide
        rw [this r hr] at hx
        cases hx
      simp only [wDef, wRet, wE, W.map, W.bind, W.ret, W.opt, W.ite, W.no, wVar, wBin, wToB, wChain, wNotT, wAndT, wOrT, wAndV, wOrV, wNotV, wIf, wCons, wArgs, wConsO, wLs, wTp, wBinO, wUn, wUnO, wCut, wMove, wNext, wThen, wSet, wSetO, wTgt, wPairO, wDrop, wRetN, wBrk, wCont, wNever, wIfS, wAug, wFor, wBody, wCall, wLc, wLc2, wGen, wClause, startD, slO, wipeD, dPair, viewD, wLend, wLendT, wLendO, wThenJ, wPut, wPut1, wApp, wApp1, wCallK, wScr, wDefM, kids_ls, kids_rt, withK_ls, withK_rt, OT.val, OT.vals, atom, e_add, e_sub, e_lt, e_le, e_gt, e_ge, e_neg, e_int, pick, e_ix0, e_ix1, e_ix2, e_ix3, e_n30, e_n31, e_n20, e_n21, exists_and_left, List.length_cons, List.length_nil, List.map_cons, List.map_nil, List.replicate_zero, List.replicate_succ, List.append_nil, List.nil_append, List.cons_append, List.getElem?_cons_zero, List.getElem?_cons_succ, List.getElem?_nil, List.set_cons_zero, List.set_cons_succ, List.getD_cons_zero, List.getD_cons_succ, List.not_mem_nil, not_false_eq_true, Nat.zero_add, Nat.reduceAdd, Nat.reduceSub, Nat.sub_self, Nat.sub_zero, if_true, if_false, toB_bool, Option.map_some, Option.some.injEq, Sl.ow.injEq, Sl.d.injEq, OT.ls.injEq, OT.rt.injEq, PyData.int.injEq, exists_eq_left', exists_eq_left, true_and, and_true, Bool.false_eq_true, S1, S2, S3, S4, Option.bind_some, Option.bind_none]
      have hs1 : sortedP [0, 0] [[1, 1], [1]] = false := by decide
      refine ⟨by decide, by decide, by decide, by decide, [0, 0], [[1, 1], [1]], rfl, rfl, by decide, ?_⟩
      rw [hs1]
      simp only [wDef, wRet, wE, W.map, W.bind, W.ret, W.opt, W.ite, W.no, wVar, wBin, wToB, wChain, wNotT, wAndT, wOrT, wAndV, wOrV, wNotV, wIf, wCons, wArgs, wConsO, wLs, wTp, wBinO, wUn, wUnO, wCut, wMove, wNext, wThen, wSet, wSetO, wTgt, wPairO, wDrop, wRetN, wBrk, wCont, wNever, wIfS, wAug, wFor, wBody, wCall, wLc, wLc2, wGen, wClause, startD, slO, wipeD, dPair, viewD, wLend, wLendT, wLendO, wThenJ, wPut, wPut1, wApp, wApp1, wCallK, wScr, wDefM, kids_ls, kids_rt, withK_ls, withK_rt, OT.val, OT.vals, atom, e_add, e_sub, e_lt, e_le, e_gt, e_ge, e_neg, e_int, pick, e_ix0, e_ix1, e_ix2, e_ix3, e_n30, e_n31, e_n20, e_n21, exists_and_left, List.length_cons, List.length_nil, List.map_cons, List.map_nil, List.replicate_zero, List.replicate_succ, List.append_nil, List.nil_append, List.cons_append, List.getElem?_cons_zero, List.getElem?_cons_succ, List.getElem?_nil, List.set_cons_zero, List.set_cons_succ, List.getD_cons_zero, List.getD_cons_succ, List.not_mem_nil, not_false_eq_true, Nat.zero_add, Nat.reduceAdd, Nat.reduceSub, Nat.sub_self, Nat.sub_zero, if_true, if_false, toB_bool, Option.map_some, Option.some.injEq, Sl.ow.injEq, Sl.d.injEq, OT.ls.injEq, OT.rt.injEq, PyData.int.injEq, exists_eq_left', exists_eq_left, true_and, and_true, Bool.false_eq_true, S1, S2, S3, S4, Option.bind_some, Option.bind_none]
      refine ⟨by decide, by decide, by decide, by decide, [1, 0], [[2], [1, 3]], rfl, rfl, by decide, by decide, ?_⟩
      simp only [wDef, wRet, wE, W.map, W.bind, W.ret, W.opt, W.ite, W.no, wVar, wBin, wToB, wChain, wNotT, wAndT, wOrT, wAndV, wOrV, wNotV, wIf, wCons, wArgs, wConsO, wLs, wTp, wBinO, wUn, wUnO, wCut, wMove, wNext, wThen, wSet, wSetO, wTgt, wPairO, wDrop, wRetN, wBrk, wCont, wNever, wIfS, wAug, wFor, wBody, wCall, wLc, wLc2, wGen, wClause, startD, slO, wipeD, dPair, viewD, wLend, wLendT, wLendO, wThenJ, wPut, wPut1, wApp, wApp1, wCallK, wScr, wDefM, kids_ls, kids_rt, withK_ls, withK_rt, OT.val, OT.vals, atom, e_add, e_sub, e_lt, e_le, e_gt, e_ge, e_neg, e_int, pick, e_ix0, e_ix1, e_ix2, e_ix3, e_n30, e_n31, e_n20, e_n21, exists_and_left, List.length_cons, List.length_nil, List.map_cons, List.map_nil, List.replicate_zero, List.replicate_succ, List.append_nil, List.nil_append, List.cons_append, List.getElem?_cons_zero, List.getElem?_cons_succ, List.getElem?_nil, List.set_cons_zero, List.set_cons_succ, List.getD_cons_zero, List.getD_cons_succ, List.not_mem_nil, not_false_eq_true, Nat.zero_add, Nat.reduceAdd, Nat.reduceSub, Nat.sub_self, Nat.sub_zero, if_true, if_false, toB_bool, Option.map_some, Option.some.injEq, Sl.ow.injEq, Sl.d.injEq, OT.ls.injEq, OT.rt.injEq, PyData.int.injEq, exists_eq_left', exists_eq_left, true_and, and_true, Bool.false_eq_true, S1, S2, S3, S4, Option.bind_some, Option.bind_none]
      have hw : (intsO (wordOf [[2], [1, 3]])).val = intsD [1, 3, 2] := val_ints _
      rw [hw]
      exact ⟨by decide, _, eq_ints [1, 3, 2] [1, 3, 2], hP _⟩

end QD

set_option Elab.async false
set_option linter.all false
set_option maxRecDepth 100000
set_option maxHeartbeats 4000000
namespace QD
open PySem PySem.Spec PyProof.Rows L2 GxR XG
section
variable {l : PySem.W.OpenLaw} {w : World} {K : PySem.W.Frag} {h : Heap} {mg mb : Str → Option Value} {fa : Addr} {p : Program} {loose : List Str} {mean : ExcName → Option Value}
theorem FT_is_whole {f c : Addr} {od an : Option Addr} {sl : Array (Option Value)} {oc kV dc pm ct : Value} (lk : K.lookup f = some ⟨oc, od, .func (PySem.W.fnOf "is_whole" "is_whole" (defArgs (top 6)) (defBody (top 6)) (defScope (top 6)) .none kV dc pm an (.ref c) ct), sl⟩) (cd : PySem.W.codeIn K (.ref c) "is_whole" = true) (kp : PySem.W.keepIn K (.ref f) = true) :
    FunT K "is_whole" "is_whole" (top 6) f (PySem.W.fnOf "is_whole" "is_whole" (defArgs (top 6)) (defBody (top 6)) (defScope (top 6)) .none kV dc pm an (.ref c) ct) c := ⟨⟨oc, od, kV, dc, pm, an, ct, sl, rfl, lk, cd⟩, kp⟩
theorem FT_are_whole {f c : Addr} {od an : Option Addr} {sl : Array (Option Value)} {oc kV dc pm ct : Value} (lk : K.lookup f = some ⟨oc, od, .func (PySem.W.fnOf "are_whole" "are_whole" (defArgs (top 7)) (defBody (top 7)) (defScope (top 7)) .none kV dc pm an (.ref c) ct), sl⟩) (cd : PySem.W.codeIn K (.ref c) "are_whole" = true) (kp : PySem.W.keepIn K (.ref f) = true) :
    FunT K "are_whole" "are_whole" (top 7) f (PySem.W.fnOf "are_whole" "are_whole" (defArgs (top 7)) (defBody (top 7)) (defScope (top 7)) .none kV dc pm an (.ref c) ct) c := ⟨⟨oc, od, kV, dc, pm, an, ct, sl, rfl, lk, cd⟩, kp⟩
theorem FT_is_short_list {f c : Addr} {od an : Option Addr} {sl : Array (Option Value)} {oc kV dc pm ct : Value} (lk : K.lookup f = some ⟨oc, od, .func (PySem.W.fnOf "is_short_list" "is_short_list" (defArgs (top 8)) (defBody (top 8)) (defScope (top 8)) .none kV dc pm an (.ref c) ct), sl⟩) (cd : PySem.W.codeIn K (.ref c) "is_short_list" = true) (kp : PySem.W.keepIn K (.ref f) = true) :
    FunT K "is_short_list" "is_short_list" (top 8) f (PySem.W.fnOf "is_short_list" "is_short_list" (defArgs (top 8)) (defBody (top 8)) (defScope (top 8)) .none kV dc pm an (.ref c) ct) c := ⟨⟨oc, od, kV, dc, pm, an, ct, sl, rfl, lk, cd⟩, kp⟩
theorem FT_first_out_of_line {f c : Addr} {od an : Option Addr} {sl : Array (Option Value)} {oc kV dc pm ct : Value} (lk : K.lookup f = some ⟨oc, od, .func (PySem.W.fnOf "first_out_of_line" "first_out_of_line" (defArgs (top 9)) (defBody (top 9)) (defScope (top 9)) .none kV dc pm an (.ref c) ct), sl⟩) (cd : PySem.W.codeIn K (.ref c) "first_out_of_line" = true) (kp : PySem.W.keepIn K (.ref f) = true) :
    FunT K "first_out_of_line" "first_out_of_line" (top 9) f (PySem.W.fnOf "first_out_of_line" "first_out_of_line" (defArgs (top 9)) (defBody (top 9)) (defScope (top 9)) .none kV dc pm an (.ref c) ct) c := ⟨⟨oc, od, kV, dc, pm, an, ct, sl, rfl, lk, cd⟩, kp⟩
theorem FT_check_missing {f c : Addr} {od an : Option Addr} {sl : Array (Option Value)} {oc kV dc pm ct : Value} (lk : K.lookup f = some ⟨oc, od, .func (PySem.W.fnOf "check_missing" "check_missing" (defArgs (top 10)) (defBody (top 10)) (defScope (top 10)) .none kV dc pm an (.ref c) ct), sl⟩) (cd : PySem.W.codeIn K (.ref c) "check_missing" = true) (kp : PySem.W.keepIn K (.ref f) = true) :
    FunT K "check_missing" "check_missing" (top 10) f (PySem.W.fnOf "check_missing" "check_missing" (defArgs (top 10)) (defBody (top 10)) (defScope (top 10)) .none kV dc pm an (.ref c) ct) c := ⟨⟨oc, od, kV, dc, pm, an, ct, sl, rfl, lk, cd⟩, kp⟩
theorem FT_check_rows_beside {f c : Addr} {od an : Option Addr} {sl : Array (Option Value)} {oc kV dc pm ct : Value} (lk : K.lookup f = some ⟨oc, od, .func (PySem.W.fnOf "check_rows_beside" "check_rows_beside" (defArgs (top 11)) (defBody (top 11)) (defScope (top 11)) .none kV dc pm an (.ref c) ct), sl⟩) (cd : PySem.W.codeIn K (.ref c) "check_rows_beside" = true) (kp : PySem.W.keepIn K (.ref f) = true) :
    FunT K "check_rows_beside" "check_rows_beside" (top 11) f (PySem.W.fnOf "check_rows_beside" "check_rows_beside" (defArgs (top 11)) (defBody (top 11)) (defScope (top 11)) .none kV dc pm an (.ref c) ct) c := ⟨⟨oc, od, kV, dc, pm, an, ct, sl, rfl, lk, cd⟩, kp⟩
theorem FT_check_ascending {f c : Addr} {od an : Option Addr} {sl : Array (Option Value)} {oc kV dc pm ct : Value} (lk : K.lookup f = some ⟨oc, od, .func (PySem.W.fnOf "check_ascending" "check_ascending" (defArgs (top 12)) (defBody (top 12)) (defScope (top 12)) .none kV dc pm an (.ref c) ct), sl⟩) (cd : PySem.W.codeIn K (.ref c) "check_ascending" = true) (kp : PySem.W.keepIn K (.ref f) = true) :
    FunT K "check_ascending" "check_ascending" (top 12) f (PySem.W.fnOf "check_ascending" "check_ascending" (defArgs (top 12)) (defBody (top 12)) (defScope (top 12)) .none kV dc pm an (.ref c) ct) c := ⟨⟨oc, od, kV, dc, pm, an, ct, sl, rfl, lk, cd⟩, kp⟩
theorem FT_check_piece {f c : Addr} {od an : Option Addr} {sl : Array (Option Value)} {oc kV dc pm ct : Value} (lk : K.lookup f = some ⟨oc, od, .func (PySem.W.fnOf "check_piece" "check_piece" (defArgs (top 13)) (defBody (top 13)) (defScope (top 13)) .none kV dc pm an (.ref c) ct), sl⟩) (cd : PySem.W.codeIn K (.ref c) "check_piece" = true) (kp : PySem.W.keepIn K (.ref f) = true) :
    FunT K "check_piece" "check_piece" (top 13) f (PySem.W.fnOf "check_piece" "check_piece" (defArgs (top 13)) (defBody (top 13)) (defScope (top 13)) .none kV dc pm an (.ref c) ct) c := ⟨⟨oc, od, kV, dc, pm, an, ct, sl, rfl, lk, cd⟩, kp⟩
theorem FT_check_sorted_piece {f c : Addr} {od an : Option Addr} {sl : Array (Option Value)} {oc kV dc pm ct : Value} (lk : K.lookup f = some ⟨oc, od, .func (PySem.W.fnOf "check_sorted_piece" "check_sorted_piece" (defArgs (top 14)) (defBody (top 14)) (defScope (top 14)) .none kV dc pm an (.ref c) ct), sl⟩) (cd : PySem.W.codeIn K (.ref c) "check_sorted_piece" = true) (kp : PySem.W.keepIn K (.ref f) = true) :
    FunT K "check_sorted_piece" "check_sorted_piece" (top 14) f (PySem.W.fnOf "check_sorted_piece" "check_sorted_piece" (defArgs (top 14)) (defBody (top 14)) (defScope (top 14)) .none kV dc pm an (.ref c) ct) c := ⟨⟨oc, od, kV, dc, pm, an, ct, sl, rfl, lk, cd⟩, kp⟩
theorem FT_first_unsorted {f c : Addr} {od an : Option Addr} {sl : Array (Option Value)} {oc kV dc pm ct : Value} (lk : K.lookup f = some ⟨oc, od, .func (PySem.W.fnOf "first_unsorted" "first_unsorted" (defArgs (top 15)) (defBody (top 15)) (defScope (top 15)) .none kV dc pm an (.ref c) ct), sl⟩) (cd : PySem.W.codeIn K (.ref c) "first_unsorted" = true) (kp : PySem.W.keepIn K (.ref f) = true) :
    FunT K "first_unsorted" "first_unsorted" (top 15) f (PySem.W.fnOf "first_unsorted" "first_unsorted" (defArgs (top 15)) (defBody (top 15)) (defScope (top 15)) .none kV dc pm an (.ref c) ct) c := ⟨⟨oc, od, kV, dc, pm, an, ct, sl, rfl, lk, cd⟩, kp⟩
theorem FT_falls_along {f c : Addr} {od an : Option Addr} {sl : Array (Option Value)} {oc kV dc pm ct : Value} (lk : K.lookup f = some ⟨oc, od, .func (PySem.W.fnOf "falls_along" "falls_along" (defArgs (top 16)) (defBody (top 16)) (defScope (top 16)) .none kV dc pm an (.ref c) ct), sl⟩) (cd : PySem.W.codeIn K (.ref c) "falls_along" = true) (kp : PySem.W.keepIn K (.ref f) = true) :
    FunT K "falls_along" "falls_along" (top 16) f (PySem.W.fnOf "falls_along" "falls_along" (defArgs (top 16)) (defBody (top 16)) (defScope (top 16)) .none kV dc pm an (.ref c) ct) c := ⟨⟨oc, od, kV, dc, pm, an, ct, sl, rfl, lk, cd⟩, kp⟩
theorem FT_fails_below {f c : Addr} {od an : Option Addr} {sl : Array (Option Value)} {oc kV dc pm ct : Value} (lk : K.lookup f = some ⟨oc, od, .func (PySem.W.fnOf "fails_below" "fails_below" (defArgs (top 17)) (defBody (top 17)) (defScope (top 17)) .none kV dc pm an (.ref c) ct), sl⟩) (cd : PySem.W.codeIn K (.ref c) "fails_below" = true) (kp : PySem.W.keepIn K (.ref f) = true) :
    FunT K "fails_below" "fails_below" (top 17) f (PySem.W.fnOf "fails_below" "fails_below" (defArgs (top 17)) (defBody (top 17)) (defScope (top 17)) .none kV dc pm an (.ref c) ct) c := ⟨⟨oc, od, kV, dc, pm, an, ct, sl, rfl, lk, cd⟩, kp⟩
theorem FT_is_sorted {f c : Addr} {od an : Option Addr} {sl : Array (Option Value)} {oc kV dc pm ct : Value} (lk : K.lookup f = some ⟨oc, od, .func (PySem.W.fnOf "is_sorted" "is_sorted" (defArgs (top 19)) (defBody (top 19)) (defScope (top 19)) .none kV dc pm an (.ref c) ct), sl⟩) (cd : PySem.W.codeIn K (.ref c) "is_sorted" = true) (kp : PySem.W.keepIn K (.ref f) = true) :
    FunT K "is_sorted" "is_sorted" (top 19) f (PySem.W.fnOf "is_sorted" "is_sorted" (defArgs (top 19)) (defBody (top 19)) (defScope (top 19)) .none kV dc pm an (.ref c) ct) c := ⟨⟨oc, od, kV, dc, pm, an, ct, sl, rfl, lk, cd⟩, kp⟩
theorem FT_word_of {f c : Addr} {od an : Option Addr} {sl : Array (Option Value)} {oc kV dc pm ct : Value} (lk : K.lookup f = some ⟨oc, od, .func (PySem.W.fnOf "word_of" "word_of" (defArgs (top 20)) (defBody (top 20)) (defScope (top 20)) .none kV dc pm an (.ref c) ct), sl⟩) (cd : PySem.W.codeIn K (.ref c) "word_of" = true) (kp : PySem.W.keepIn K (.ref f) = true) :
    FunT K "word_of" "word_of" (top 20) f (PySem.W.fnOf "word_of" "word_of" (defArgs (top 20)) (defBody (top 20)) (defScope (top 20)) .none kV dc pm an (.ref c) ct) c := ⟨⟨oc, od, kV, dc, pm, an, ct, sl, rfl, lk, cd⟩, kp⟩
theorem FT__law_draws {f c : Addr} {od an : Option Addr} {sl : Array (Option Value)} {oc kV dc pm ct : Value} (lk : K.lookup f = some ⟨oc, od, .func (PySem.W.fnOf "_law_draws" "_law_draws" (defArgs (top 22)) (defBody (top 22)) (defScope (top 22)) .none kV dc pm an (.ref c) ct), sl⟩) (cd : PySem.W.codeIn K (.ref c) "_law_draws" = true) (kp : PySem.W.keepIn K (.ref f) = true) :
    FunT K "_law_draws" "_law_draws" (top 22) f (PySem.W.fnOf "_law_draws" "_law_draws" (defArgs (top 22)) (defBody (top 22)) (defScope (top 22)) .none kV dc pm an (.ref c) ct) c := ⟨⟨oc, od, kV, dc, pm, an, ct, sl, rfl, lk, cd⟩, kp⟩
theorem FT__law_next {f c : Addr} {od an : Option Addr} {sl : Array (Option Value)} {oc kV dc pm ct : Value} (lk : K.lookup f = some ⟨oc, od, .func (PySem.W.fnOf "_law_next" "_law_next" (defArgs (top 23)) (defBody (top 23)) (defScope (top 23)) .none kV dc pm an (.ref c) ct), sl⟩) (cd : PySem.W.codeIn K (.ref c) "_law_next" = true) (kp : PySem.W.keepIn K (.ref f) = true) :
    FunT K "_law_next" "_law_next" (top 23) f (PySem.W.fnOf "_law_next" "_law_next" (defArgs (top 23)) (defBody (top 23)) (defScope (top 23)) .none kV dc pm an (.ref c) ct) c := ⟨⟨oc, od, kV, dc, pm, an, ct, sl, rfl, lk, cd⟩, kp⟩
theorem FT__law_shape {f c : Addr} {od an : Option Addr} {sl : Array (Option Value)} {oc kV dc pm ct : Value} (lk : K.lookup f = some ⟨oc, od, .func (PySem.W.fnOf "_law_shape" "_law_shape" (defArgs (top 24)) (defBody (top 24)) (defScope (top 24)) .none kV dc pm an (.ref c) ct), sl⟩) (cd : PySem.W.codeIn K (.ref c) "_law_shape" = true) (kp : PySem.W.keepIn K (.ref f) = true) :
    FunT K "_law_shape" "_law_shape" (top 24) f (PySem.W.fnOf "_law_shape" "_law_shape" (defArgs (top 24)) (defBody (top 24)) (defScope (top 24)) .none kV dc pm an (.ref c) ct) c := ⟨⟨oc, od, kV, dc, pm, an, ct, sl, rfl, lk, cd⟩, kp⟩
theorem FT__law_within {f c : Addr} {od an : Option Addr} {sl : Array (Option Value)} {oc kV dc pm ct : Value} (lk : K.lookup f = some ⟨oc, od, .func (PySem.W.fnOf "_law_within" "_law_within" (defArgs (top 25)) (defBody (top 25)) (defScope (top 25)) .none kV dc pm an (.ref c) ct), sl⟩) (cd : PySem.W.codeIn K (.ref c) "_law_within" = true) (kp : PySem.W.keepIn K (.ref f) = true) :
    FunT K "_law_within" "_law_within" (top 25) f (PySem.W.fnOf "_law_within" "_law_within" (defArgs (top 25)) (defBody (top 25)) (defScope (top 25)) .none kV dc pm an (.ref c) ct) c := ⟨⟨oc, od, kV, dc, pm, an, ct, sl, rfl, lk, cd⟩, kp⟩
theorem FT__law_look {f c : Addr} {od an : Option Addr} {sl : Array (Option Value)} {oc kV dc pm ct : Value} (lk : K.lookup f = some ⟨oc, od, .func (PySem.W.fnOf "_law_look" "_law_look" (defArgs (top 26)) (defBody (top 26)) (defScope (top 26)) .none kV dc pm an (.ref c) ct), sl⟩) (cd : PySem.W.codeIn K (.ref c) "_law_look" = true) (kp : PySem.W.keepIn K (.ref f) = true) :
    FunT K "_law_look" "_law_look" (top 26) f (PySem.W.fnOf "_law_look" "_law_look" (defArgs (top 26)) (defBody (top 26)) (defScope (top 26)) .none kV dc pm an (.ref c) ct) c := ⟨⟨oc, od, kV, dc, pm, an, ct, sl, rfl, lk, cd⟩, kp⟩
theorem FT__law_piece {f c : Addr} {od an : Option Addr} {sl : Array (Option Value)} {oc kV dc pm ct : Value} (lk : K.lookup f = some ⟨oc, od, .func (PySem.W.fnOf "_law_piece" "_law_piece" (defArgs (top 27)) (defBody (top 27)) (defScope (top 27)) .none kV dc pm an (.ref c) ct), sl⟩) (cd : PySem.W.codeIn K (.ref c) "_law_piece" = true) (kp : PySem.W.keepIn K (.ref f) = true) :
    FunT K "_law_piece" "_law_piece" (top 27) f (PySem.W.fnOf "_law_piece" "_law_piece" (defArgs (top 27)) (defBody (top 27)) (defScope (top 27)) .none kV dc pm an (.ref c) ct) c := ⟨⟨oc, od, kV, dc, pm, an, ct, sl, rfl, lk, cd⟩, kp⟩
theorem FT__law_good {f c : Addr} {od an : Option Addr} {sl : Array (Option Value)} {oc kV dc pm ct : Value} (lk : K.lookup f = some ⟨oc, od, .func (PySem.W.fnOf "_law_good" "_law_good" (defArgs (top 28)) (defBody (top 28)) (defScope (top 28)) .none kV dc pm an (.ref c) ct), sl⟩) (cd : PySem.W.codeIn K (.ref c) "_law_good" = true) (kp : PySem.W.keepIn K (.ref f) = true) :
    FunT K "_law_good" "_law_good" (top 28) f (PySem.W.fnOf "_law_good" "_law_good" (defArgs (top 28)) (defBody (top 28)) (defScope (top 28)) .none kV dc pm an (.ref c) ct) c := ⟨⟨oc, od, kV, dc, pm, an, ct, sl, rfl, lk, cd⟩, kp⟩
theorem FT__law_right {f c : Addr} {od an : Option Addr} {sl : Array (Option Value)} {oc kV dc pm ct : Value} (lk : K.lookup f = some ⟨oc, od, .func (PySem.W.fnOf "_law_right" "_law_right" (defArgs (top 29)) (defBody (top 29)) (defScope (top 29)) .none kV dc pm an (.ref c) ct), sl⟩) (cd : PySem.W.codeIn K (.ref c) "_law_right" = true) (kp : PySem.W.keepIn K (.ref f) = true) :
    FunT K "_law_right" "_law_right" (top 29) f (PySem.W.fnOf "_law_right" "_law_right" (defArgs (top 29)) (defBody (top 29)) (defScope (top 29)) .none kV dc pm an (.ref c) ct) c := ⟨⟨oc, od, kV, dc, pm, an, ct, sl, rfl, lk, cd⟩, kp⟩
theorem FT_law {f c : Addr} {od an : Option Addr} {sl : Array (Option Value)} {oc kV dc pm ct : Value} (lk : K.lookup f = some ⟨oc, od, .func (PySem.W.fnOf "law" "law" (defArgs (top 30)) (defBody (top 30)) (defScope (top 30)) .none kV dc pm an (.ref c) ct), sl⟩) (cd : PySem.W.codeIn K (.ref c) "law" = true) (kp : PySem.W.keepIn K (.ref f) = true) :
    FunT K "law" "law" (top 30) f (PySem.W.fnOf "law" "law" (defArgs (top 30)) (defBody (top 30)) (defScope (top 30)) .none kV dc pm an (.ref c) ct) c := ⟨⟨oc, od, kV, dc, pm, an, ct, sl, rfl, lk, cd⟩, kp⟩
theorem all_mk (X : K.In h) (G : h.Ns mainGlobals mg) (hfa : mg "law" = some (.ref fa)) (T0 : Top p loose mean mg mb h)
    {f0 c0 : Addr} {od0 an0 : Option Addr} {sl0 : Array (Option Value)} {oc0 kV0 dc0 pm0 ct0 : Value} (a0 : PySem.W.nsIn K mainGlobals "is_whole" = some (some (.ref f0))) (l0 : K.lookup f0 = some ⟨oc0, od0, .func (PySem.W.fnOf "is_whole" "is_whole" (defArgs (top 6)) (defBody (top 6)) (defScope (top 6)) .none kV0 dc0 pm0 an0 (.ref c0) ct0), sl0⟩) (e0 : PySem.W.codeIn K (.ref c0) "is_whole" = true) (k0 : PySem.W.keepIn K (.ref f0) = true)
    {f1 c1 : Addr} {od1 an1 : Option Addr} {sl1 : Array (Option Value)} {oc1 kV1 dc1 pm1 ct1 : Value} (a1 : PySem.W.nsIn K mainGlobals "are_whole" = some (some (.ref f1))) (l1 : K.lookup f1 = some ⟨oc1, od1, .func (PySem.W.fnOf "are_whole" "are_whole" (defArgs (top 7)) (defBody (top 7)) (defScope (top 7)) .none kV1 dc1 pm1 an1 (.ref c1) ct1), sl1⟩) (e1 : PySem.W.codeIn K (.ref c1) "are_whole" = true) (k1 : PySem.W.keepIn K (.ref f1) = true)
    {P1 : Addr} {ce1 : Value} {cd1 : Option Addr} {cv1 : Array Value} {cs1 : Array (Option Value)} (t1 : K.lookup c1 = some ⟨ce1, cd1, .fields cv1, cs1⟩) (v1 : cv1[11]? = some (.ref P1)) (u1 : K.lookup P1 = none) (r1 : ((recsOf p).any fun e => e.name == ("are_whole" : Str)) = true)
    {f2 c2 : Addr} {od2 an2 : Option Addr} {sl2 : Array (Option Value)} {oc2 kV2 dc2 pm2 ct2 : Value} (a2 : PySem.W.nsIn K mainGlobals "is_short_list" = some (some (.ref f2))) (l2 : K.lookup f2 = some ⟨oc2, od2, .func (PySem.W.fnOf "is_short_list" "is_short_list" (defArgs (top 8)) (defBody (top 8)) (defScope (top 8)) .none kV2 dc2 pm2 an2 (.ref c2) ct2), sl2⟩) (e2 : PySem.W.codeIn K (.ref c2) "is_short_list" = true) (k2 : PySem.W.keepIn K (.ref f2) = true)
    {f3 c3 : Addr} {od3 an3 : Option Addr} {sl3 : Array (Option Value)} {oc3 kV3 dc3 pm3 ct3 : Value} (a3 : PySem.W.nsIn K mainGlobals "first_out_of_line" = some (some (.ref f3))) (l3 : K.lookup f3 = some ⟨oc3, od3, .func (PySem.W.fnOf "first_out_of_line" "first_out_of_line" (defArgs (top 9)) (defBody (top 9)) (defScope (top 9)) .none kV3 dc3 pm3 an3 (.ref c3) ct3), sl3⟩) (e3 : PySem.W.codeIn K (.ref c3) "first_out_of_line" = true) (k3 : PySem.W.keepIn K (.ref f3) = true)
    {f4 c4 : Addr} {od4 an4 : Option Addr} {sl4 : Array (Option Value)} {oc4 kV4 dc4 pm4 ct4 : Value} (a4 : PySem.W.nsIn K mainGlobals "check_missing" = some (some (.ref f4))) (l4 : K.lookup f4 = some ⟨oc4, od4, .func (PySem.W.fnOf "check_missing" "check_missing" (defArgs (top 10)) (defBody (top 10)) (defScope (top 10)) .none kV4 dc4 pm4 an4 (.ref c4) ct4), sl4⟩) (e4 : PySem.W.codeIn K (.ref c4) "check_missing" = true) (k4 : PySem.W.keepIn K (.ref f4) = true)
    {f5 c5 : Addr} {od5 an5 : Option Addr} {sl5 : Array (Option Value)} {oc5 kV5 dc5 pm5 ct5 : Value} (a5 : PySem.W.nsIn K mainGlobals "check_rows_beside" = some (some (.ref f5))) (l5 : K.lookup f5 = some ⟨oc5, od5, .func (PySem.W.fnOf "check_rows_beside" "check_rows_beside" (defArgs (top 11)) (defBody (top 11)) (defScope (top 11)) .none kV5 dc5 pm5 an5 (.ref c5) ct5), sl5⟩) (e5 : PySem.W.codeIn K (.ref c5) "check_rows_beside" = true) (k5 : PySem.W.keepIn K (.ref f5) = true)
    {f6 c6 : Addr} {od6 an6 : Option Addr} {sl6 : Array (Option Value)} {oc6 kV6 dc6 pm6 ct6 : Value} (a6 : PySem.W.nsIn K mainGlobals "check_ascending" = some (some (.ref f6))) (l6 : K.lookup f6 = some ⟨oc6, od6, .func (PySem.W.fnOf "check_ascending" "check_ascending" (defArgs (top 12)) (defBody (top 12)) (defScope (top 12)) .none kV6 dc6 pm6 an6 (.ref c6) ct6), sl6⟩) (e6 : PySem.W.codeIn K (.ref c6) "check_ascending" = true) (k6 : PySem.W.keepIn K (.ref f6) = true)
    {f7 c7 : Addr} {od7 an7 : Option Addr} {sl7 : Array (Option Value)} {oc7 kV7 dc7 pm7 ct7 : Value} (a7 : PySem.W.nsIn K mainGlobals "check_piece" = some (some (.ref f7))) (l7 : K.lookup f7 = some ⟨oc7, od7, .func (PySem.W.fnOf "check_piece" "check_piece" (defArgs (top 13)) (defBody (top 13)) (defScope (top 13)) .none kV7 dc7 pm7 an7 (.ref c7) ct7), sl7⟩) (e7 : PySem.W.codeIn K (.ref c7) "check_piece" = true) (k7 : PySem.W.keepIn K (.ref f7) = true)
    {f8 c8 : Addr} {od8 an8 : Option Addr} {sl8 : Array (Option Value)} {oc8 kV8 dc8 pm8 ct8 : Value} (a8 : PySem.W.nsIn K mainGlobals "check_sorted_piece" = some (some (.ref f8))) (l8 : K.lookup f8 = some ⟨oc8, od8, .func (PySem.W.fnOf "check_sorted_piece" "check_sorted_piece" (defArgs (top 14)) (defBody (top 14)) (defScope (top 14)) .none kV8 dc8 pm8 an8 (.ref c8) ct8), sl8⟩) (e8 : PySem.W.codeIn K (.ref c8) "check_sorted_piece" = true) (k8 : PySem.W.keepIn K (.ref f8) = true)
    {f9 c9 : Addr} {od9 an9 : Option Addr} {sl9 : Array (Option Value)} {oc9 kV9 dc9 pm9 ct9 : Value} (a9 : PySem.W.nsIn K mainGlobals "first_unsorted" = some (some (.ref f9))) (l9 : K.lookup f9 = some ⟨oc9, od9, .func (PySem.W.fnOf "first_unsorted" "first_unsorted" (defArgs (top 15)) (defBody (top 15)) (defScope (top 15)) .none kV9 dc9 pm9 an9 (.ref c9) ct9), sl9⟩) (e9 : PySem.W.codeIn K (.ref c9) "first_unsorted" = true) (k9 : PySem.W.keepIn K (.ref f9) = true)
    {f10 c10 : Addr} {od10 an10 : Option Addr} {sl10 : Array (Option Value)} {oc10 kV10 dc10 pm10 ct10 : Value} (a10 : PySem.W.nsIn K mainGlobals "falls_along" = some (some (.ref f10))) (l10 : K.lookup f10 = some ⟨oc10, od10, .func (PySem.W.fnOf "falls_along" "falls_along" (defArgs (top 16)) (defBody (top 16)) (defScope (top 16)) .none kV10 dc10 pm10 an10 (.ref c10) ct10), sl10⟩) (e10 : PySem.W.codeIn K (.ref c10) "falls_along" = true) (k10 : PySem.W.keepIn K (.ref f10) = true)
    {P10 : Addr} {ce10 : Value} {cd10 : Option Addr} {cv10 : Array Value} {cs10 : Array (Option Value)} (t10 : K.lookup c10 = some ⟨ce10, cd10, .fields cv10, cs10⟩) (v10 : cv10[11]? = some (.ref P10)) (u10 : K.lookup P10 = none) (r10 : ((recsOf p).any fun e => e.name == ("falls_along" : Str)) = true)
    {f11 c11 : Addr} {od11 an11 : Option Addr} {sl11 : Array (Option Value)} {oc11 kV11 dc11 pm11 ct11 : Value} (a11 : PySem.W.nsIn K mainGlobals "fails_below" = some (some (.ref f11))) (l11 : K.lookup f11 = some ⟨oc11, od11, .func (PySem.W.fnOf "fails_below" "fails_below" (defArgs (top 17)) (defBody (top 17)) (defScope (top 17)) .none kV11 dc11 pm11 an11 (.ref c11) ct11), sl11⟩) (e11 : PySem.W.codeIn K (.ref c11) "fails_below" = true) (k11 : PySem.W.keepIn K (.ref f11) = true)
    {P11 : Addr} {ce11 : Value} {cd11 : Option Addr} {cv11 : Array Value} {cs11 : Array (Option Value)} (t11 : K.lookup c11 = some ⟨ce11, cd11, .fields cv11, cs11⟩) (v11 : cv11[11]? = some (.ref P11)) (u11 : K.lookup P11 = none) (r11 : ((recsOf p).any fun e => e.name == ("fails_below" : Str)) = true)
    {f12 c12 : Addr} {od12 an12 : Option Addr} {sl12 : Array (Option Value)} {oc12 kV12 dc12 pm12 ct12 : Value} (a12 : PySem.W.nsIn K mainGlobals "is_sorted" = some (some (.ref f12))) (l12 : K.lookup f12 = some ⟨oc12, od12, .func (PySem.W.fnOf "is_sorted" "is_sorted" (defArgs (top 19)) (defBody (top 19)) (defScope (top 19)) .none kV12 dc12 pm12 an12 (.ref c12) ct12), sl12⟩) (e12 : PySem.W.codeIn K (.ref c12) "is_sorted" = true) (k12 : PySem.W.keepIn K (.ref f12) = true)
    {f13 c13 : Addr} {od13 an13 : Option Addr} {sl13 : Array (Option Value)} {oc13 kV13 dc13 pm13 ct13 : Value} (a13 : PySem.W.nsIn K mainGlobals "word_of" = some (some (.ref f13))) (l13 : K.lookup f13 = some ⟨oc13, od13, .func (PySem.W.fnOf "word_of" "word_of" (defArgs (top 20)) (defBody (top 20)) (defScope (top 20)) .none kV13 dc13 pm13 an13 (.ref c13) ct13), sl13⟩) (e13 : PySem.W.codeIn K (.ref c13) "word_of" = true) (k13 : PySem.W.keepIn K (.ref f13) = true)
    {f14 c14 : Addr} {od14 an14 : Option Addr} {sl14 : Array (Option Value)} {oc14 kV14 dc14 pm14 ct14 : Value} (a14 : PySem.W.nsIn K mainGlobals "_law_draws" = some (some (.ref f14))) (l14 : K.lookup f14 = some ⟨oc14, od14, .func (PySem.W.fnOf "_law_draws" "_law_draws" (defArgs (top 22)) (defBody (top 22)) (defScope (top 22)) .none kV14 dc14 pm14 an14 (.ref c14) ct14), sl14⟩) (e14 : PySem.W.codeIn K (.ref c14) "_law_draws" = true) (k14 : PySem.W.keepIn K (.ref f14) = true)
    {f15 c15 : Addr} {od15 an15 : Option Addr} {sl15 : Array (Option Value)} {oc15 kV15 dc15 pm15 ct15 : Value} (a15 : PySem.W.nsIn K mainGlobals "_law_next" = some (some (.ref f15))) (l15 : K.lookup f15 = some ⟨oc15, od15, .func (PySem.W.fnOf "_law_next" "_law_next" (defArgs (top 23)) (defBody (top 23)) (defScope (top 23)) .none kV15 dc15 pm15 an15 (.ref c15) ct15), sl15⟩) (e15 : PySem.W.codeIn K (.ref c15) "_law_next" = true) (k15 : PySem.W.keepIn K (.ref f15) = true)
    {f16 c16 : Addr} {od16 an16 : Option Addr} {sl16 : Array (Option Value)} {oc16 kV16 dc16 pm16 ct16 : Value} (a16 : PySem.W.nsIn K mainGlobals "_law_shape" = some (some (.ref f16))) (l16 : K.lookup f16 = some ⟨oc16, od16, .func (PySem.W.fnOf "_law_shape" "_law_shape" (defArgs (top 24)) (defBody (top 24)) (defScope (top 24)) .none kV16 dc16 pm16 an16 (.ref c16) ct16), sl16⟩) (e16 : PySem.W.codeIn K (.ref c16) "_law_shape" = true) (k16 : PySem.W.keepIn K (.ref f16) = true)
    {f17 c17 : Addr} {od17 an17 : Option Addr} {sl17 : Array (Option Value)} {oc17 kV17 dc17 pm17 ct17 : Value} (a17 : PySem.W.nsIn K mainGlobals "_law_within" = some (some (.ref f17))) (l17 : K.lookup f17 = some ⟨oc17, od17, .func (PySem.W.fnOf "_law_within" "_law_within" (defArgs (top 25)) (defBody (top 25)) (defScope (top 25)) .none kV17 dc17 pm17 an17 (.ref c17) ct17), sl17⟩) (e17 : PySem.W.codeIn K (.ref c17) "_law_within" = true) (k17 : PySem.W.keepIn K (.ref f17) = true)
    {f18 c18 : Addr} {od18 an18 : Option Addr} {sl18 : Array (Option Value)} {oc18 kV18 dc18 pm18 ct18 : Value} (a18 : PySem.W.nsIn K mainGlobals "_law_look" = some (some (.ref f18))) (l18 : K.lookup f18 = some ⟨oc18, od18, .func (PySem.W.fnOf "_law_look" "_law_look" (defArgs (top 26)) (defBody (top 26)) (defScope (top 26)) .none kV18 dc18 pm18 an18 (.ref c18) ct18), sl18⟩) (e18 : PySem.W.codeIn K (.ref c18) "_law_look" = true) (k18 : PySem.W.keepIn K (.ref f18) = true)
    {f19 c19 : Addr} {od19 an19 : Option Addr} {sl19 : Array (Option Value)} {oc19 kV19 dc19 pm19 ct19 : Value} (a19 : PySem.W.nsIn K mainGlobals "_law_piece" = some (some (.ref f19))) (l19 : K.lookup f19 = some ⟨oc19, od19, .func (PySem.W.fnOf "_law_piece" "_law_piece" (defArgs (top 27)) (defBody (top 27)) (defScope (top 27)) .none kV19 dc19 pm19 an19 (.ref c19) ct19), sl19⟩) (e19 : PySem.W.codeIn K (.ref c19) "_law_piece" = true) (k19 : PySem.W.keepIn K (.ref f19) = true)
    {f20 c20 : Addr} {od20 an20 : Option Addr} {sl20 : Array (Option Value)} {oc20 kV20 dc20 pm20 ct20 : Value} (a20 : PySem.W.nsIn K mainGlobals "_law_good" = some (some (.ref f20))) (l20 : K.lookup f20 = some ⟨oc20, od20, .func (PySem.W.fnOf "_law_good" "_law_good" (defArgs (top 28)) (defBody (top 28)) (defScope (top 28)) .none kV20 dc20 pm20 an20 (.ref c20) ct20), sl20⟩) (e20 : PySem.W.codeIn K (.ref c20) "_law_good" = true) (k20 : PySem.W.keepIn K (.ref f20) = true)
    {f21 c21 : Addr} {od21 an21 : Option Addr} {sl21 : Array (Option Value)} {oc21 kV21 dc21 pm21 ct21 : Value} (a21 : PySem.W.nsIn K mainGlobals "_law_right" = some (some (.ref f21))) (l21 : K.lookup f21 = some ⟨oc21, od21, .func (PySem.W.fnOf "_law_right" "_law_right" (defArgs (top 29)) (defBody (top 29)) (defScope (top 29)) .none kV21 dc21 pm21 an21 (.ref c21) ct21), sl21⟩) (e21 : PySem.W.codeIn K (.ref c21) "_law_right" = true) (k21 : PySem.W.keepIn K (.ref f21) = true)
    {f22 c22 : Addr} {od22 an22 : Option Addr} {sl22 : Array (Option Value)} {oc22 kV22 dc22 pm22 ct22 : Value} (a22 : PySem.W.nsIn K mainGlobals "law" = some (some (.ref f22))) (l22 : K.lookup f22 = some ⟨oc22, od22, .func (PySem.W.fnOf "law" "law" (defArgs (top 30)) (defBody (top 30)) (defScope (top 30)) .none kV22 dc22 pm22 an22 (.ref c22) ct22), sl22⟩) (e22 : PySem.W.codeIn K (.ref c22) "law" = true) (k22 : PySem.W.keepIn K (.ref f22) = true)
    {tkMOST : Tok} (cMOST : PySem.W.nsIn K mainGlobals "MOST" = some (some (.int 8 tkMOST)))
    (z_all : PySem.W.nsIn K mainGlobals "all" = some none)
    (z_any : PySem.W.nsIn K mainGlobals "any" = some none)
    (z_bool : PySem.W.nsIn K mainGlobals "bool" = some none)
    (z_enumerate : PySem.W.nsIn K mainGlobals "enumerate" = some none)
    (z_int : PySem.W.nsIn K mainGlobals "int" = some none)
    (z_isinstance : PySem.W.nsIn K mainGlobals "isinstance" = some none)
    (z_len : PySem.W.nsIn K mainGlobals "len" = some none)
    (z_list : PySem.W.nsIn K mainGlobals "list" = some none)
    (z_max : PySem.W.nsIn K mainGlobals "max" = some none)
    (z_min : PySem.W.nsIn K mainGlobals "min" = some none)
    (z_range : PySem.W.nsIn K mainGlobals "range" = some none)
    (z_repr : PySem.W.nsIn K mainGlobals "repr" = some none)
    (z_reversed : PySem.W.nsIn K mainGlobals "reversed" = some none)
    (z_sum : PySem.W.nsIn K mainGlobals "sum" = some none)
    (z_zip : PySem.W.nsIn K mainGlobals "zip" = some none) :
    LawG l w K (L2.CX l.prog w) 9 63 "script" mg fa h := by
  have e := hfa.symm.trans (PySem.W.mg_of X G a22)
  have e2 : f22 = fa := by cases e; rfl
  subst e2
  have F0 := FT_is_whole l0 e0 k0
  have F1 := FT_are_whole l1 e1 k1
  have F2 := FT_is_short_list l2 e2 k2
  have F3 := FT_first_out_of_line l3 e3 k3
  have F4 := FT_check_missing l4 e4 k4
  have F5 := FT_check_rows_beside l5 e5 k5
  have F6 := FT_check_ascending l6 e6 k6
  have F7 := FT_check_piece l7 e7 k7
  have F8 := FT_check_sorted_piece l8 e8 k8
  have F9 := FT_first_unsorted l9 e9 k9
  have F10 := FT_falls_along l10 e10 k10
  have F11 := FT_fails_below l11 e11 k11
  have F12 := FT_is_sorted l12 e12 k12
  have F13 := FT_word_of l13 e13 k13
  have F14 := FT__law_draws l14 e14 k14
  have F15 := FT__law_next l15 e15 k15
  have F16 := FT__law_shape l16 e16 k16
  have F17 := FT__law_within l17 e17 k17
  have F18 := FT__law_look l18 e18 k18
  have F19 := FT__law_piece l19 e19 k19
  have F20 := FT__law_good l20 e20 k20
  have F21 := FT__law_right l21 e21 k21
  have F22 := FT_law l22 e22 k22
  have q1 := tab_at T0 X a1 l1 rfl t1 v1 r1
  have q10 := tab_at T0 X a10 l10 rfl t10 v10 r10
  have q11 := tab_at T0 X a11 l11 rfl t11 v11 r11
  let ad : Ads := ⟨f0, c0, 0, (PySem.W.fnOf "is_whole" "is_whole" (defArgs (top 6)) (defBody (top 6)) (defScope (top 6)) .none kV0 dc0 pm0 an0 (.ref c0) ct0),
    f2, c2, 0, (PySem.W.fnOf "is_short_list" "is_short_list" (defArgs (top 8)) (defBody (top 8)) (defScope (top 8)) .none kV2 dc2 pm2 an2 (.ref c2) ct2),
    f14, c14, 0, (PySem.W.fnOf "_law_draws" "_law_draws" (defArgs (top 22)) (defBody (top 22)) (defScope (top 22)) .none kV14 dc14 pm14 an14 (.ref c14) ct14),
    f15, c15, 0, (PySem.W.fnOf "_law_next" "_law_next" (defArgs (top 23)) (defBody (top 23)) (defScope (top 23)) .none kV15 dc15 pm15 an15 (.ref c15) ct15),
    f18, c18, 0, (PySem.W.fnOf "_law_look" "_law_look" (defArgs (top 26)) (defBody (top 26)) (defScope (top 26)) .none kV18 dc18 pm18 an18 (.ref c18) ct18),
    f3, c3, 0, (PySem.W.fnOf "first_out_of_line" "first_out_of_line" (defArgs (top 9)) (defBody (top 9)) (defScope (top 9)) .none kV3 dc3 pm3 an3 (.ref c3) ct3),
    f10, c10, P10, (PySem.W.fnOf "falls_along" "falls_along" (defArgs (top 16)) (defBody (top 16)) (defScope (top 16)) .none kV10 dc10 pm10 an10 (.ref c10) ct10),
    f11, c11, P11, (PySem.W.fnOf "fails_below" "fails_below" (defArgs (top 17)) (defBody (top 17)) (defScope (top 17)) .none kV11 dc11 pm11 an11 (.ref c11) ct11),
    f16, c16, 0, (PySem.W.fnOf "_law_shape" "_law_shape" (defArgs (top 24)) (defBody (top 24)) (defScope (top 24)) .none kV16 dc16 pm16 an16 (.ref c16) ct16),
    f17, c17, 0, (PySem.W.fnOf "_law_within" "_law_within" (defArgs (top 25)) (defBody (top 25)) (defScope (top 25)) .none kV17 dc17 pm17 an17 (.ref c17) ct17),
    f20, c20, 0, (PySem.W.fnOf "_law_good" "_law_good" (defArgs (top 28)) (defBody (top 28)) (defScope (top 28)) .none kV20 dc20 pm20 an20 (.ref c20) ct20),
    f1, c1, P1, (PySem.W.fnOf "are_whole" "are_whole" (defArgs (top 7)) (defBody (top 7)) (defScope (top 7)) .none kV1 dc1 pm1 an1 (.ref c1) ct1),
    f4, c4, 0, (PySem.W.fnOf "check_missing" "check_missing" (defArgs (top 10)) (defBody (top 10)) (defScope (top 10)) .none kV4 dc4 pm4 an4 (.ref c4) ct4),
    f9, c9, 0, (PySem.W.fnOf "first_unsorted" "first_unsorted" (defArgs (top 15)) (defBody (top 15)) (defScope (top 15)) .none kV9 dc9 pm9 an9 (.ref c9) ct9),
    f19, c19, 0, (PySem.W.fnOf "_law_piece" "_law_piece" (defArgs (top 27)) (defBody (top 27)) (defScope (top 27)) .none kV19 dc19 pm19 an19 (.ref c19) ct19),
    f5, c5, 0, (PySem.W.fnOf "check_rows_beside" "check_rows_beside" (defArgs (top 11)) (defBody (top 11)) (defScope (top 11)) .none kV5 dc5 pm5 an5 (.ref c5) ct5),
    f6, c6, 0, (PySem.W.fnOf "check_ascending" "check_ascending" (defArgs (top 12)) (defBody (top 12)) (defScope (top 12)) .none kV6 dc6 pm6 an6 (.ref c6) ct6),
    f7, c7, 0, (PySem.W.fnOf "check_piece" "check_piece" (defArgs (top 13)) (defBody (top 13)) (defScope (top 13)) .none kV7 dc7 pm7 an7 (.ref c7) ct7),
    f12, c12, 0, (PySem.W.fnOf "is_sorted" "is_sorted" (defArgs (top 19)) (defBody (top 19)) (defScope (top 19)) .none kV12 dc12 pm12 an12 (.ref c12) ct12),
    f8, c8, 0, (PySem.W.fnOf "check_sorted_piece" "check_sorted_piece" (defArgs (top 14)) (defBody (top 14)) (defScope (top 14)) .none kV8 dc8 pm8 an8 (.ref c8) ct8),
    f13, c13, 0, (PySem.W.fnOf "word_of" "word_of" (defArgs (top 20)) (defBody (top 20)) (defScope (top 20)) .none kV13 dc13 pm13 an13 (.ref c13) ct13),
    f21, c21, 0, (PySem.W.fnOf "_law_right" "_law_right" (defArgs (top 29)) (defBody (top 29)) (defScope (top 29)) .none kV21 dc21 pm21 an21 (.ref c21) ct21),
    f22, c22, 0, (PySem.W.fnOf "law" "law" (defArgs (top 30)) (defBody (top 30)) (defScope (top 30)) .none kV22 dc22 pm22 an22 (.ref c22) ct22)⟩
  have z0 : True := trivial
  have TT : ∀ (base : Heap) (tabs : Tb), tabs.K = K → tabs.ps = [P1, P10, P11] → (∀ q ∈ [(c1, P1), (c10, P10), (c11, P11)], GxR.TabB base mg q.1 q.2) → Txt K mg base tabs ad := fun base tabs hK hps hTB => {
    F_is_whole := F0
    m_is_whole := PySem.W.mg_of X G a0
    b_is_whole := F0.binds fun _ _ _ _ _ _ us hl => match us, hl with | [_], _ => rfl
    F_is_short_list := F2
    m_is_short_list := PySem.W.mg_of X G a2
    b_is_short_list := F2.binds fun _ _ _ _ _ _ us hl => match us, hl with | [_], _ => rfl
    F__law_draws := F14
    m__law_draws := PySem.W.mg_of X G a14
    b__law_draws := F14.binds fun _ _ _ _ _ _ us hl => match us, hl with | [_], _ => rfl
    F__law_next := F15
    m__law_next := PySem.W.mg_of X G a15
    b__law_next := F15.binds fun _ _ _ _ _ _ us hl => match us, hl with | [_], _ => rfl
    F__law_look := F18
    m__law_look := PySem.W.mg_of X G a18
    b__law_look := F18.binds fun _ _ _ _ _ _ us hl => match us, hl with | [_, _, _, _], _ => rfl
    F_first_out_of_line := F3
    m_first_out_of_line := PySem.W.mg_of X G a3
    b_first_out_of_line := F3.binds fun _ _ _ _ _ _ us hl => match us, hl with | [_, _], _ => rfl
    F_falls_along := F10
    m_falls_along := PySem.W.mg_of X G a10
    b_falls_along := F10.binds fun _ _ _ _ _ _ us hl => match us, hl with | [_], _ => rfl
    p_falls_along := by show P10 ∈ tabs.ps; rw [hps]; simp
    tb_falls_along := hTB (c10, P10) (by simp)
    F_fails_below := F11
    m_fails_below := PySem.W.mg_of X G a11
    b_fails_below := F11.binds fun _ _ _ _ _ _ us hl => match us, hl with | [_, _, _], _ => rfl
    p_fails_below := by show P11 ∈ tabs.ps; rw [hps]; simp
    tb_fails_below := hTB (c11, P11) (by simp)
    F__law_shape := F16
    m__law_shape := PySem.W.mg_of X G a16
    b__law_shape := F16.binds fun _ _ _ _ _ _ us hl => match us, hl with | [_, _, _], _ => rfl
    F__law_within := F17
    m__law_within := PySem.W.mg_of X G a17
    b__law_within := F17.binds fun _ _ _ _ _ _ us hl => match us, hl with | [_, _], _ => rfl
    F__law_good := F20
    m__law_good := PySem.W.mg_of X G a20
    b__law_good := F20.binds fun _ _ _ _ _ _ us hl => match us, hl with | [_, _], _ => rfl
    F_are_whole := F1
    m_are_whole := PySem.W.mg_of X G a1
    b_are_whole := F1.binds fun _ _ _ _ _ _ us hl => match us, hl with | [_], _ => rfl
    p_are_whole := by show P1 ∈ tabs.ps; rw [hps]; simp
    tb_are_whole := hTB (c1, P1) (by simp)
    F_check_missing := F4
    m_check_missing := PySem.W.mg_of X G a4
    b_check_missing := F4.binds fun _ _ _ _ _ _ us hl => match us, hl with | [_], _ => rfl
    F_first_unsorted := F9
    m_first_unsorted := PySem.W.mg_of X G a9
    b_first_unsorted := F9.binds fun _ _ _ _ _ _ us hl => match us, hl with | [_, _], _ => rfl
    F__law_piece := F19
    m__law_piece := PySem.W.mg_of X G a19
    b__law_piece := F19.binds fun _ _ _ _ _ _ us hl => match us, hl with | [_, _, _], _ => rfl
    F_check_rows_beside := F5
    m_check_rows_beside := PySem.W.mg_of X G a5
    b_check_rows_beside := F5.binds fun _ _ _ _ _ _ us hl => match us, hl with | [_, _], _ => rfl
    F_check_ascending := F6
    m_check_ascending := PySem.W.mg_of X G a6
    b_check_ascending := F6.binds fun _ _ _ _ _ _ us hl => match us, hl with | [_, _], _ => rfl
    F_check_piece := F7
    m_check_piece := PySem.W.mg_of X G a7
    b_check_piece := F7.binds fun _ _ _ _ _ _ us hl => match us, hl with | [_, _], _ => rfl
    F_is_sorted := F12
    m_is_sorted := PySem.W.mg_of X G a12
    b_is_sorted := F12.binds fun _ _ _ _ _ _ us hl => match us, hl with | [_, _], _ => rfl
    F_check_sorted_piece := F8
    m_check_sorted_piece := PySem.W.mg_of X G a8
    b_check_sorted_piece := F8.binds fun _ _ _ _ _ _ us hl => match us, hl with | [_, _], _ => rfl
    F_word_of := F13
    m_word_of := PySem.W.mg_of X G a13
    b_word_of := F13.binds fun _ _ _ _ _ _ us hl => match us, hl with | [_, _], _ => rfl
    F__law_right := F21
    m__law_right := PySem.W.mg_of X G a21
    b__law_right := F21.binds fun _ _ _ _ _ _ us hl => match us, hl with | [_, _], _ => rfl
    F_law := F22
    m_law := PySem.W.mg_of X G a22
    b_law := F22.binds fun _ _ _ _ _ _ us hl => match us, hl with | [_], _ => rfl
    tK := hK
    m_MOST := ⟨_, PySem.W.mg_of X G cMOST⟩
    n_all := PySem.W.mg_none_of X G z_all
    n_any := PySem.W.mg_none_of X G z_any
    n_bool := PySem.W.mg_none_of X G z_bool
    n_enumerate := PySem.W.mg_none_of X G z_enumerate
    n_int := PySem.W.mg_none_of X G z_int
    n_isinstance := PySem.W.mg_none_of X G z_isinstance
    n_len := PySem.W.mg_none_of X G z_len
    n_list := PySem.W.mg_none_of X G z_list
    n_max := PySem.W.mg_none_of X G z_max
    n_min := PySem.W.mg_none_of X G z_min
    n_range := PySem.W.mg_none_of X G z_range
    n_repr := PySem.W.mg_none_of X G z_repr
    n_reversed := PySem.W.mg_none_of X G z_reversed
    n_sum := PySem.W.mg_none_of X G z_sum
    n_zip := PySem.W.mg_none_of X G z_zip
  }
  refine ⟨(PySem.W.fnOf "law" "law" (defArgs (top 30)) (defBody (top 30)) (defScope (top 30)) .none kV22 dc22 pm22 an22 (.ref c22) ct22), [(c1, P1), (c10, P10), (c11, P11)], spLaw [P1, P10, P11] K mg spec_law, fun q hq => ?_, fun q hq => ?_, fun q hq => ?_, fun s v => .of_eq rfl, fun H a ns hl _ hT hN hS => spLaw_start (fun P hP => ?_) hN hS fun Q hQ => ⟨rfl, rfl, Nat.le_trans hl (by decide), rfl, hQ⟩, fun base _ _ hTB => fnG_law fun a ns => G_law (TT base ⟨[P1, P10, P11], K, a, ns, true⟩ rfl rfl hTB)⟩
  · simp only [List.mem_cons, List.not_mem_nil, or_false] at hq
    rcases hq with rfl | rfl | rfl
    · exact q1.2
    · exact q10.2
    · exact q11.2
  · simp only [List.mem_cons, List.not_mem_nil, or_false] at hq
    rcases hq with rfl | rfl | rfl
    · exact u1
    · exact u10
    · exact u11
  · simp only [List.mem_cons, List.not_mem_nil, or_false] at hq
    rcases hq with rfl | rfl | rfl
    · exact q1.1
    · exact q10.1
    · exact q11.1
  · simp only [List.mem_cons, List.not_mem_nil, or_false] at hP
    rcases hP with hP | hP | hP
    · rw [hP]; exact hT (c1, P1) (by simp)
    · rw [hP]; exact hT (c10, P10) (by simp)
    · rw [hP]; exact hT (c11, P11) (by simp)
end
end QD

set_option Elab.async false
set_option linter.all false
set_option maxRecDepth 100000
open PySem PySem.W PyProof.Rows
set_option maxHeartbeats 0 in
theorem PySem.Challenge.cw_holeslides_k03_pieces_holds : PySem.Challenge.rw_holeslides_k03_pieces.Holds := by
  w_on; o_law; k_head; (case hw => w_witness2)
  k_fill
  refine QD.walk_ofG (l := PySem.Challenge.rw_holeslides_k03_pieces) (n := 63) (k := 9) (x := "script") (cx := fun w => L2.CX PySem.Challenge.rw_holeslides_k03_pieces.prog w) rfl (by decide) rfl ⟨rfl, by decide, by decide⟩ (fun w h Y => PySem.W.kIn_of Y) ?F (fun _ _ _ _ _ ⟨_, _, _, _, _, _, _, _, _, _, _, _, z⟩ => z)
  case F =>
    intro w mg fa h Y KX G hmg T0
    obtain ⟨loose, mean, mb, T0⟩ := T0
    refine' QD.all_mk KX G hmg T0 ?a0 ?l0 ?e0 ?k0 ?a1 ?l1 ?e1 ?k1 ?t1 ?v1 ?u1 ?r1 ?a2 ?l2 ?e2 ?k2 ?a3 ?l3 ?e3 ?k3 ?a4 ?l4 ?e4 ?k4 ?a5 ?l5 ?e5 ?k5 ?a6 ?l6 ?e6 ?k6 ?a7 ?l7 ?e7 ?k7 ?a8 ?l8 ?e8 ?k8 ?a9 ?l9 ?e9 ?k9 ?a10 ?l10 ?e10 ?k10 ?t10 ?v10 ?u10 ?r10 ?a11 ?l11 ?e11 ?k11 ?t11 ?v11 ?u11 ?r11 ?a12 ?l12 ?e12 ?k12 ?a13 ?l13 ?e13 ?k13 ?a14 ?l14 ?e14 ?k14 ?a15 ?l15 ?e15 ?k15 ?a16 ?l16 ?e16 ?k16 ?a17 ?l17 ?e17 ?k17 ?a18 ?l18 ?e18 ?k18 ?a19 ?l19 ?e19 ?k19 ?a20 ?l20 ?e20 ?k20 ?a21 ?l21 ?e21 ?k21 ?a22 ?l22 ?e22 ?k22 ?cMOST ?z_all ?z_any ?z_bool ?z_enumerate ?z_int ?z_isinstance ?z_len ?z_list ?z_max ?z_min ?z_range ?z_repr ?z_reversed ?z_sum ?z_zip
    (case a0 => k_is)
    (case l0 => k_is)
    (case e0 => k_is)
    (case k0 => k_is)
    (case a1 => k_is)
    (case l1 => k_is)
    (case e1 => k_is)
    (case k1 => k_is)
    (case t1 => k_is)
    (case v1 => rfl)
    (case u1 => rfl)
    (case r1 => decide +kernel)
    (case a2 => k_is)
    (case l2 => k_is)
    (case e2 => k_is)
    (case k2 => k_is)
    (case a3 => k_is)
    (case l3 => k_is)
    (case e3 => k_is)
    (case k3 => k_is)
    (case a4 => k_is)
    (case l4 => k_is)
    (case e4 => k_is)
    (case k4 => k_is)
    (case a5 => k_is)
    (case l5 => k_is)
    (case e5 => k_is)
    (case k5 => k_is)
    (case a6 => k_is)
    (case l6 => k_is)
    (case e6 => k_is)
    (case k6 => k_is)
    (case a7 => k_is)
    (case l7 => k_is)
    (case e7 => k_is)
    (case k7 => k_is)
    (case a8 => k_is)
    (case l8 => k_is)
    (case e8 => k_is)
    (case k8 => k_is)
    (case a9 => k_is)
    (case l9 => k_is)
    (case e9 => k_is)
    (case k9 => k_is)
    (case a10 => k_is)
    (case l10 => k_is)
    (case e10 => k_is)
    (case k10 => k_is)
    (case t10 => k_is)
    (case v10 => rfl)
    (case u10 => rfl)
    (case r10 => decide +kernel)
    (case a11 => k_is)
    (case l11 => k_is)
    (case e11 => k_is)
    (case k11 => k_is)
    (case t11 => k_is)
    (case v11 => rfl)
    (case u11 => rfl)
    (case r11 => decide +kernel)
    (case a12 => k_is)
    (case l12 => k_is)
    (case e12 => k_is)
    (case k12 => k_is)
    (case a13 => k_is)
    (case l13 => k_is)
    (case e13 => k_is)
    (case k13 => k_is)
    (case a14 => k_is)
    (case l14 => k_is)
    (case e14 => k_is)
    (case k14 => k_is)
    (case a15 => k_is)
    (case l15 => k_is)
    (case e15 => k_is)
    (case k15 => k_is)
    (case a16 => k_is)
    (case l16 => k_is)
    (case e16 => k_is)
    (case k16 => k_is)
    (case a17 => k_is)
    (case l17 => k_is)
    (case e17 => k_is)
    (case k17 => k_is)
    (case a18 => k_is)
    (case l18 => k_is)
    (case e18 => k_is)
    (case k18 => k_is)
    (case a19 => k_is)
    (case l19 => k_is)
    (case e19 => k_is)
    (case k19 => k_is)
    (case a20 => k_is)
    (case l20 => k_is)
    (case e20 => k_is)
    (case k20 => k_is)
    (case a21 => k_is)
    (case l21 => k_is)
    (case e21 => k_is)
    (case k21 => k_is)
    (case a22 => k_is)
    (case l22 => k_is)
    (case e22 => k_is)
    (case k22 => k_is)
    (case cMOST => k_is)
    (case z_all => k_is)
    (case z_any => k_is)
    (case z_bool => k_is)
    (case z_enumerate => k_is)
    (case z_int => k_is)
    (case z_isinstance => k_is)
    (case z_len => k_is)
    (case z_list => k_is)
    (case z_max => k_is)
    (case z_min => k_is)
    (case z_range => k_is)
    (case z_repr => k_is)
    (case z_reversed => k_is)
    (case z_sum => k_is)
    (case z_zip => k_is)
