import PyProof.Rows.All
import Wide.All
import OpenK.AllK
import Wide.FinOn
import HandS.ForMost
import HandS.TupLe
import HandS.IsInst
import HandS.Wide
import HandS.Walk
import HandS.Gcd
import HandS.Codes
import HandS.Style
import KE.KMathG
import HandS.Exc
import HandS.ExcOwn
import HandS.ExcInit
import HandS.WordsExc
import HandS.TryMany
import HandS.ExcIs
import HandS.Lambda
import HandS.EndTab
import KE.KExcInit
import HandS.ExcValue
import HandS.ExcField
import KE.KDflt
import KE.KExcIs
import HandS.Iter
import KE.KNestM
import KE.KLam
import PySem.Challenge.RW_nearcells_k04_what_signs_refuse
set_option Elab.async false
set_option linter.all false
set_option maxRecDepth 100000
set_option maxHeartbeats 4000000
/-! Own rules: min and max of two things that are compared by the heap (pairs); a call by keywords alone. -/
namespace Nc
open PySem PySem.Spec PyProof.Rows L2
section
variable {prog : Program} {w : World} {A : Around} {E : Value → Shared → Prop} {s : Shared} {va vb : Value} {k : Bool}
/-- all that stood before stands -/
abbrev KeepH (h h' : Heap) : Prop := ∀ c o, h.get? c = some o → h'.get? c = some o


/-- the loop of min behind its first item: best so far vx (twice at S), one more item vy to come, or none -/
theorem min_round {R : Result → Shared → Prop} {I S T : Addr} {vx vy : Value} {its : Array Value} {b : Bool} {c i : Nat} {s : Shared} (hh : A.handled = none) (hIT : T ≠ I) (hIS : S ≠ I) (hST : S ≠ T)
    (hit : s.heap.IsTupleIter I T i ∧ s.heap.IsTuple T its) (hy : its[i]? = some vy) (hend : its.size = i + 1) (hS : s.heap.get? S = some { cls := .type "list", dict := none, data := .seq #[vx, vx] c, slots := #[] })
    (hc : ∀ h' tk, (∀ b o, b ≠ I → s.heap.get? b = some o → h'.get? b = some o) → Ob.RcOp .Lt A.in1 { s with heap := h', toks := tk } vy vx b)
    (hR : ∀ h' tk, (∀ b o, b ≠ I → b ≠ S → s.heap.get? b = some o → h'.get? b = some o) → R (.ok (.ret (if b = true then vy else vx))) { s with heap := h', toks := tk }) :
    codeAny (model prog w) A (.builtin "min.loop" ⟨[.ref I, .none, .ref S], []⟩) R s := by
  have nm : (toString "min" ++ toString ".loop" : String) = "min.loop" := by decide
  have W := Walks.tuple (prog := prog) (w := w) (A := A.in1) hh I T hIT its
  -- no item is left: vz is handed back
  have last : ∀ (vz : Value) (c' : Nat) (s1 : Shared), s1.heap.IsTupleIter I T (i + 1) ∧ s1.heap.IsTuple T its → s1.heap.get? S = some { cls := .type "list", dict := none, data := .seq #[vz, vz] c', slots := #[] } →
      (∀ h' tk, (∀ b o, b ≠ I → b ≠ S → s1.heap.get? b = some o → h'.get? b = some o) → R (.ok (.ret vz)) { s1 with heap := h', toks := tk }) → codeAny (model prog w) A (.builtin "min.loop" ⟨[.ref I, .none, .ref S], []⟩) R s1 := by
    intro vz c' s1 st1 g1 r1
    obtain ⟨hp, gg, dd, tt, os⟩ := s1
    refine codeAny_builtin PySem.F.entry_min_loop ?_
    rw [Around.under_plainId PySem.F.plain_min_loop _]
    refine wpAny_bind (wpAny_seqItems g1 rfl (wpAny_bind (wpAny_tryCatch (W.done _ _ _ (hend ▸ st1) fun hq tk hk => ?_))))
    have g2 := hk S _ (fun z => hIS (List.mem_singleton.mp z)) g1
    refine wpAny_bind (wpAny_updateSeq g2 rfl (wpAny_bind (wpAny_letGo (wpAny_pure ?_))))
    exact r1 _ tk fun d o n1 n2 e => (Heap.get?_update_other _ _ (Ne.symm n2)).trans (hk d o (fun z => n1 (List.mem_singleton.mp z)) e)
  obtain ⟨hp, gg, dd, tt, os⟩ := s
  refine codeAny_builtin PySem.F.entry_min_loop ?_
  rw [Around.under_plainId PySem.F.plain_min_loop _]
  refine wpAny_bind (wpAny_seqItems hS rfl (wpAny_bind (wpAny_tryCatch (W.item i _ _ _ (by omega) hit fun v hq tk hP st hk => ?_))))
  have ev : v = vy := Option.some.inj ((show its[i]? = some v from hP).symm.trans hy)
  subst ev
  have kk : ∀ d o, d ≠ I → hp.get? d = some o → hq.get? d = some o := fun d o n e => hk d o (fun z => n (List.mem_singleton.mp z)) e
  have g2 := kk S _ hIS hS
  refine wpAny_bind (wpAny_pure ?_)
  show wpAny _ _ (tryCatch (holding [v, v] (richCompare _ v vx >>= _)) _ >>= _) _ _ _
  refine wpAny_bind (wpAny_tryCatch (wpAny_holding (wpAny_bind ((hc hq tk kk) prog w _ _ ?_))))
  refine wpAny_bind (wpAny_holding (wpAny_truthy_bool (wpAny_bind (wpAny_letGo (wpAny_pure ?_)))))
  cases b with
  | true =>
    simp only [if_true]
    refine wpAny_bind (wpAny_updateSeq g2 rfl (wpAny_bind (wpAny_letGo ?_)))
    rw [nm]
    have fr : ∀ d o, d ≠ S → hq.get? d = some o → (hq.update S fun o => { o with data := .seq #[v, v] (c + 1) }).get? d = some o := fun d o n e => (Heap.get?_update_other _ _ (Ne.symm n)).trans e
    refine wpAny_pure ⟨plainId_quiet PySem.F.plain_min_loop _, last v _ _ (W.frame _ _ _ st fun d hd o e => ?_) (Heap.get?_update_self _ g2 rfl) fun h' tk' hk' => ?_⟩
    · refine (Heap.get?_update_other _ _ ?_).trans e
      intro z
      rcases List.mem_cons.mp hd with q | q
      · exact hIS (z.trans q)
      · exact hST (z.trans (List.mem_singleton.mp q))
    · exact hR h' tk' fun d o n1 n2 e => hk' d o n1 n2 ((Heap.get?_update_other _ _ (Ne.symm n2)).trans (kk d o n1 e))
  | false =>
    simp only [Bool.false_eq_true, if_false]
    refine wpAny_bind (wpAny_letGo ?_)
    rw [nm]
    refine wpAny_pure ⟨plainId_quiet PySem.F.plain_min_loop _, last vx _ _ st g2 fun h' tk' hk' => ?_⟩
    exact hR h' tk' fun d o n1 n2 e => hk' d o n1 n2 (kk d o n1 e)

theorem min2_by {Q : Value → Shared → Prop} (hh : A.handled = none)
    (hc : ∀ h' tk, KeepH s.heap h' → Ob.RcOp .Lt A.in1 { s with heap := h', toks := tk } vb va k)
    (hq : ∀ h' tk, KeepH s.heap h' → Q (if k = true then vb else va) { s with heap := h', toks := tk }) :
    wpAny (model prog w) A (call (.builtin "min") [va, vb]) Q E s := by
  have nm : (toString "min" ++ toString ".loop" : String) = "min.loop" := by decide
  obtain ⟨hp, gg, dd, tt, os⟩ := s
  refine call_function_tree PySem.F.kind_min PySem.F.plain_min PySem.F.entry_min (PySem.F.args_min2 _ _) ?_
  refine wpAny_bind (wpAny_of_eq (show Builtin.Builtins.bindParams "min" ["key", "default"] 0 ⟨[], []⟩ = pure [none, none] from rfl) ?_)
  show wpAny _ A.in1 (newTuple [va, vb] >>= _) _ _ _
  have hT : (hp.push { cls := .type "tuple", data := .seq #[va, vb] }).IsTuple hp.objs.size #[va, vb] := ⟨_, Heap.get?_push_size _ rfl, rfl, 0, rfl⟩
  have z1 : (hp.push { cls := .type "tuple", data := .seq #[va, vb] }).objs.size = hp.objs.size + 1 := Heap.size_push ..
  have k1 : KeepH hp (hp.push { cls := .type "tuple", data := .seq #[va, vb] }) := fun c o e => Heap.get?_push_of_some _ e
  refine wpAny_bind (wpAny_newObj_type (wpAny_bind (wpAny_pyIter_tuple hT (wpAny_bind (wpAny_newObj_type ?_)))))
  generalize hp.push { cls := .type "tuple", data := .seq #[va, vb] } = h1 at *
  generalize eT : hp.objs.size = T at *
  generalize eI : h1.objs.size = I at *
  have gI : (h1.push { cls := .type "tuple_iterator", data := .fields #[.ref T, .int 0 0] }).get? I = some { cls := .type "tuple_iterator", data := .fields #[.ref T, .int 0 0] } := by
    rw [← eI]
    exact Heap.get?_push_size _ rfl
  have k2 : KeepH h1 (h1.push { cls := .type "tuple_iterator", data := .fields #[.ref T, .int 0 0] }) := fun c o e => Heap.get?_push_of_some _ e
  have z2 : (h1.push { cls := .type "tuple_iterator", data := .fields #[.ref T, .int 0 0] }).objs.size = I + 1 := by
    rw [← eI]
    exact Heap.size_push ..
  have hIT : T ≠ I := by omega
  obtain ⟨oT, gT, cT, nT, dT⟩ := hT
  generalize h1.push { cls := .type "tuple_iterator", data := .fields #[.ref T, .int 0 0] } = h2 at *
  have gS : (h2.push { cls := .type "list", data := .seq #[] }).get? h2.objs.size = some { cls := .type "list", data := .seq #[] } := Heap.get?_push_size _ rfl
  have k3 : KeepH h2 (h2.push { cls := .type "list", data := .seq #[] }) := fun c o e => Heap.get?_push_of_some _ e
  show wpAny _ _ (pure (Fin.again (Code.builtin (toString "min" ++ toString ".loop") ⟨[.ref I, .none, .ref h2.objs.size], []⟩))) _ _ ⟨h2.push { cls := .type "list", data := .seq #[] }, gg, dd, tt, os⟩
  rw [nm]
  generalize eS : h2.objs.size = S at *
  generalize h2.push { cls := .type "list", data := .seq #[] } = h3 at *
  have hIS : S ≠ I := by
    omega
  have hST : S ≠ T := by omega
  have W := Walks.tuple (prog := prog) (w := w) (A := A.in1) hh I T hIT #[va, vb]
  refine wpAny_pure ⟨plainId_quiet PySem.F.plain_min_loop _, ?_⟩
  refine codeAny_builtin PySem.F.entry_min_loop ?_
  rw [Around.under_plainId PySem.F.plain_min_loop _]
  have st0 : h3.IsTupleIter I T 0 ∧ h3.IsTuple T #[va, vb] := ⟨⟨_, k3 _ _ gI, rfl, rfl⟩, ⟨oT, k3 _ _ (k2 _ _ gT), cT, nT, dT⟩⟩
  refine wpAny_bind (wpAny_seqItems gS rfl (wpAny_bind (wpAny_tryCatch (W.item 0 ⟨h3, gg, dd, tt, os⟩ _ _ (by show 0 < 2; decide) st0 fun v hq' tk hP st hk => ?_))))
  have ev : v = va := (Option.some.inj (show some va = some v from hP)).symm
  subst ev
  refine wpAny_bind (wpAny_pure ?_)
  have kk : ∀ d o, d ≠ I → h3.get? d = some o → hq'.get? d = some o := fun d o n e => hk d o (fun z => n (List.mem_singleton.mp z)) e
  have g2 := kk S _ hIS gS
  show wpAny _ _ (updateSeq S (fun _ => #[v, v]) >>= _) _ _ _
  refine wpAny_bind (wpAny_updateSeq g2 rfl ?_)
  rw [nm]
  have all : ∀ d o, hp.get? d = some o → d ≠ I ∧ d ≠ S ∧ hq'.get? d = some o := fun d o e => by
    have l : d < T := eT ▸ Heap.lt_size e
    have lI : T < I := by omega
    have lS : T < S := by omega
    have n1 : d ≠ I := Nat.ne_of_lt (Nat.lt_trans l lI)
    exact ⟨n1, Nat.ne_of_lt (Nat.lt_trans l lS), kk d o n1 (k3 _ _ (k2 _ _ (k1 _ _ e)))⟩
  refine wpAny_pure ⟨plainId_quiet PySem.F.plain_min_loop _, min_round (i := 1) (its := #[v, vb]) (vy := vb) (vx := v) (T := T) (b := k) hh hIT hIS hST ?_ rfl rfl (Heap.get?_update_self _ g2 rfl) (fun h' tk' kp => ?_) fun h' tk' kp => ?_⟩
  · refine W.frame _ _ _ st fun d hd o e => (Heap.get?_update_other _ _ ?_).trans e
    intro z
    rcases List.mem_cons.mp hd with q | q
    · exact hIS (z.trans q)
    · exact hST (z.trans (List.mem_singleton.mp q))
  · refine hc h' tk' fun d o e => ?_
    obtain ⟨n1, n2, e2⟩ := all d o e
    exact kp d o n1 ((Heap.get?_update_other _ _ (Ne.symm n2)).trans e2)
  · refine hq h' tk' fun d o e => ?_
    obtain ⟨n1, n2, e2⟩ := all d o e
    exact kp d o n1 n2 ((Heap.get?_update_other _ _ (Ne.symm n2)).trans e2)


/-- the loop of max behind its first item: best so far vx (twice at S), one more item vy to come, or none -/
theorem max_round {R : Result → Shared → Prop} {I S T : Addr} {vx vy : Value} {its : Array Value} {b : Bool} {c i : Nat} {s : Shared} (hh : A.handled = none) (hIT : T ≠ I) (hIS : S ≠ I) (hST : S ≠ T)
    (hit : s.heap.IsTupleIter I T i ∧ s.heap.IsTuple T its) (hy : its[i]? = some vy) (hend : its.size = i + 1) (hS : s.heap.get? S = some { cls := .type "list", dict := none, data := .seq #[vx, vx] c, slots := #[] })
    (hc : ∀ h' tk, (∀ b o, b ≠ I → s.heap.get? b = some o → h'.get? b = some o) → Ob.RcOp .Gt A.in1 { s with heap := h', toks := tk } vy vx b)
    (hR : ∀ h' tk, (∀ b o, b ≠ I → b ≠ S → s.heap.get? b = some o → h'.get? b = some o) → R (.ok (.ret (if b = true then vy else vx))) { s with heap := h', toks := tk }) :
    codeAny (model prog w) A (.builtin "max.loop" ⟨[.ref I, .none, .ref S], []⟩) R s := by
  have nm : (toString "max" ++ toString ".loop" : String) = "max.loop" := by decide
  have W := Walks.tuple (prog := prog) (w := w) (A := A.in1) hh I T hIT its
  -- no item is left: vz is handed back
  have last : ∀ (vz : Value) (c' : Nat) (s1 : Shared), s1.heap.IsTupleIter I T (i + 1) ∧ s1.heap.IsTuple T its → s1.heap.get? S = some { cls := .type "list", dict := none, data := .seq #[vz, vz] c', slots := #[] } →
      (∀ h' tk, (∀ b o, b ≠ I → b ≠ S → s1.heap.get? b = some o → h'.get? b = some o) → R (.ok (.ret vz)) { s1 with heap := h', toks := tk }) → codeAny (model prog w) A (.builtin "max.loop" ⟨[.ref I, .none, .ref S], []⟩) R s1 := by
    intro vz c' s1 st1 g1 r1
    obtain ⟨hp, gg, dd, tt, os⟩ := s1
    refine codeAny_builtin PySem.F.entry_max_loop ?_
    rw [Around.under_plainId PySem.F.plain_max_loop _]
    refine wpAny_bind (wpAny_seqItems g1 rfl (wpAny_bind (wpAny_tryCatch (W.done _ _ _ (hend ▸ st1) fun hq tk hk => ?_))))
    have g2 := hk S _ (fun z => hIS (List.mem_singleton.mp z)) g1
    refine wpAny_bind (wpAny_updateSeq g2 rfl (wpAny_bind (wpAny_letGo (wpAny_pure ?_))))
    exact r1 _ tk fun d o n1 n2 e => (Heap.get?_update_other _ _ (Ne.symm n2)).trans (hk d o (fun z => n1 (List.mem_singleton.mp z)) e)
  obtain ⟨hp, gg, dd, tt, os⟩ := s
  refine codeAny_builtin PySem.F.entry_max_loop ?_
  rw [Around.under_plainId PySem.F.plain_max_loop _]
  refine wpAny_bind (wpAny_seqItems hS rfl (wpAny_bind (wpAny_tryCatch (W.item i _ _ _ (by omega) hit fun v hq tk hP st hk => ?_))))
  have ev : v = vy := Option.some.inj ((show its[i]? = some v from hP).symm.trans hy)
  subst ev
  have kk : ∀ d o, d ≠ I → hp.get? d = some o → hq.get? d = some o := fun d o n e => hk d o (fun z => n (List.mem_singleton.mp z)) e
  have g2 := kk S _ hIS hS
  refine wpAny_bind (wpAny_pure ?_)
  show wpAny _ _ (tryCatch (holding [v, v] (richCompare _ v vx >>= _)) _ >>= _) _ _ _
  refine wpAny_bind (wpAny_tryCatch (wpAny_holding (wpAny_bind ((hc hq tk kk) prog w _ _ ?_))))
  refine wpAny_bind (wpAny_holding (wpAny_truthy_bool (wpAny_bind (wpAny_letGo (wpAny_pure ?_)))))
  cases b with
  | true =>
    simp only [if_true]
    refine wpAny_bind (wpAny_updateSeq g2 rfl (wpAny_bind (wpAny_letGo ?_)))
    rw [nm]
    have fr : ∀ d o, d ≠ S → hq.get? d = some o → (hq.update S fun o => { o with data := .seq #[v, v] (c + 1) }).get? d = some o := fun d o n e => (Heap.get?_update_other _ _ (Ne.symm n)).trans e
    refine wpAny_pure ⟨plainId_quiet PySem.F.plain_max_loop _, last v _ _ (W.frame _ _ _ st fun d hd o e => ?_) (Heap.get?_update_self _ g2 rfl) fun h' tk' hk' => ?_⟩
    · refine (Heap.get?_update_other _ _ ?_).trans e
      intro z
      rcases List.mem_cons.mp hd with q | q
      · exact hIS (z.trans q)
      · exact hST (z.trans (List.mem_singleton.mp q))
    · exact hR h' tk' fun d o n1 n2 e => hk' d o n1 n2 ((Heap.get?_update_other _ _ (Ne.symm n2)).trans (kk d o n1 e))
  | false =>
    simp only [Bool.false_eq_true, if_false]
    refine wpAny_bind (wpAny_letGo ?_)
    rw [nm]
    refine wpAny_pure ⟨plainId_quiet PySem.F.plain_max_loop _, last vx _ _ st g2 fun h' tk' hk' => ?_⟩
    exact hR h' tk' fun d o n1 n2 e => hk' d o n1 n2 (kk d o n1 e)

theorem max2_by {Q : Value → Shared → Prop} (hh : A.handled = none)
    (hc : ∀ h' tk, KeepH s.heap h' → Ob.RcOp .Gt A.in1 { s with heap := h', toks := tk } vb va k)
    (hq : ∀ h' tk, KeepH s.heap h' → Q (if k = true then vb else va) { s with heap := h', toks := tk }) :
    wpAny (model prog w) A (call (.builtin "max") [va, vb]) Q E s := by
  have nm : (toString "max" ++ toString ".loop" : String) = "max.loop" := by decide
  obtain ⟨hp, gg, dd, tt, os⟩ := s
  refine call_function_tree PySem.F.kind_max PySem.F.plain_max PySem.F.entry_max (PySem.F.args_max2 _ _) ?_
  refine wpAny_bind (wpAny_of_eq (show Builtin.Builtins.bindParams "max" ["key", "default"] 0 ⟨[], []⟩ = pure [none, none] from rfl) ?_)
  show wpAny _ A.in1 (newTuple [va, vb] >>= _) _ _ _
  have hT : (hp.push { cls := .type "tuple", data := .seq #[va, vb] }).IsTuple hp.objs.size #[va, vb] := ⟨_, Heap.get?_push_size _ rfl, rfl, 0, rfl⟩
  have z1 : (hp.push { cls := .type "tuple", data := .seq #[va, vb] }).objs.size = hp.objs.size + 1 := Heap.size_push ..
  have k1 : KeepH hp (hp.push { cls := .type "tuple", data := .seq #[va, vb] }) := fun c o e => Heap.get?_push_of_some _ e
  refine wpAny_bind (wpAny_newObj_type (wpAny_bind (wpAny_pyIter_tuple hT (wpAny_bind (wpAny_newObj_type ?_)))))
  generalize hp.push { cls := .type "tuple", data := .seq #[va, vb] } = h1 at *
  generalize eT : hp.objs.size = T at *
  generalize eI : h1.objs.size = I at *
  have gI : (h1.push { cls := .type "tuple_iterator", data := .fields #[.ref T, .int 0 0] }).get? I = some { cls := .type "tuple_iterator", data := .fields #[.ref T, .int 0 0] } := by
    rw [← eI]
    exact Heap.get?_push_size _ rfl
  have k2 : KeepH h1 (h1.push { cls := .type "tuple_iterator", data := .fields #[.ref T, .int 0 0] }) := fun c o e => Heap.get?_push_of_some _ e
  have z2 : (h1.push { cls := .type "tuple_iterator", data := .fields #[.ref T, .int 0 0] }).objs.size = I + 1 := by
    rw [← eI]
    exact Heap.size_push ..
  have hIT : T ≠ I := by omega
  obtain ⟨oT, gT, cT, nT, dT⟩ := hT
  generalize h1.push { cls := .type "tuple_iterator", data := .fields #[.ref T, .int 0 0] } = h2 at *
  have gS : (h2.push { cls := .type "list", data := .seq #[] }).get? h2.objs.size = some { cls := .type "list", data := .seq #[] } := Heap.get?_push_size _ rfl
  have k3 : KeepH h2 (h2.push { cls := .type "list", data := .seq #[] }) := fun c o e => Heap.get?_push_of_some _ e
  show wpAny _ _ (pure (Fin.again (Code.builtin (toString "max" ++ toString ".loop") ⟨[.ref I, .none, .ref h2.objs.size], []⟩))) _ _ ⟨h2.push { cls := .type "list", data := .seq #[] }, gg, dd, tt, os⟩
  rw [nm]
  generalize eS : h2.objs.size = S at *
  generalize h2.push { cls := .type "list", data := .seq #[] } = h3 at *
  have hIS : S ≠ I := by
    omega
  have hST : S ≠ T := by omega
  have W := Walks.tuple (prog := prog) (w := w) (A := A.in1) hh I T hIT #[va, vb]
  refine wpAny_pure ⟨plainId_quiet PySem.F.plain_max_loop _, ?_⟩
  refine codeAny_builtin PySem.F.entry_max_loop ?_
  rw [Around.under_plainId PySem.F.plain_max_loop _]
  have st0 : h3.IsTupleIter I T 0 ∧ h3.IsTuple T #[va, vb] := ⟨⟨_, k3 _ _ gI, rfl, rfl⟩, ⟨oT, k3 _ _ (k2 _ _ gT), cT, nT, dT⟩⟩
  refine wpAny_bind (wpAny_seqItems gS rfl (wpAny_bind (wpAny_tryCatch (W.item 0 ⟨h3, gg, dd, tt, os⟩ _ _ (by show 0 < 2; decide) st0 fun v hq' tk hP st hk => ?_))))
  have ev : v = va := (Option.some.inj (show some va = some v from hP)).symm
  subst ev
  refine wpAny_bind (wpAny_pure ?_)
  have kk : ∀ d o, d ≠ I → h3.get? d = some o → hq'.get? d = some o := fun d o n e => hk d o (fun z => n (List.mem_singleton.mp z)) e
  have g2 := kk S _ hIS gS
  show wpAny _ _ (updateSeq S (fun _ => #[v, v]) >>= _) _ _ _
  refine wpAny_bind (wpAny_updateSeq g2 rfl ?_)
  rw [nm]
  have all : ∀ d o, hp.get? d = some o → d ≠ I ∧ d ≠ S ∧ hq'.get? d = some o := fun d o e => by
    have l : d < T := eT ▸ Heap.lt_size e
    have lI : T < I := by omega
    have lS : T < S := by omega
    have n1 : d ≠ I := Nat.ne_of_lt (Nat.lt_trans l lI)
    exact ⟨n1, Nat.ne_of_lt (Nat.lt_trans l lS), kk d o n1 (k3 _ _ (k2 _ _ (k1 _ _ e)))⟩
  refine wpAny_pure ⟨plainId_quiet PySem.F.plain_max_loop _, max_round (i := 1) (its := #[v, vb]) (vy := vb) (vx := v) (T := T) (b := k) hh hIT hIS hST ?_ rfl rfl (Heap.get?_update_self _ g2 rfl) (fun h' tk' kp => ?_) fun h' tk' kp => ?_⟩
  · refine W.frame _ _ _ st fun d hd o e => (Heap.get?_update_other _ _ ?_).trans e
    intro z
    rcases List.mem_cons.mp hd with q | q
    · exact hIS (z.trans q)
    · exact hST (z.trans (List.mem_singleton.mp q))
  · refine hc h' tk' fun d o e => ?_
    obtain ⟨n1, n2, e2⟩ := all d o e
    exact kp d o n1 ((Heap.get?_update_other _ _ (Ne.symm n2)).trans e2)
  · refine hq h' tk' fun d o e => ?_
    obtain ⟨n1, n2, e2⟩ := all d o e
    exact kp d o n1 n2 ((Heap.get?_update_other _ _ (Ne.symm n2)).trans e2)

end
/-! ### min(t, u), max(t, u) of two tuples of ints -/
/-- t < u by the model's own look from place to place -/
def lexP (lt : Int → Int → Bool) (e : Bool) (ns ms : List Int) : Bool := Ob.lexAt (fun j => decide (ns.getD j 0 = ms.getD j 0)) (fun j => lt (ns.getD j 0) (ms.getD j 0)) e 0 (min ns.length ms.length)
section
variable {X : Cx}
theorem tup_ops {s : Shared} {pins : List (Addr × Obj)} {σ : L2.St} {H : Hp} {a b : Addr} {ns ms : List Int} (I : L2.Inv X pins σ H s) (ha : H a = some (.tup (ns.map V.int))) (hb : H b = some (.tup (ms.map V.int))) (hu : X.A.units + 1 < cLine) (h' : Heap) (tk : Nat) (kp : KeepH s.heap h') :
    Ob.RcOp .Lt X.A.in1 { s with heap := h', toks := tk } (.ref a) (.ref b) (lexP (fun x y => decide (x < y)) (decide (ns.length < ms.length)) ns ms) ∧
    Ob.RcOp .Gt X.A.in1 { s with heap := h', toks := tk } (.ref a) (.ref b) (lexP (fun x y => decide (x > y)) (decide (ns.length > ms.length)) ns ms) := by
  obtain ⟨its, r1, p1, _⟩ := I.tuple (SqT.of ha)
  obtain ⟨its2, r2, p2, _⟩ := I.tuple (SqT.of hb)
  have i1 : IntsAre its ns := Vals.ints r1
  have i2 : IntsAre its2 ms := Vals.ints r2
  have e1 : its.toArray.size = ns.length := by rw [List.size_toArray]; exact i1.length
  have e2 : its2.toArray.size = ms.length := by rw [List.size_toArray]; exact i2.length
  obtain ⟨o1, g1, c1, n1, d1⟩ := p1
  obtain ⟨o2, g2, c2, n2, d2⟩ := p2
  have q1 : Heap.IsTuple h' a its.toArray := ⟨o1, kp _ _ g1, c1, n1, d1⟩
  have q2 : Heap.IsTuple h' b its2.toArray := ⟨o2, kp _ _ g2, c2, n2, d2⟩
  have at1 : ∀ j (h1 : j < its.toArray.size), ∃ t, its.toArray[j] = .int (ns.getD j 0) t := fun j h1 => PyProof.Rows.IntsAre.int_at i1 _ _ (by simp at h1; simp [h1])
  have at2 : ∀ j (h1 : j < its2.toArray.size), ∃ t, its2.toArray[j] = .int (ms.getD j 0) t := fun j h1 => PyProof.Rows.IntsAre.int_at i2 _ _ (by simp at h1; simp [h1])
  have eqs : ∀ (B : Around) (s2 : Shared) j (h1 : j < its.toArray.size) (h2 : j < its2.toArray.size), SeqAt.EqAt B s2 its.toArray[j] its2.toArray[j] (decide (ns.getD j 0 = ms.getD j 0)) := fun B s2 j h1 h2 => by
    obtain ⟨t, et⟩ := at1 j h1
    obtain ⟨t', et'⟩ := at2 j h2
    rw [et, et', ← Bool.beq_eq_decide_eq]
    exact SeqAt.EqAt.int_int _ _ _ _
  constructor
  · have R := Ob.RcOp.tuples_lt (A := X.A.in1) (s := { s with heap := h', toks := tk }) (e := fun j => decide (ns.getD j 0 = ms.getD j 0)) (r := fun j => decide (ns.getD j 0 < ms.getD j 0)) q1 q2 hu (eqs _ _) (fun j h1 h2 _ => by
      obtain ⟨t, et⟩ := at1 j h1
      obtain ⟨t', et'⟩ := at2 j h2
      rw [et, et']
      exact Ob.RcOp.lt_int _ _ _ _)
    rw [e1, e2] at R
    exact R
  · have R := Ob.RcOp.tuples_gt (A := X.A.in1) (s := { s with heap := h', toks := tk }) (e := fun j => decide (ns.getD j 0 = ms.getD j 0)) (r := fun j => decide (ns.getD j 0 > ms.getD j 0)) q1 q2 hu (eqs _ _) (fun j h1 h2 _ => by
      obtain ⟨t, et⟩ := at1 j h1
      obtain ⟨t', et'⟩ := at2 j h2
      rw [et, et']
      exact Ob.RcOp.gt_int _ _ _ _)
    rw [e1, e2] at R
    exact R
/-- min(t, u), max(t, u), both tracked tuples of ints: one of the two themselves -/
def rBest (lt : List Int → List Int → Bool) : List V → Hp → VK → Prop := fun xs H Q => ∃ (a b : Addr) (ns ms : List Int), xs = [.ref a, .ref b] ∧ H a = some (.tup (ns.map V.int)) ∧ H b = some (.tup (ms.map V.int)) ∧ Q (.ref (if lt ms ns = true then b else a)) H
theorem call_minT (hc : X.calm = true) (hu : X.A.units + 1 < cLine) : CallR X (.builtin "min") (rBest fun ns ms => lexP (fun x y => decide (x < y)) (decide (ns.length < ms.length)) ns ms) := by
  intro pins s σ H xs us Q I r h
  obtain ⟨a, b, ns, ms, rfl, ha, hb, q⟩ := h
  obtain ⟨u, w', rfl, r1, r2⟩ := vals2 r
  cases r1
  cases r2
  refine min2_by (I.ok.hd hc) (fun h' tk kp => (tup_ops I hb ha hu h' tk kp).1) fun h' tk kp => ⟨_, H, I.kept kp, ?_, q⟩
  split <;> rfl
theorem call_maxT (hc : X.calm = true) (hu : X.A.units + 1 < cLine) : CallR X (.builtin "max") (rBest fun ns ms => lexP (fun x y => decide (x > y)) (decide (ns.length > ms.length)) ns ms) := by
  intro pins s σ H xs us Q I r h
  obtain ⟨a, b, ns, ms, rfl, ha, hb, q⟩ := h
  obtain ⟨u, w', rfl, r1, r2⟩ := vals2 r
  cases r1
  cases r2
  refine max2_by (I.ok.hd hc) (fun h' tk kp => (tup_ops I hb ha hu h' tk kp).2) fun h' tk kp => ⟨_, H, I.kept kp, ?_, q⟩
  split <;> rfl
end
/-! ### f(k = v, ..), keywords alone -/
section
variable {X : Cx} {CX : CXT} {k : Nat} {f : Addr} {fd : FuncData} {ps ks : List Str} {sp : Sp} {x : Str} {p pos : Pos} {E : XK} {tk : TA} {kws : List Keyword} {g : List Value → List Value → List Value} {gV : List V → List V → List V}
theorem pe_callKw (F : FnOk X.prog X.w X.K X.mg X.base CX k f fd ps sp) (hr : Room k X.A) (hg : Gl X x) (hm : X.mg x = some (.ref f)) (hk : PySem.W.keepIn X.K (.ref f) = true) (hb : KBinds X.K fd ps ks g gV) (hx : Passes CX X E)
    (hkw : PK X kws tk) (hall : (backToKw pos (keywordEach kws X.env)).all (·.1.isSome) = true := by rfl) (hks : (backToKw pos (keywordEach kws X.env)).filterMap (·.1) = ks := by rfl)
    (hdb : (x == ("__debug__" : Str)) = false := by decide) (hpl : ((backTo pos (starEach [] X.env)).any (·.1) || (backToKw pos (keywordEach kws X.env)).any (·.1.isNone)) = false := by rfl) :
    PE X (.Call (.Name x p) [] kws pos) (fun σ H Q => tk σ H fun zs H2 => sp (gV [] zs) H2 Q E) := by
  refine ⟨fun pins s σ H Q I h => ?_⟩
  refine wpAny_Call_Name_kw (ld_glob I hg hm ?_ hdb)
  refine PySem.W.callWith_KW0 (h₀ := X.base) I.ok.mod.kin hk hall (thn (hkw.run pos pins s σ H _ I h) fun ws s2 ⟨zs, H2, I2, rz, q2⟩ => ⟨I2.kIn, ?_⟩) hpl
  rw [hks]
  exact run_fnk (us := []) (vs := []) F hr hb hx I2 .nil rz q2
end
/-! ### what a source is, and what a step leaves -/
/-- a source at s: three ints -/
def Src (H : Hp) (s : Addr) : Prop := ∃ a b c : Int, H s = some (.lst [.int a, .int b, .int c])
theorem Src.ne {H : Hp} {s p : Addr} {o : HO} (h : Src H s) (e : H p = some o) (d : ∀ a b c : Int, o ≠ .lst [.int a, .int b, .int c]) : p ≠ s := by
  obtain ⟨a, b, c, q⟩ := h
  exact ne_of e q (d a b c)
theorem Src.nen {H : Hp} {s p : Addr} (h : Src H s) (e : H p = none) : p ≠ s := by
  obtain ⟨a, b, c, q⟩ := h
  exact (ne_of_none q e).symm
/-- from H to H' all stands but the source at s, which is still one -/
structure Stp (s : Addr) (H H' : Hp) : Prop where
  keep : ∀ b o, b ≠ s → H b = some o → H' b = some o
  src : Src H' s
theorem Stp.refl {s : Addr} {H : Hp} (h : Src H s) : Stp s H H := ⟨fun _ _ _ e => e, h⟩
theorem Stp.trans {s : Addr} {H H1 H2 : Hp} (a : Stp s H H1) (b : Stp s H1 H2) : Stp s H H2 := ⟨fun c o n e => b.keep c o n (a.keep c o n e), b.src⟩
theorem Stp.new {s : Addr} {H H' : Hp} {p : Addr} {o : HO} (a : Stp s H H') (n : H' p = none) : Stp s H (upd H' p o) := by
  obtain ⟨x, y, z, e⟩ := a.src
  refine ⟨fun b u nb eb => ?_, x, y, z, ?_⟩
  · have q := a.keep b u nb eb
    rw [upd_ne (ne_of_none q n)]
    exact q
  · rw [upd_ne (ne_of_none e n)]
    exact e
theorem Stp.turn {s : Addr} {H H' : Hp} (a : Stp s H H') (x y z : Int) : Stp s H (upd H' s (.lst [.int x, .int y, .int z])) :=
  ⟨fun b u nb eb => by rw [upd_ne nb]; exact a.keep b u nb eb, x, y, z, upd_same⟩
theorem Stp.free {s p : Addr} {H H' : Hp} (a : Stp s H H') (n : H' p = none) : H p = none := by
  cases q : H p with
  | none => rfl
  | some o =>
    have np : p ≠ s := a.src.nen n
    rw [a.keep _ _ np q] at n
    cases n
theorem Stp.set {s : Addr} {H H' : Hp} {p : Addr} {o : HO} (a : Stp s H H') (n : H p = none) (np : p ≠ s) : Stp s H (upd H' p o) := by
  obtain ⟨x, y, z, e⟩ := a.src
  refine ⟨fun b u nb eb => ?_, x, y, z, ?_⟩
  · rw [upd_ne (ne_of_none eb n)]
    exact a.keep b u nb eb
  · rw [upd_ne np.symm]
    exact e
/-- a site at t -/
def Sit (H : Hp) (t : Addr) (x y : Int) : Prop := H t = some (.tup [.int x, .int y])
theorem Sit.ne {H : Hp} {s t : Addr} {x y : Int} (h : Sit H t x y) (q : Src H s) : t ≠ s := q.ne h fun _ _ _ z => by cases z
theorem Sit.stp {H H' : Hp} {s t : Addr} {x y : Int} (h : Sit H t x y) (q : Src H s) (a : Stp s H H') : Sit H' t x y := a.keep _ _ (h.ne q) h
theorem Sit.same {H H' : Hp} {t : Addr} {x y : Int} (h : Sit H t x y) (a : Same H H') : Sit H' t x y := a _ _ h

theorem b2i_small (b : Bool) : -(2 ^ 64) < (if b = true then (1 : Int) else 0) ∧ (if b = true then (1 : Int) else 0) < 2 ^ 64 := by cases b <;> decide
theorem sm {m : Int} (h : m.natAbs < 2 ^ 64) : m.natAbs < 2 ^ 8000 := Nat.lt_of_lt_of_le h (Nat.pow_le_pow_right (by decide) (by decide))
theorem Same.upd {H : Hp} {p : Addr} {o : HO} (h : H p = none) : Same H (upd H p o) := fun b x e => by
  rw [upd_ne (ne_of_none e h)]
  exact e
theorem Stp.same {s : Addr} {H H1 H2 : Hp} (a : Stp s H H1) (b : Same H1 H2) : Stp s H H2 := by
  obtain ⟨x, y, z, e⟩ := a.src
  exact ⟨fun c o n q => b _ _ (a.keep c o n q), x, y, z, b _ _ e⟩
/-! ### ** 2 and // of great numbers, of either sign -/
def CSq (i j : Int) : Prop := j = 2 ∧ i.natAbs < 2 ^ 1000
theorem op_sq {X : Cx} : OpR X (binaryOp .Pow) (rI CSq fun i _ => .int (i * i)) := opI fun i j _ _ _ _ _ hc q => by
  obtain ⟨rfl, hb⟩ := hc
  refine pow_int (by decide) ?_ (by rw [show i ^ (2 : Int).toNat = i * i from Int.pow_succ i 1 ▸ by rw [Int.pow_one]]; exact q)
  have b : Builtin.Int.intBits i ≤ i.natAbs.log2 + 1 := by
    unfold Builtin.Int.intBits
    split <;> omega
  have l := PySem.Flt.log2_lt_of (by decide : 0 < 1000) hb
  omega
def CDivE (_ j : Int) : Prop := j ≠ 0 ∧ j.natAbs < 2 ^ 8000
theorem op_fdivE {X : Cx} : OpR X (binaryOp .FloorDiv) (rI CDivE fun i j => .int (i.fdiv j)) := opI fun i j _ _ _ _ _ hc q =>
  floordiv_int hc.1 q (.inl (PyProof.noPylong_of_log2 (Nat.lt_of_lt_of_le (PySem.Flt.log2_lt_of (by decide) hc.2) (by decide))))
/-! ### readings made weaker -/
theorem peOf {X : Cx} {e : Expr} {t t' : TE} (h : PE X e t) (m : ∀ σ H Q, t' σ H Q → t σ H Q) : PE X e t' := ⟨fun pins s σ H Q I hw => h.run pins s σ H Q I (m σ H Q hw)⟩
theorem paOf {X : Cx} {es : List Expr} {t t' : TA} (h : PA X es t) (m : ∀ σ H Q, t' σ H Q → t σ H Q) : PA X es t' := ⟨fun pos pins s σ H Q I hw => h.run pos pins s σ H Q I (m σ H Q hw)⟩
theorem psOf {X : Cx} {st : Stmt} {t t' : TS} (h : PS X st t) (m : ∀ D σ H, t' D σ H → t D σ H) : PS X st t' := ⟨fun pins s σ H D I hw => h.run pins s σ H D I (m D σ H hw)⟩
theorem pssOf {X : Cx} {st : List Stmt} {t t' : TS} (h : PSs X st t) (m : ∀ D σ H, t' D σ H → t D σ H) : PSs X st t' := ⟨fun pins s σ H D I hw => h.run pins s σ H D I (m D σ H hw)⟩
/-- a written number with a minus -/
theorem pe_neg {X : Cx} {i : Int} {j : Nat} {p p2 : Pos} : PE X (.UnaryOp .USub (.Constant (.int i) j p) p2) (tC (.int (-i))) := peOf (pe_un un_neg pe_int) fun _ _ _ h => ⟨_, rfl, h⟩
/-! ### displays of sites -/
def Bd (b x y : Int) : Prop := -b ≤ x ∧ x ≤ b ∧ -b ≤ y ∧ y ≤ b
theorem Bd.mono {b c x y : Int} (h : Bd b x y) (l : b ≤ c) : Bd c x y := by
  obtain ⟨h1, h2, h3, h4⟩ := h
  exact ⟨by omega, by omega, by omega, by omega⟩
/-- every address of ps a site within b -/
def Sits (b : Int) (H : Hp) (ps : List Addr) : Prop := ∀ p ∈ ps, ∃ x y, Sit H p x y ∧ Bd b x y
theorem Sits.same {b : Int} {H H' : Hp} {ps : List Addr} (h : Sits b H ps) (a : Same H H') : Sits b H' ps := fun p m => by
  obtain ⟨x, y, e, d⟩ := h p m
  exact ⟨x, y, a _ _ e, d⟩
theorem Sits.stp {b : Int} {s : Addr} {H H' : Hp} {ps : List Addr} (h : Sits b H ps) (q : Src H s) (a : Stp s H H') : Sits b H' ps := fun p m => by
  obtain ⟨x, y, e, d⟩ := h p m
  exact ⟨x, y, e.stp q a, d⟩
theorem Sits.put {b : Int} {H : Hp} {ps : List Addr} {p : Addr} {o : HO} (h : Sits b H ps) (n : ∀ x y, H p ≠ some (.tup [.int x, .int y])) : Sits b (upd H p o) ps := fun r m => by
  obtain ⟨x, y, e, d⟩ := h r m
  refine ⟨x, y, ?_, d⟩
  show upd H p o r = _
  rw [upd_ne (fun z => n x y (by rw [← z]; exact e))]
  exact e
def tSit (b : Int) : TE := fun _ H Q => ∀ (p : Addr) H' (x y : Int), Same H H' → H p = none → Sit H' p x y → Bd b x y → Q (.ref p) H'
def tSits (b : Int) (n : Nat) : TA := fun _ H Q => ∀ (ps : List Addr) H', Same H H' → ps.length = n → Sits b H' ps → Q (ps.map V.ref) H'
theorem two_line : 2 ≤ sizeLine := by decide
theorem pe_sit {X : Cx} {e1 e2 : Expr} {k : Nat} {pos : Pos} {x y b : Int} (h : PA X [e1, e2] (tCons (tC (.int x)) (tCons (tC (.int y)) tNil))) (hb : Bd b x y) : PE X (.Tuple [e1, e2] k pos) (tSit b) :=
  peOf (pe_tup h) fun _ H Q q => ⟨two_line, fun p np => q p _ x y (Same.upd np) np upd_same hb⟩
theorem sits_nil {b : Int} : ∀ σ H Q, tSits b 0 σ H Q → tNil σ H Q := fun _ H Q q => q [] H (Same.refl _) rfl (fun _ m => nomatch m)
theorem sits_cons {b : Int} {n : Nat} : ∀ σ H Q, tSits b (n + 1) σ H Q → tCons (tSit b) (tSits b n) σ H Q := fun _ H Q q p H1 x y s1 _ e d ps H2 s2 l h => by
  refine q (p :: ps) H2 (s1.trans s2) (by rw [List.length_cons, l]) fun r m => ?_
  rcases List.mem_cons.mp m with rfl | m
  · exact ⟨x, y, s2 _ _ e, d⟩
  · exact h r m
theorem pa_sits0 {X : Cx} {b : Int} : PA X [] (tSits b 0) := paOf pa_nil sits_nil
theorem pa_sits {X : Cx} {e : Expr} {es : List Expr} {b : Int} {n : Nat} (h : PE X e (tSit b)) (hs : PA X es (tSits b n)) (st : starEach (e :: es) X.env = (false, eval e X.env) :: starEach es X.env := by rfl) : PA X (e :: es) (tSits b (n + 1)) := paOf (pa_cons h hs st) sits_cons
end Nc


/-! Own rules: math.gcd of three ints. -/
namespace Nc
open PySem PySem.Spec PyProof.Rows L2
section
open PySem.Calls
theorem gcd3_run (a : Int) (t : Tok) (b : Int) (u : Tok) (c : Int) (v : Tok) :
    Gives (Builtin.«math.gcd» ⟨[.int a t, .int b u, .int c v], []⟩) (.int (((((Nat.gcd 0 a.natAbs).gcd b.natAbs).gcd c.natAbs : Nat) : Int))) :=
  .of_wp fun M A E s Q h => by obtain ⟨hp, g, d, tk, os⟩ := s; wp_walk; exact ⟨_, rfl, h⟩
theorem gcd3_args (a b c : Value) : argsOk "math.gcd" ⟨[a, b, c], []⟩ := by unfold argsOk; kernel_rfl
end
section
variable {X : Cx}
def rGcd3 : List V → Hp → VK → Prop := fun vs H Q => ∃ a b c : Int, vs = [.int a, .int b, .int c] ∧ Q (.int ((Nat.gcd (Nat.gcd a.natAbs b.natAbs) c.natAbs : Nat) : Int)) H
theorem cr_gcd3 : CallR X (.builtin "math.gcd") rGcd3 := by
  intro pins s σ H vs us Q I r h
  obtain ⟨a, b, c, rfl, q⟩ := h
  cases r with
  | cons r1 r => cases r with
    | cons r2 r => cases r with
      | cons r3 r =>
        cases r
        obtain ⟨t1, rfl⟩ := r1
        obtain ⟨t2, rfl⟩ := r2
        obtain ⟨t3, rfl⟩ := r3
        have g := gcd3_run a t1 b t2 c t3
        rw [Nat.gcd_zero_left] at g
        exact call_function_meets PySem.W.MGF.kind_gcd PySem.W.MGF.plain_gcd PySem.W.MGF.entry_gcd (gcd3_args _ _ _) g.meets ⟨.int _, H, I.tok _, ⟨_, rfl⟩, q⟩
end
end Nc

/-! Own rules: small steps that answer what a term asks: used by the local macros of walk.txt. -/
namespace Nc
open PySem PySem.Spec PyProof.Rows L2
section
variable {K : PySem.W.Frag} {H : Hp} {Q : VK} {p q : Addr} {xs ys : List V} {i j : Int} {v x y : V}
theorem w_ixT (h : H p = some (.tup xs)) (e : atI xs i = some v) (z : Q v H) : rIxT K (.ref p) (.int i) H Q := ⟨_, _, _, _, rfl, rfl, SqT.of h, e, z⟩
theorem w_ixL (h : H p = some (.lst xs)) (e : atI xs i = some v) (z : Q v H) : rIxL K (.ref p) (.int i) H Q := ⟨_, _, _, _, rfl, rfl, SqL.of h, e, z⟩
theorem w_gtup {n : Nat} {t : TGs} {σ : L2.St} {Qs : L2.St → Hp → Prop} (h : H p = some (.tup xs)) (e : xs.length = n) (z : t xs σ H Qs) : gTup K n t (.ref p) σ H Qs := ⟨_, _, rfl, SqT.of h, e, z⟩
theorem w_itt {p A B : Prop} [Decidable p] (h : p) (a : A) : if decide p = true then A else B := by
  rw [decide_eq_true h, if_pos rfl]
  exact a
theorem w_itf {p A B : Prop} [Decidable p] (h : ¬ p) (b : B) : if decide p = true then A else B := by
  rw [decide_eq_false h, if_neg (by decide)]
  exact b
theorem w_ntt {p A B : Prop} [Decidable p] (h : p) (b : B) : if (!decide p) = true then A else B := by
  rw [decide_eq_true h, if_neg (by decide)]
  exact b
theorem w_ntf {p A B : Prop} [Decidable p] (h : ¬ p) (a : A) : if (!decide p) = true then A else B := by
  rw [decide_eq_false h, if_pos (by decide)]
  exact a
theorem w_ifd {p A B : Prop} [Decidable p] (h1 : p → A) (h2 : ¬ p → B) : if decide p = true then A else B := by
  by_cases h : p
  · exact w_itt h (h1 h)
  · exact w_itf h (h2 h)
theorem w_ifnd {p A B : Prop} [Decidable p] (h1 : p → B) (h2 : ¬ p → A) : if (!decide p) = true then A else B := by
  by_cases h : p
  · exact w_ntt h (h1 h)
  · exact w_ntf h (h2 h)
theorem w_if {c : Bool} {A B : Prop} (h1 : c = true → A) (h2 : c = false → B) : if c = true then A else B := by
  cases c
  · exact h2 rfl
  · exact h1 rfl
end
/-! bits -/
theorem nbm {a b : Int} {k : Nat} (ha : a.natAbs < 2 ^ (k / 2)) (hb : b.natAbs < 2 ^ (k / 2)) : (a * b).natAbs < 2 ^ k := by
  have h : a.natAbs * b.natAbs < 2 ^ (k / 2) * 2 ^ (k / 2) := Nat.mul_lt_mul'' ha hb
  rw [Int.natAbs_mul]
  rw [← Nat.pow_add] at h
  exact Nat.lt_of_lt_of_le h (Nat.pow_le_pow_right (by decide) (by omega))
theorem nba {a b : Int} {k : Nat} (h : 0 < k) (ha : a.natAbs < 2 ^ (k - 1)) (hb : b.natAbs < 2 ^ (k - 1)) : (a + b).natAbs < 2 ^ k := by
  obtain ⟨m, rfl⟩ : ∃ m, k = m + 1 := ⟨k - 1, by omega⟩
  rw [Nat.add_sub_cancel] at ha hb
  rw [Nat.pow_succ]
  omega
theorem nbs {a b : Int} {k : Nat} (h : 0 < k) (ha : a.natAbs < 2 ^ (k - 1)) (hb : b.natAbs < 2 ^ (k - 1)) : (a - b).natAbs < 2 ^ k := by
  obtain ⟨m, rfl⟩ : ∃ m, k = m + 1 := ⟨k - 1, by omega⟩
  rw [Nat.add_sub_cancel] at ha hb
  rw [Nat.pow_succ]
  omega
theorem nbn {a : Int} {k : Nat} (ha : a.natAbs < 2 ^ k) : (-a).natAbs < 2 ^ k := by rwa [Int.natAbs_neg]
theorem nbu {a : Int} {j k : Nat} (ha : a.natAbs < 2 ^ j) (h : j ≤ k) : a.natAbs < 2 ^ k := Nat.lt_of_lt_of_le ha (Nat.pow_le_pow_right (by decide) h)
theorem nbd {a b : Int} {k : Nat} (ha : a.natAbs < 2 ^ k) : (a.fdiv b).natAbs < 2 ^ (k + 1) := by
  rw [Nat.pow_succ]
  have h := ha
  rcases Int.lt_trichotomy b 0 with hb | hb | hb
  · have e : a.fdiv b = (-a).fdiv (-b) := (Int.neg_fdiv_neg a b).symm
    rw [e, Int.fdiv_eq_ediv_of_nonneg _ (by omega)]
    have := Int.natAbs_ediv_le_natAbs (-a) (-b)
    omega
  · subst hb
    rw [Int.fdiv_zero]
    omega
  · rw [Int.fdiv_eq_ediv_of_nonneg _ (by omega)]
    have := Int.natAbs_ediv_le_natAbs a b
    omega
theorem cmw {a b : Int} (ha : a.natAbs < 2 ^ 8000) (hb : b.natAbs < 2 ^ 8000) : CMulW a b := wide_mul ha hb (by decide) (by decide) (by decide)
end Nc

/-! Own rules: C() of an own class over ArithmeticError whose __init__ passes; a try whose first clause is named and meets. -/
namespace Nc
open PySem PySem.Spec PyProof.Rows L2
abbrev aeTail : List Value := [.type "ArithmeticError", .type "Exception", .type "BaseException", .type "object"]
/-- the class at C stands under ArithmeticError, its constructor is the def at fI -/
structure PassC (K : PySem.W.Frag) (C fI : Addr) : Prop where
  cls : ∃ nm q N bs bm hd sn sub ab col dd k0 k1 k2 k3 k5, K.lookup C = some (excClassObj nm q C N bs bm hd sn sub ab col dd k0 k1 k2 k3 k5 "ArithmeticError.__new__") ∧ ∀ Y : String, bm.contains (.type Y) = aeTail.contains (.type Y)
  initF : PySem.W.findIn K (.ref C) "__init__" = some (some (.ref fI))
  isDef : PySem.W.typeIn K (.ref fI) = some (.type "function")
  ofBase : PySem.W.subIn K (.ref C) (.type "BaseException") = some true
  ofType : PySem.W.typeIn K (.ref C) = some (.type "type")
  stays : PySem.W.keepIn K (.ref C) = true
def spPass : Sp := fun vs H Q _ => ∃ a : Addr, vs = [.ref a] ∧ Q .non H
section
variable {X : Cx}
theorem pmk_pass {CX : CXT} {x : Str} {C fI : Addr} {k : Nat} {fd : FuncData} {p pos : Pos} (T : PassC X.K C fI) (F1 : FnOk X.prog X.w X.K X.mg X.base CX k fI fd ["self"] spPass) (hr : Room (k + 1) X.A) (hb : Binds X.K fd ["self"] [])
    (hx : Passes CX X (fun _ _ _ => False)) (hg : Gl X x) (hm : X.mg x = some (.ref C)) (hdb : (x == ("__debug__" : Str)) = false := by decide) :
    PMk X (.Call (.Name x p) [] [] pos) (fun _ H Q => Q (.ref C) none H) := by
  intro pins s σ H Q I h
  obtain ⟨nm, q, N, bs, bm, hd, sn, sub, ab, col, dd, k0, k1, k2, k3, k5, hC, hbm⟩ := T.cls
  refine wpAny_Call_Name_kw (ld_glob I hg hm ?_ hdb)
  refine PySem.W.callWith_K0 I.kIn T.stays ?_
  show wpAny _ _ (call (.ref C) []) _ _ _
  have I1 := I
  obtain ⟨h0, g, dr, tk, os⟩ := s
  have below : h0.objs.size ≤ h0.objs.size + 1 := Nat.le_succ _
  have hn : H (h0.objs.size + 1) = none := I1.hok.fresh below
  have old : ∀ b o, h0.get? b = some o → ((h0.push (PySem.W.kdv_tup [])).push (PySem.HandSPX.excO C h0.objs.size)).get? b = some o := fun b o e => Heap.get?_push_of_some _ (Heap.get?_push_of_some _ e)
  have hget : ((h0.push (PySem.W.kdv_tup [])).push (PySem.HandSPX.excO C h0.objs.size)).get? (h0.objs.size + 1) = some (PySem.HandSPX.excO C h0.objs.size) := by heap_get
  have I2 : Inv X pins σ H ⟨(h0.push (PySem.W.kdv_tup [])).push (PySem.HandSPX.excO C h0.objs.size), g, dr, tk, os⟩ := I1.kept (t' := tk) old
  have b := hb ⟨(h0.push (PySem.W.kdv_tup [])).push (PySem.HandSPX.excO C h0.objs.size), g, dr, tk, os⟩ [Value.ref (h0.objs.size + 1)] I2.kIn rfl
  have hsp : spPass [V.ref (h0.objs.size + 1)] H (fun v H2 => v = .non ∧ H2 = H) (fun _ _ _ => False) := ⟨_, rfl, rfl, rfl⟩
  refine wpAny_call (PySem.HandSPX.call_own F.excBase_ArithmeticError hbm (I1.kIn _ _ hC) (PySem.W.looks_findIn I1.kIn T.initF) (fun self => PySem.W.bind_fn I1.kIn self T.isDef) (Nat.zero_le _)
    (codeAny_mono (F1.run _ X.stack _ _ ⟨[Value.ref (h0.objs.size + 1)], []⟩ [Value.ref (h0.objs.size + 1)] [V.ref (h0.objs.size + 1)] _ (fun _ _ _ => False) (hr.make C [] []) (I2.env0.make C [] []) b (.cons rfl .nil) hsp) fun r s' got => ?_))
  cases r with
  | error err => exact hx pins σ _ _ err s' I2 got
  | ok flow =>
    cases flow with
    | ret u =>
      obtain ⟨v, H2, osE, bare, und, ok2, rv, ev, eH2⟩ := got
      subst ev
      subst eH2
      obtain ⟨h2, g2, d2, t2, os'⟩ := s'
      refine ⟨rv, ?_⟩
      have hfr : h0.objs.size + 1 ∉ frs X.stack := fun z => by
        obtain ⟨_, o, ho, hnf⟩ := I2.stack.mem z
        rw [hget] at ho
        cases ho
        exact hnf _ rfl
      have atE : h2.get? (h0.objs.size + 1) = some (PySem.HandSPX.excO C h0.objs.size) := und.keep _ _ hget hn hfr (by simp)
      obtain ⟨G, gA, gB⟩ := restrict h2 fun b => decide (b ≠ h0.objs.size + 1)
      have same : ∀ b, b ≠ h0.objs.size + 1 → G.get? b = h2.get? b := fun b hb => gA b (decide_eq_true hb)
      have gone : G.get? (h0.objs.size + 1) = none := gB _ (by simp)
      have notE : ∀ {b : Addr} {o : Obj}, h0.get? b = some o → b ≠ h0.objs.size + 1 := fun {b o} z => Nat.ne_of_lt (Nat.lt_of_lt_of_le (Heap.lt_size z) below)
      have UG : Un (frs X.stack) [] H2 H2 h0 G := {
        keep := fun p u e n k1 k2 => by
          rw [same p (notE e)]
          exact und.keep p u (old p u e) n k1 k2
        slot := fun p u e n k1 k2 => by
          rw [same p (notE e)]
          exact und.slot p u (old p u e) n k1 k2
        free := fun b o z n hx => n
        there := fun p u e k2 => by
          rw [same p (notE e)]
          exact und.there p u (old p u e) k2
        tups := fun b xs z => z
        frzs := fun b o v z => z
        tbls := fun b ps z => ⟨#[], by rw [z]; simp⟩ }
      have okG : HOk X.prog X.w H2 G := fun b o z => by
        have nb : ∀ {c : Addr} {o : HO}, H2 c = some o → c ≠ h0.objs.size + 1 := fun {c o} hc e => by
          rw [e, hn] at hc
          cases hc
        refine (ok2 b o z).stay (fun c v hc y => ?_) (fun _ r => r) fun _ _ r => r
        have hca : c ≠ h0.objs.size + 1 := by
          rcases hc with hc | hc
          · rw [hc]
            exact nb z
          · exact nb hc
        rw [same c hca]
        exact y
      have os2' : os' = os := osE
      have J : Inv X pins σ H2 ⟨G, g2, d2, t2, os'⟩ := I1.call' (ch := []) os2' UG okG bare (fun b z => absurd z (by simp))
      refine ⟨_, _, _, ⟨G, g2, d2, t2, os'⟩, H2, .ref C, none, rfl, J, fun b o z => ?_, gone, atE, ⟨rfl, rfl⟩, rfl, rfl, hn, rfl, bare, raises_own T.ofBase T.ofType, h⟩
      by_cases isE : b = h0.objs.size + 1
      · rw [isE, gone] at z
        cases z
      · exact (same b isE).symm.trans z
    | next => exact False.elim got
    | brk => exact False.elim got
    | cont => exact False.elim got
end
/-! ### a try whose first clause bears a name and meets -/
/-- an object with fields is no frame -/
theorem off_frames {B h : Heap} {l : List Env} {a : Addr} {o : Obj} {vs : Array Value} (ff : h.FunFrames B l) (e : h.get? a = some o) (d : o.data = .fields vs) : a ∉ frs l := by
  intro m
  rcases ff.mem m with ⟨_, o2, g, n⟩
  have z : o = o2 := Option.some.inj (e.symm.trans g)
  exact n vs (z ▸ d)
section
variable {X : Cx} {pins : List (Addr × Obj)} {σ : L2.St} {H : Hp} {s : Shared} {a : Addr} {cls : Value} {d : Option Addr}
/-- landed, the exception is one that a suite may hold -/
theorem in_suite {B : Heap} (hf : X.env.frame = some X.env.locals) (J : Inv X pins σ H s) (fl : HandSPX.FlyingZ B (X.env :: X.outer) a (Zc cls d) s.heap) (na : H a = none) :
    ∃ oe : Obj, Zc cls d oe ∧ (∃ vs, oe.data = .fields vs) ∧ s.heap.get? a = some oe ∧ Inv (X.suite a ((a, oe) :: (X.pn ++ pins))) [] σ H s := by
  rcases fl.there with ⟨oe, vs, g, z, w⟩
  have off := off_frames fl.2.2.1 g w
  have e : frs (X.env :: X.outer) = X.env.locals :: frs X.outer := List.filterMap_cons_some hf
  rw [e] at off
  exact ⟨oe, z, ⟨vs, w⟩, g, J.suite g w na (fun q => off (q ▸ List.mem_cons_self)) fun q => off (List.mem_cons_of_mem _ q)⟩
/-- the class that the clause names is looked up -/
theorem clause_name {x : Str} {c : Value} {np : Pos} {Q E : Value → Shared → Prop} {o : Obj} {pn : List (Addr × Obj)} (S : Inv (X.suite a ((a, o) :: pn)) [] σ H s) (hc : Names X x c) (q : Q c s) : wpAny (model X.prog X.w) (X.A.mark (some (.ref a))) (eval (.Name x np) X.env) Q E s :=
  hc.2.2.elim (fun m => ld_glob (X := X.suite a ((a, o) :: pn)) S hc.1 m q hc.2.1) fun m => ld_blt (X := X.suite a ((a, o) :: pn)) S hc.1 m.1 m.2.1 q m.2.2 hc.2.1
/-- the ends of a suite whose name i goes -/
abbrev dropI (i : Nat) (D : Ends) : Ends := { nx := fun σ H => D.nx (σ.set i none) H, rt := D.rt, bk := fun σ H => D.bk (σ.set i none) H, ct := fun σ H => D.ct (σ.set i none) H }
theorem sp_gone {i : Nat} {n : Str} {pos : Pos} {D : Ends} {f : Flow} {o : Obj} (ok : X.Ok) (hN : X.N.Nodup) (hi : X.N[i]? = some n) (hl : X.env.kindOf n = some .local) (h : SP (X.suite a ((a, o) :: (X.pn ++ pins))) [] (dropI i D) f s) :
    wpAny (model X.prog X.w) X.A (do bindName X.env n .none; unbindBehindTheSuite X.env n pos) (fun _ s7 => SP X pins D f s7) X.xe s := by
  cases f with
  | ret u =>
    rcases h with ⟨v, σ1, H1, I1, r, q⟩
    exact gone_ok (I1.unsuite ok) hN hi hl fun s2 I2 => ⟨v, _, H1, I2, r, q⟩
  | _ =>
    rcases h with ⟨σ1, H1, I1, q⟩
    exact gone_ok (I1.unsuite ok) hN hi hl fun s2 I2 => ⟨_, H1, I2, q⟩
theorem sp_body {D : Ends} {f : Flow} {xe : Value → Shared → Prop} (ok : X.Ok) (h : SP (X.tr (X.pn ++ pins) xe) [] D f s) : SP X pins D f s := by
  cases f with
  | ret u => exact h.elim fun v h => h.elim fun σ1 h => h.elim fun H1 h => ⟨v, σ1, H1, h.1.ofTry ok, h.2⟩
  | _ => exact h.elim fun σ1 h => h.elim fun H1 h => ⟨σ1, H1, h.1.ofTry ok, h.2⟩
/-- the wish: the clause's class is met, and the suite does the rest -/
def wAs1 (K : PySem.W.Frag) (c : Value) (i : Nat) (ts : Addr → Value → Option Addr → TS) (D : Ends) : WX := fun cls d σ H => PySem.W.exmOne K cls c = some true ∧ ∀ a, H a = none → ts a cls d (dropI i D) (σ.set i (some (.ref a))) H
theorem ps_try_as1 {x n : Str} {c : Value} {i : Nat} {body suite : List Stmt} {b₀ : Stmt} {hds : List ExceptHandler} {np pos pos' : Pos} {tb : WX → TS} {ts : Addr → Value → Option Addr → TS} (hs : X.stack = X.env :: X.outer) (hf : X.env.frame = some X.env.locals) (hN : X.N.Nodup) (hi : X.N[i]? = some n)
    (hln : X.env.kindOf n = some .local) (hc : Names X x c) (hb : ∀ (W : WX) (pn : List (Addr × Obj)) (xe : Value → Shared → Prop), Takes (X.tr pn xe) W → PSs (X.tr pn xe) body (tb W))
    (hsu : ∀ (a : Addr) (oe : Obj) (cls : Value) (d : Option Addr) (pn : List (Addr × Obj)), Zc cls d oe → (∃ vs, oe.data = .fields vs) → PSs (X.suite a ((a, oe) :: pn)) (b₀ :: suite) (ts a cls d)) :
    PS X (.Try body (.ExceptHandler (some (.Name x np)) (some n) (b₀ :: suite) pos' :: hds) [] [] pos) (fun D σ H => tb (wAs1 X.K c i ts D) D σ H) := ⟨fun pins s σ H D I h => by
  have ok := I.ok
  have hfr : X.A.frames = some (X.env :: X.outer) := ok.frames.trans (congrArg some hs)
  let caught : Value → Shared → Prop := fun u s₁ => wpAny (model X.prog X.w) X.A (noteFrame u X.env) (fun _ s₂ => wpAny (model X.prog X.w) X.A (setFlight u none) (fun _ s₃ =>
    wpAny (model X.prog X.w) X.A (handleBy u X.env (.ExceptHandler (some (.Name x np)) (some n) (b₀ :: suite) pos' :: hds)) (SP X pins D) X.xe s₃) X.xe s₂) X.xe s₁
  refine wpAny_Try_except (wpAny_mono ((hb (wAs1 X.K c i ts D) (X.pn ++ pins) caught (fun u s' air => ?_)).run [] s σ H D (I.toTry caught) h) (fun f s1 e => ?_) fun _ _ e => e)
  · rcases air with ⟨a, B, s0, _, σ1, H1, cls, d, rfl, I1, nb, up, sky, na, os, ag, meets, wish⟩
    have J0 : Inv X pins σ1 H1 s0 := I1.ofTry ok
    refine Sky.land (env := X.env) (outer := X.outer) Zc.steady hfr hf (hs ▸ sky) fun h2 fl2 up2 => ?_
    rcases in_suite hf (J0.landed nb fl2.1 (up.trans up2) os ag : Inv X pins σ1 H1 { s' with heap := h2 }) fl2 na with ⟨o2, z2, _, g2, S2⟩
    have look := PySem.W.exm_one (M := model X.prog X.w) (h := h2) S2.kIn (fun _ _ _ _ k q => wpAny_typeOf_ref (k _ _ g2) (z2.1.symm ▸ q)) meets
    refine wpAny_handleBy_cons (codeAny_handlers_test (clause_name S2 hc (look.here (codeAny_handlers_suite_as ?_)))) fun q => nomatch q
    refine HandSPX.lands_againZ fl2 fun h3 fl3 up3 => ?_
    rcases in_suite hf (J0.landed nb fl3.1 ((up.trans up2).trans up3) os ag : Inv X pins σ1 H1 { s' with heap := h3 }) fl3 na with ⟨o3, z3, v3, _, S3⟩
    exact store_ok (X := X.suite a ((a, o3) :: (X.pn ++ pins))) (v := V.ref a) S3 hN hi (.inl hln) rfl (fun s4 S4 => wpAny_mono ((hsu a o3 cls d _ z3 v3).run [] s4 _ H1 _ S4 (wish a na)) (fun f s5 e => sp_gone ok hN hi hln e) fun _ _ z => z.elim) (.inr hln)
  · cases f with
    | next => exact wpAny_execs_nil (sp_body ok e)
    | _ => exact sp_body ok e⟩
end
end Nc

/-! Own rules: C(e) of an own class over ArithmeticError whose constructor keeps its argument in a field. -/
namespace Nc
open PySem PySem.Spec PyProof.Rows L2
/-- the class at C stands under ArithmeticError and has a dict -/
structure FieldC (K : PySem.W.Frag) (C : Addr) : Prop where
  over : PySem.W.excOver K C aeTail = true
  data : ∃ cd, PySem.W.clsIn K C = some cd ∧ cd.hasDict = true
  sets : PySem.W.findIn K (.ref C) "__setattr__" = some (some (.builtin "object.__setattr__"))
section
open Builtin Builtin.ObjectAttr PySem.W PySem.Calls PySem.HandSPX
variable {prog : Program} {w : World} {A : Around} {R : Result → Shared → Prop} {h0 : Heap} {g : Array GenState} {d : Drawn} {t : Nat} {os : OsState}
theorem lay_dict {K : PySem.W.Frag} {name : Str} {tk : Tok} {v : Value} {x C : Addr} {fv : Array Value} (T : FieldC K C) (X : K.In h0) (hx : h0.get? x = some ({ cls := .ref C, data := .fields fv } : Obj)) (ht : PySem.W.takerIn K C name = some none)
    (hq : ∀ h' tk' dx, (∀ b o, b ≠ x → h0.get? b = some o → h'.get? b = some o) → h0.objs.size ≤ dx → dx ≠ x → h'.get? x = some ({ cls := .ref C, dict := some dx, data := .fields fv } : Obj) →
      h'.Ns1 dx (fun y => if y = name then some v else none) → R (.ok (.ret .none)) ⟨h', g, d, tk', os⟩) :
    codeAny (model prog w) A (.call (.builtin "object.__setattr__") ⟨[.ref x, .str name tk, v], []⟩) R ⟨h0, g, d, t, os⟩ := by
  refine PySem.W.osa_openX PySem.F.store_ArithmeticError X (ox := { cls := .ref C, data := .fields fv }) (od := none) ⟨hx, rfl, rfl, trivial⟩ T.over ht fun b => ?_
  obtain ⟨cd, hcd, hh⟩ := T.data
  have look : PySem.W.Looks (model prog w) h0 (classData C) cd := PySem.W.looks_clsIn X hcd
  have xlt : x < h0.objs.size := Heap.lt_size hx
  show wpAny _ _ (storeInOwnDict (.ref x) (.ref C) (.str name tk) name v b) _ _ _
  obtain ⟨nm, bs, mro, ns, qn, hd, sn, sb, ab, col, del⟩ := cd
  cases hh
  unfold storeInOwnDict ownDictForStores
  repeat (first | with_reducible refine store_in_new ?_ ?_ | with_reducible refine wpAny_loadPart_at hx ?_ | with_reducible refine look.at ?_ | wp_step)
  · exact ⟨_, #[], _, (Heap.get?_update_ne _ _ _ _ (Nat.ne_of_gt xlt)).trans (Heap.get?_push_at rfl rfl), rfl, fun _ m => absurd m (by simp), fun _ => rfl⟩
  · intro h' tk' hn' sb
    refine hq h' tk' h0.objs.size (fun c u nc e => ?_) (Nat.le_refl _) (Nat.ne_of_gt xlt) ?_ hn'
    · exact (sb.2 c (Nat.ne_of_lt (Heap.lt_size e))).trans ((Heap.get?_update_ne _ _ _ _ nc).trans (Heap.get?_push_of_some _ e))
    · exact (sb.2 x (Nat.ne_of_lt xlt)).trans (Heap.get?_update_self _ (Heap.get?_push_of_some _ hx) rfl)
end
/-! ### the store, as the heap of the hand layer sees it -/
theorem Un.track {fs ex : List Addr} {H H1 : Hp} {h h1 : Heap} {d : Addr} {o : HO} (u : Un fs ex H H1 h h1) (hn : h.get? d = none) (hd : H d = none) : Un fs ex H (upd H1 d o) h h1 where
  keep := u.keep
  slot := u.slot
  there := u.there
  free := fun b ob e n x => by
    rw [upd_ne (fun z => by rw [z, hn] at e; cases e)]
    exact u.free b ob e n x
  tups := fun b xs e => by
    rw [upd_ne (ne_of_none e hd)]
    exact u.tups b xs e
  frzs := fun b ob v e => by
    rw [upd_ne (ne_of_none e hd)]
    exact u.frzs b ob v e
  tbls := fun b ps e => by
    rw [upd_ne (ne_of_none e hd)]
    exact u.tbls b ps e
section
variable {X : Cx} {pins : List (Addr × Obj)} {σ : L2.St} {H : Hp} {s : Shared} {a C : Addr} {f : Str} {y : V} {u : Value} {A : Around} {Q : Unit → Shared → Prop} {E : Value → Shared → Prop}
theorem first_field (T : FieldC X.K C) (ht : PySem.W.takerIn X.K C f = some none) (I : Inv X pins σ H s) (e : H a = some (exo a C none)) (ry : RelV y u)
    (h : ∀ dx s', H dx = none → dx ≠ a → Inv X pins σ (upd (upd H a (exo a C (some dx))) dx (exd dx [(f, y)])) s' → Q () s') : wpAny (model X.prog X.w) A (setAttr (.ref a) f u) Q E s := by
  rcases exo_at I.hok e with ⟨t1, ho⟩
  obtain ⟨h0, g, d, t, os⟩ := s
  refine PySem.W.set_plain I.kIn (od := none) ⟨ho, rfl, rfl, trivial⟩ T.sets (lay_dict T I.kIn ho ht fun h1 t2 dx old fresh ne ha hn => ?_)
  have nd : H dx = none := I.hok.fresh fresh
  have gd : h0.get? dx = none := by
    cases q : h0.get? dx with
    | none => rfl
    | some o => exact absurd (Heap.lt_size q) (Nat.not_lt.mpr fresh)
  have mu : Mut (H a) := by
    rw [e]
    exact True.intro
  exact h dx _ nd ne (I.un (t' := t2) (Un.track (Un.write (x := a) (e := a) (o := exo a C (some dx)) mu (.inl rfl) old ⟨_, ha⟩) gd nd)
    (HOk.laidN (I.hok.write mu (.inl rfl) old ⟨_, ha⟩ (exo_ok ha)) (fun _ _ z => z) (by rw [upd_ne ne]; exact nd) (exd_ok hn (relO_put (fs := []) ry fun _ => True.intro))))
end
/-- self.f = e, the only field of a new exception -/
def tField (K : PySem.W.Frag) (f : Str) (to te : TE) : TS := fun D σ H => te σ H fun y H1 => to σ H1 fun x H2 => ∃ a C : Addr, x = .ref a ∧ FieldC K C ∧ PySem.W.takerIn K C f = some none ∧ H2 a = some (exo a C none) ∧
  ∀ dx, H2 dx = none → dx ≠ a → D.nx σ (upd (upd H2 a (exo a C (some dx))) dx (exd dx [(f, y)]))
theorem ps_field {X : Cx} {o e : Expr} {to te : TE} {f : Str} {p' pos : Pos} (ho : PE X o to) (he : PE X e te) (hs : swapsWith e (some (.Attribute o f p')) pos.line X.env = pure false := by rfl) : PS X (.Assign [.Attribute o f p'] e pos) (tField X.K f to te) :=
  ⟨fun pins s σ H D I h => plainObj_wpAny_Assign_Attribute (thn (he.run pins s σ H _ I h) fun v s1 w1 => by
    rcases w1 with ⟨y, H1, I1, r1, w1⟩
    exact thn (ho.run pins s1 σ H1 _ I1 w1) fun u s2 w2 => by
      rcases w2 with ⟨x, H2, I2, r2, a, C, rfl, T, ht, ea, go⟩
      cases r2
      exact first_field T ht I2 ea r1 fun dx s3 n ne J => ⟨σ, _, J, go dx n ne⟩) hs⟩
/-- the promise of such a constructor: (self, y) -/
def spField (K : PySem.W.Frag) (f : Str) : Sp := fun vs H Q _ => ∃ (a C : Addr) (y : V), vs = [.ref a, y] ∧ FieldC K C ∧ PySem.W.takerIn K C f = some none ∧ H a = some (exo a C none) ∧ ∀ dx, H dx = none → dx ≠ a → Q .non (upd (upd H a (exo a C (some dx))) dx (exd dx [(f, y)]))
section
variable {X : Cx}
theorem pmk_field {CX : CXT} {x f ar : Str} {C fI : Addr} {k : Nat} {fd : FuncData} {e : Expr} {te : TE} {p pos : Pos} (T : PassC X.K C fI) (TF : FieldC X.K C) (ht : PySem.W.takerIn X.K C f = some none) (F1 : FnOk X.prog X.w X.K X.mg X.base CX k fI fd ["self", ar] (spField X.K f)) (hr : Room (k + 1) X.A)
    (hb : Binds X.K fd ["self", ar] []) (hx : Passes CX X (fun _ _ _ => False)) (hg : Gl X x) (hm : X.mg x = some (.ref C)) (he : PE X e te) (hdb : (x == ("__debug__" : Str)) = false := by decide)
    (hst : starEach [e] X.env = (false, eval e X.env) :: starEach [] X.env := by rfl) (hpl : (backTo pos (starEach [] X.env)).any (·.1) = false := by rfl) :
    PMk X (.Call (.Name x p) [e] [] pos) (fun σ H Q => te σ H fun y H1 => ∀ d, H1 d = none → Q (.ref C) (some d) (upd H1 d (.xd [(f, y)]))) := by
  intro pins s σ H Q I h
  rcases T.cls with ⟨nm, q, N, bs, bm, hd, sn, sub, ab, col, dd, k0, k1, k2, k3, k5, hC, hbm⟩
  let post : List V → Hp → Prop := fun vs H1 => match vs with
    | [y] => ∀ d, H1 d = none → Q (.ref C) (some d) (upd H1 d (.xd [(f, y)]))
    | _ => False
  refine wpAny_Call_Name_kw (ld_glob I hg hm (PySem.W.callWith_K (h₀ := X.base) I.ok.mod.kin T.stays (thn ((pa_cons he pa_nil hst).run pos pins s σ H post I h) fun us s1 w1 => ?_) hst hpl) hdb)
  rcases w1 with ⟨vs, H1, I1, rv, wish⟩
  refine ⟨I1.kIn, ?_⟩
  match vs, us, rv, wish with
  | [y], [u], .cons ry .nil, wish =>
    have wish : ∀ d, H1 d = none → Q (.ref C) (some d) (upd H1 d (.xd [(f, y)])) := wish
    show wpAny _ _ (call (.ref C) [u]) _ _ _
    obtain ⟨h0, g, dr, tk, os⟩ := s1
    have below : h0.objs.size ≤ h0.objs.size + 1 := Nat.le_succ _
    have na : H1 (h0.objs.size + 1) = none := I1.hok.fresh below
    have old : ∀ b o, h0.get? b = some o → ((h0.push (PySem.W.kdv_tup [u])).push (PySem.HandSPX.excO C h0.objs.size)).get? b = some o := fun b o e => Heap.get?_push_of_some _ (Heap.get?_push_of_some _ e)
    have atE : ((h0.push (PySem.W.kdv_tup [u])).push (PySem.HandSPX.excO C h0.objs.size)).get? (h0.objs.size + 1) = some (PySem.HandSPX.excO C h0.objs.size) := by heap_get
    have I2 := I1.laid (t' := tk) (a := h0.objs.size + 1) (o := exo (h0.objs.size + 1) C none) old below (exo_ok atE)
    have hsp : spField X.K f [V.ref (h0.objs.size + 1), y] (upd H1 (h0.objs.size + 1) (exo (h0.objs.size + 1) C none))
        (fun v H2 => v = .non ∧ ∃ d, H1 d = none ∧ d ≠ h0.objs.size + 1 ∧ H2 = upd (upd (upd H1 (h0.objs.size + 1) (exo (h0.objs.size + 1) C none)) (h0.objs.size + 1) (exo (h0.objs.size + 1) C (some d))) d (exd d [(f, y)])) (fun _ _ _ => False) :=
      ⟨_, C, y, rfl, TF, ht, upd_same, fun d n ne => ⟨rfl, d, by rw [upd_ne ne] at n; exact n, ne, rfl⟩⟩
    have b := hb _ [Value.ref (h0.objs.size + 1), u] I2.kIn rfl
    refine wpAny_call (PySem.HandSPX.call_own F.excBase_ArithmeticError hbm (I1.kIn _ _ hC) (PySem.W.looks_findIn I1.kIn T.initF) (fun self => PySem.W.bind_fn I1.kIn self T.isDef) (by show 1 ≤ sizeLine; decide)
      (codeAny_mono (F1.run _ X.stack _ _ ⟨[Value.ref (h0.objs.size + 1), u], []⟩ [Value.ref (h0.objs.size + 1), u] [V.ref (h0.objs.size + 1), y] _ (fun _ _ _ => False) (hr.make C [u] []) (I2.env0.make C [u] []) b (.cons rfl (.cons ry .nil)) hsp) fun r s2 got => ?_))
    match r, got with
    | .error err, got => exact hx pins σ _ _ err s2 I2 got
    | .ok (.ret v0), got =>
      rcases got with ⟨v, H2, osE, bare, und, ok2, rv2, rfl, d, nd, ne, rfl⟩
      obtain ⟨h2, g2, d2, t2, os2⟩ := s2
      have ea : (upd (upd (upd H1 (h0.objs.size + 1) (exo (h0.objs.size + 1) C none)) (h0.objs.size + 1) (exo (h0.objs.size + 1) C (some d))) d (exd d [(f, y)])) (h0.objs.size + 1) = some (exo (h0.objs.size + 1) C (some d)) := by
        rw [upd_ne (Ne.symm ne), upd_same]
      have fin := mk_end (Q := Q) (t2 := t2) (d2 := d2) (raises_own T.ofBase T.ofType) I1 below old und ok2 osE bare ea upd_same nd (by
        have z : upd (del (upd (upd (upd H1 (h0.objs.size + 1) (exo (h0.objs.size + 1) C none)) (h0.objs.size + 1) (exo (h0.objs.size + 1) C (some d))) d (exd d [(f, y)])) (h0.objs.size + 1)) d (.xd [(f, y)]) = upd H1 d (.xd [(f, y)]) := by
          funext b
          by_cases h1 : b = d
          · rw [h1, upd_same, upd_same]
          · rw [upd_ne h1, upd_ne h1]
            by_cases h2 : b = h0.objs.size + 1
            · rw [h2, del_same, na]
            · rw [del_ne h2, upd_ne h1, upd_ne h2, upd_ne h2]
        rw [z]
        exact wish d nd)
      exact ⟨rv2, fin⟩
    | .ok .next, got => exact False.elim got
    | .ok .brk, got => exact False.elim got
    | .ok .cont, got => exact False.elim got
end
end Nc

/-! Own rules: a try with clauses of both kinds, named and unnamed, the first that meets takes the error. -/
namespace Nc
open PySem PySem.Spec PyProof.Rows L2
abbrev Clause := Value × Option Nat × (Addr → Value → Option Addr → TS)
/-- the clauses, with their classes, the slots of their names, what their suites do -/
inductive Clauses (X : Cx) : List ExceptHandler → List Clause → Prop
  | nil : Clauses X [] []
  | plain {x : Str} {c : Value} {ts : Addr → Value → Option Addr → TS} {b₀ : Stmt} {suite : List Stmt} {np pos : Pos} {hds : List ExceptHandler} {l : List Clause} (hc : Names X x c)
      (hsu : ∀ (a : Addr) (oe : Obj) (cls : Value) (d : Option Addr) (pn : List (Addr × Obj)), Zc cls d oe → (∃ vs, oe.data = .fields vs) → PSs (X.suite a ((a, oe) :: pn)) (b₀ :: suite) (ts a cls d)) (r : Clauses X hds l) :
      Clauses X (.ExceptHandler (some (.Name x np)) none (b₀ :: suite) pos :: hds) ((c, none, ts) :: l)
  | named {x n : Str} {c : Value} {i : Nat} {ts : Addr → Value → Option Addr → TS} {b₀ : Stmt} {suite : List Stmt} {np pos : Pos} {hds : List ExceptHandler} {l : List Clause} (hc : Names X x c) (hi : X.N[i]? = some n) (hl : X.env.kindOf n = some .local)
      (hsu : ∀ (a : Addr) (oe : Obj) (cls : Value) (d : Option Addr) (pn : List (Addr × Obj)), Zc cls d oe → (∃ vs, oe.data = .fields vs) → PSs (X.suite a ((a, oe) :: pn)) (b₀ :: suite) (ts a cls d)) (r : Clauses X hds l) :
      Clauses X (.ExceptHandler (some (.Name x np)) (some n) (b₀ :: suite) pos :: hds) ((c, some i, ts) :: l)
/-- the wish: one of them meets -/
def wMeets (K : PySem.W.Frag) (D : Ends) : List Clause → WX
  | [] => fun _ _ _ _ => False
  | (c, none, ts) :: r => fun cls d σ H => ∃ b, PySem.W.exmOne K cls c = some b ∧ (b = true → ∀ a, H a = none → ts a cls d D σ H) ∧ (b = false → wMeets K D r cls d σ H)
  | (c, some i, ts) :: r => fun cls d σ H => ∃ b, PySem.W.exmOne K cls c = some b ∧ (b = true → ∀ a, H a = none → ts a cls d (dropI i D) (σ.set i (some (.ref a))) H) ∧ (b = false → wMeets K D r cls d σ H)
section
variable {X : Cx} {pins : List (Addr × Obj)} {D : Ends}
theorem sp_plain {σ : L2.St} {H : Hp} {s : Shared} {a : Addr} {o : Obj} {f : Flow} (ok : X.Ok) (h : SP (X.suite a ((a, o) :: (X.pn ++ pins))) [] D f s) : SP X pins D f s := by
  cases f with
  | ret u => exact h.elim fun v h => h.elim fun σ1 h => h.elim fun H1 h => ⟨v, σ1, H1, h.1.unsuite ok, h.2⟩
  | _ => exact h.elim fun σ1 h => h.elim fun H1 h => ⟨σ1, H1, h.1.unsuite ok, h.2⟩
theorem handle_meets {σ : L2.St} {H : Hp} {s0 s1 : Shared} {B h2 : Heap} {a : Addr} {cls : Value} {d : Option Addr} (ok : X.Ok) (hf : X.env.frame = some X.env.locals) (hN : X.N.Nodup) (J0 : Inv X pins σ H s0) (nb : ∀ b o, s0.heap.get? b = some o → b ∉ frs X.stack → B.get? b = some o)
    (up : s0.heap.UpToSlots h2) (os : s1.os = s0.os) (ag : AllBare s1.gens) (na : H a = none) (fl : HandSPX.FlyingZ B (X.env :: X.outer) a (Zc cls d) h2) {hds : List ExceptHandler} {l : List Clause} (hk : Clauses X hds l) (w : wMeets X.K D l cls d σ H) :
    wpAny (model X.prog X.w) X.A (handleBy (.ref a) X.env hds) (SP X pins D) X.xe { s1 with heap := h2 } := by
  rcases in_suite hf (J0.landed nb fl.1 up os ag : Inv X pins σ H { s1 with heap := h2 }) fl na with ⟨o2, z2, _, g2, S2⟩
  have look := fun {c b} => PySem.W.exm_one (M := model X.prog X.w) (h := h2) (K := X.K) (cls := cls) (c := c) (b := b) S2.kIn (fun _ _ _ _ k q => wpAny_typeOf_ref (k _ _ g2) (z2.1.symm ▸ q))
  have held : ∀ h3, HandSPX.FlyingZ B (X.env :: X.outer) a (Zc cls d) h3 → h2.UpToSlots h3 → ∃ oe : Obj, Zc cls d oe ∧ (∃ vs, oe.data = .fields vs) ∧ h3.get? a = some oe ∧ Inv (X.suite a ((a, oe) :: (X.pn ++ pins))) [] σ H { s1 with heap := h3 } :=
    fun h3 fl3 up3 => in_suite hf (J0.landed nb fl3.1 (up.trans up3) os ag : Inv X pins σ H { s1 with heap := h3 }) fl3 na
  induction hk with
  | nil => exact w.elim
  | plain hc hsu r ih =>
    rcases w with ⟨b, e, yes, no⟩
    refine wpAny_handleBy_cons (codeAny_handlers_test (clause_name S2 hc ((look e).here ?_))) fun q => nomatch q
    match b with
    | true =>
      refine codeAny_handlers_suite (HandSPX.lands_againZ fl fun h3 fl3 up3 => ?_)
      rcases held h3 fl3 up3 with ⟨o3, z3, v3, _, S3⟩
      exact wpAny_mono ((hsu a o3 cls d _ z3 v3).run [] _ _ H _ S3 (yes rfl a na)) (fun f s5 e => sp_plain (σ := σ) (H := H) ok e) fun _ _ z => z.elim
    | false => exact ih (no rfl)
  | named hc hi hl hsu r ih =>
    rcases w with ⟨b, e, yes, no⟩
    refine wpAny_handleBy_cons (codeAny_handlers_test (clause_name S2 hc ((look e).here ?_))) fun q => nomatch q
    match b with
    | true =>
      refine codeAny_handlers_suite_as (HandSPX.lands_againZ fl fun h3 fl3 up3 => ?_)
      rcases held h3 fl3 up3 with ⟨o3, z3, v3, _, S3⟩
      exact store_ok (X := X.suite a ((a, o3) :: (X.pn ++ pins))) (v := V.ref a) S3 hN hi (.inl hl) rfl (fun s4 S4 => wpAny_mono ((hsu a o3 cls d _ z3 v3).run [] s4 _ H _ S4 (yes rfl a na)) (fun f s5 e => sp_gone ok hN hi hl e) fun _ _ z => z.elim) (.inr hl)
    | false => exact ih (no rfl)
theorem ps_try_meets {body : List Stmt} {h₀ : ExceptHandler} {hds : List ExceptHandler} {l : List Clause} {pos : Pos} {tb : WX → TS} (hs : X.stack = X.env :: X.outer) (hf : X.env.frame = some X.env.locals) (hN : X.N.Nodup)
    (hb : ∀ (W : WX) (pn : List (Addr × Obj)) (xe : Value → Shared → Prop), Takes (X.tr pn xe) W → PSs (X.tr pn xe) body (tb W)) (hk : Clauses X (h₀ :: hds) l) : PS X (.Try body (h₀ :: hds) [] [] pos) (fun D σ H => tb (wMeets X.K D l) D σ H) := ⟨fun pins s σ H D I h => by
  have ok := I.ok
  have hfr : X.A.frames = some (X.env :: X.outer) := ok.frames.trans (congrArg some hs)
  let caught : Value → Shared → Prop := fun u s₁ => wpAny (model X.prog X.w) X.A (noteFrame u X.env) (fun _ s₂ => wpAny (model X.prog X.w) X.A (setFlight u none) (fun _ s₃ =>
    wpAny (model X.prog X.w) X.A (handleBy u X.env (h₀ :: hds)) (SP X pins D) X.xe s₃) X.xe s₂) X.xe s₁
  refine wpAny_Try_except (wpAny_mono ((hb (wMeets X.K D l) (X.pn ++ pins) caught (fun u s' air => ?_)).run [] s σ H D (I.toTry caught) h) (fun f s1 e => ?_) fun _ _ e => e)
  · rcases air with ⟨a, B, s0, _, σ1, H1, cls, d, rfl, I1, nb, up, sky, na, os, ag, wish⟩
    exact Sky.land (env := X.env) (outer := X.outer) Zc.steady hfr hf (hs ▸ sky) fun h2 fl2 up2 => handle_meets ok hf hN (I1.ofTry ok) nb (up.trans up2) os ag na fl2 hk wish
  · cases f with
    | next => exact wpAny_execs_nil (sp_body ok e)
    | _ => exact sp_body ok e⟩
end
end Nc

/-! Own rules: a lambda that is made and kept (a tracked object), to be called later. -/
namespace Nc
open PySem PySem.Spec PyProof.Rows L2 LamX
/-- at f: the object o, for good -/
def LamO (f : Addr) (o : Obj) : HO := .ext fun h => h.get? f = some o
theorem lamO_ok {P : Program} {w : World} {H : Hp} {h : Heap} {f : Addr} {o : Obj} (e : h.get? f = some o) : ObjOk P w H h f (LamO f o) := ⟨e, ⟨o, e⟩, fun h1 h2 z k => k _ z⟩
theorem lamO_at {P : Program} {w : World} {H : Hp} {h : Heap} {f : Addr} {o : Obj} (hok : HOk P w H h) (e : H f = some (LamO f o)) : h.get? f = some o := by
  have x : ObjOk P w H h f (.ext fun h => h.get? f = some o) := hok f _ e
  exact x.1
theorem lamO_tbl {f : Addr} {o : Obj} (ps : Array Value) : LamO f o ≠ .tbl ps := fun z => by
  unfold LamO at z
  cases z
section
variable {X : Cx} {pins : List (Addr × Obj)} {σ : L2.St} {H : Hp} {s : Shared}
/-- the lambda's object, of the maker X -/
abbrev lamObj (X : Cx) (params : Arguments) (body : Expr) (scope : Scope) (pm ctv : Value) (c' : Addr) : Obj := PySem.W.kla_obj "<lambda>" (X.env.qual ++ "<lambda>") params body scope (cloFrom X.env.cells scope.names []) pm c' ctv
theorem lam_keep {T : List (Addr × Str)} {c P : Addr} {params : Arguments} {body : Expr} {scope : Scope} {pos : Pos} {E : Value → Shared → Prop} {Q : Value → Shared → Prop} (I : Inv X pins σ H s) (TB : TabB X.base X.mg c P) (hcode : X.env.code = .ref c)
    (hm : (P, X.env.qual ++ "<lambda>") ∈ T) (hu : ∀ p ∈ T, p.1 = P → p.2 = X.env.qual ++ "<lambda>") (hT : Tabs T H) (hdef : defaultsOf params X.env = ([], [])) (hfree : ∀ y ∈ scope.names, y.2 = .free → ∃ c, X.env.cells.lookup y.1 = some c)
    (h : ∀ (f c' : Addr) (pm ctv : Value) (H1 : Hp) (s' : Shared), Inv X pins σ H1 s' → ExtN H H1 → Tabs T H1 → H f = none → H1 f = some (LamO f (lamObj X params body scope pm ctv c')) → H1 c' = some (CodeO c' (X.env.qual ++ "<lambda>")) → Q (.ref f) s') :
    wpAny (model X.prog X.w) X.A (eval (.Lambda params body scope pos) X.env) Q E s := by
  refine PySem.W.kla_eval hdef ?_
  rcases hT _ hm with ⟨ps, atP, tri, among⟩
  have tabP : s.heap.get? P = some { cls := .none, data := .fields ps } := I.hok P _ atP
  have blt : s.heap.BuiltinsAt X.mg P := TB.bm.keeps I.bk
  -- the new object is tracked behind whatever stands
  have last : ∀ (H2 : Hp) (h2 : Heap) (t2 : Nat) (pm ctv : Value) (c' : Addr), Inv X pins σ H2 { s with heap := h2, toks := t2 } → ExtN H H2 → Tabs T H2 → s.heap.objs.size ≤ h2.objs.size → H2 c' = some (CodeO c' (X.env.qual ++ "<lambda>")) →
      Q (.ref h2.objs.size) { s with heap := h2.push (lamObj X params body scope pm ctv c'), toks := t2 } := fun H2 h2 t2 pm ctv c' I2 e2 T2 le co => by
    have n2 : H2 h2.objs.size = none := I2.hok.fresh (Nat.le_refl _)
    have grow : ∀ b o, H2 b = some o → upd H2 h2.objs.size (LamO h2.objs.size (lamObj X params body scope pm ctv c')) b = some o := fun b o z => by
      rw [upd_ne (ne_of_none z n2)]
      exact z
    have I3 := I2.laid (t' := t2) (a := h2.objs.size) (o := LamO h2.objs.size (lamObj X params body scope pm ctv c')) (h' := h2.push (lamObj X params body scope pm ctv c')) (fun b o z => Heap.get?_push_of_some _ z) (Nat.le_refl _) (lamO_ok (Heap.get?_push_size _ rfl))
    exact h h2.objs.size c' pm ctv _ _ I3 (e2.trans (ExtN.of grow)) (T2.ext grow) (I.hok.fresh le) upd_same (grow _ _ co)
  cases hc : codeAmong pos ps.toList with
  | some cv =>
    rcases among pos cv hc with ⟨c', rfl, co⟩
    exact PySem.W.kla_makeFunctionHit (mg := X.mg) (c := c) (P := P) (ps := ps) (closure_ok hfree) I.ok.glob (I.mod.glob.keeps I.bk) hcode (TB.code.keeps I.bk) tabP tri hc blt fun ctv h2 t2 old le =>
      last H h2 t2 _ ctv c' (I.kept old) (ExtN.refl H) hT le co
  | none =>
    refine PySem.W.kla_makeFunction (mg := X.mg) (c := c) (P := P) (ps := ps) (closure_ok hfree) I.ok.glob (I.mod.glob.keeps I.bk) hcode (TB.code.keeps I.bk) tabP tri hc TB.gP blt fun c' ctv h2 t2 old ge lt rec tab => ?_
    have I2 : Inv X pins σ (upd (upd H P (.tbl (ps ++ #[rawInt pos.line, rawInt pos.col, .ref c']))) c' (CodeO c' (X.env.qual ++ "<lambda>"))) { s with heap := h2, toks := t2 } :=
      inv_table (more := #[rawInt pos.line, rawInt pos.col, .ref c']) I atP old tab ge (let ⟨_, oc, vs, t, e, g, d, v⟩ := rec; ⟨oc, vs, t, by cases e; exact g, d, v⟩)
    have nc : H c' = none := I.hok.fresh ge
    have nPc : P ≠ c' := ne_of_none atP nc
    have ext : ExtN H (upd (upd H P (.tbl (ps ++ #[rawInt pos.line, rawInt pos.col, .ref c']))) c' (CodeO c' (X.env.qual ++ "<lambda>"))) := fun b o e n => by
      have nb : b ≠ P := fun z => by
        rw [z, atP] at e
        exact n ps (Option.some.inj e).symm
      rw [upd_ne (ne_of_none e nc), upd_ne nb]
      exact e
    refine last _ h2 t2 _ ctv c' I2 ext (fun p hp => ?_) (Nat.le_trans ge (Nat.le_of_lt lt)) upd_same
    by_cases same : p.1 = P
    · have lst : (ps ++ #[rawInt pos.line, rawInt pos.col, Value.ref c']).toList = ps.toList ++ [rawInt pos.line, rawInt pos.col, .ref c'] := by simp
      rw [hu p hp same, same]
      refine ⟨_, by rw [upd_ne nPc, upd_same], by rw [lst]; exact PySem.TriplesOk_snoc _ _ _ _ tri, fun p2 cv found => ?_⟩
      rw [lst] at found
      rcases among_app _ tri found with z | z
      · rcases among p2 cv z with ⟨c0, e1, e2⟩
        exact ⟨c0, e1, ext _ _ e2 codeO_ne⟩
      · exact ⟨c', z, upd_same⟩
    · rcases hT p hp with ⟨qs, a1, a2, a3⟩
      refine ⟨qs, by rw [upd_ne (ne_of_none a1 nc), upd_ne same]; exact a1, a2, fun p2 cv found => ?_⟩
      rcases a3 p2 cv found with ⟨c0, e1, e2⟩
      exact ⟨c0, e1, ext _ _ e2 codeO_ne⟩
/-- a lambda as a value -/
def tLamV (X : Cx) (T : List (Addr × Str)) (params : Arguments) (body : Expr) (scope : Scope) : TE := fun _ H Q => Tabs T H ∧ ∀ (f c' : Addr) (pm ctv : Value) (H1 : Hp), ExtN H H1 → Tabs T H1 → H f = none →
  H1 f = some (LamO f (lamObj X params body scope pm ctv c')) → H1 c' = some (CodeO c' (X.env.qual ++ "<lambda>")) → Q (.ref f) H1
theorem pe_lamV {T : List (Addr × Str)} {c P : Addr} {params : Arguments} {body : Expr} {scope : Scope} {pos : Pos} (TB : TabB X.base X.mg c P) (hcode : X.env.code = .ref c) (hm : (P, X.env.qual ++ "<lambda>") ∈ T) (hu : ∀ p ∈ T, p.1 = P → p.2 = X.env.qual ++ "<lambda>")
    (L : LamS X.env.scope scope) (hdef : defaultsOf params X.env = ([], [])) : PE X (.Lambda params body scope pos) (tLamV X T params body scope) :=
  ⟨fun pins s σ H Q I h => lam_keep I TB hcode hm hu h.1 hdef (L.has I.ok) fun f c' pm ctv H1 s' I1 e1 T1 nf lf co => ⟨.ref f, H1, I1, rfl, h.2 f c' pm ctv H1 e1 T1 nf lf co⟩⟩
/-- x(), deep in the frames behind the maker X, which stands at s and H with the slots σ; Z: the frame that calls -/
theorem pe_kept {A0 : Around} {outer0 : List Env} {s0 : Shared} {H0 : Hp} {CXg : CXT} {Eg : XK} {Ng : List Str} {qg : Str} {sg : Scope} {g f c' : Addr} {cdg pm ctv : Value} {params : Arguments} {body : Expr} {scope : Scope} {k i : Nat} {a : Str} {pn : List (Addr × Obj)} {xe : Value → Shared → Prop} {W : WX} {E : XK} {tb : TE} {p1 p2 : Pos}
    (I : Inv X pins σ H s) (L : LamS X.env.scope scope) (hun : ∀ {pinsZ σZ HZ s1}, Inv ((cxOf CXg X.prog X.w X.K X.mg X.base Ng qg sg g cdg A0 outer0 s0 H0 Eg).tr pn xe) pinsZ σZ HZ s1 → Un (frs X.stack) [] H HZ s.heap s1.heap)
    (hbind : bindArgs (PySem.W.kla_fn "<lambda>" (X.env.qual ++ "<lambda>") params body scope (cloFrom X.env.cells scope.names []) pm (.ref c') ctv) ⟨[], []⟩ = pure [])
    (tk : Takes ((cxOf CXg X.prog X.w X.K X.mg X.base Ng qg sg g cdg A0 outer0 s0 H0 Eg).tr pn xe) W) (hW : ∀ cls d σ' H', E cls d H' → W cls d σ' H') (hr : Room (k + 1) (A0.deeper (envOfC qg sg s0.heap.objs.size g cdg)))
    (hbody : ∀ (A : Around) (outer : List Env) (s : Shared) (H : Hp), Room k (A.deeper (lamEnv X scope s.heap.objs.size f c')) → PE (lamCx X A outer s H E scope f c') body tb)
    (hN : Ng[i]? = some a) (hv : Vis sg a) (hd : (a == ("__debug__" : Str)) = false := by decide) (hcd : (a == ("__classdict__" : Str)) = false := by decide) :
    PE ((cxOf CXg X.prog X.w X.K X.mg X.base Ng qg sg g cdg A0 outer0 s0 H0 Eg).tr pn xe) (.Call (.Name a p1) [] [] p2)
      (fun σZ HZ Q => σZ[i]? = some (some (.ref f)) ∧ HZ f = some (LamO f (lamObj X params body scope pm ctv c')) ∧ HZ c' = some (CodeO c' (X.env.qual ++ "<lambda>")) ∧ tb σ HZ Q) :=
  ⟨fun pinsZ sZ σZ HZ Q IZ w => wpAny_Call_Name_kw (thn ((pe_var (pos := p1) (i := i) hN hv hd hcd).run pinsZ sZ σZ HZ (fun v H1 => v = .ref f ∧ H1 = HZ) IZ ⟨.ref f, w.1, rfl, rfl⟩) fun u s1 w1 => by
    rcases w1 with ⟨v, H1, I1, r1, rfl, rfl⟩
    cases r1
    have obj := lamO_at I1.hok w.2.1
    have un := hun I1
    rcases (I1.hok c' _ w.2.2.1).1 with ⟨oc, vs, t, coAt, coD, coN⟩
    have rc : codeAny (model X.prog X.w) (A0.deeper (envOfC qg sg s0.heap.objs.size g cdg)) (.call (.ref f) ⟨[], []⟩) (CR (L2.CX X.prog X.w) (envOfC qg sg s0.heap.objs.size g cdg :: outer0) X.prog X.w H1 s1 Q E) s1 := by
      refine PySem.W.kla_callFunE hr.depth obj rfl L.co L.gen rfl ⟨c', oc, vs, t, rfl, coAt, coD, coN⟩ ?_
      rw [hbind]
      refine wpAny_pure (wpAny_newFunctionEnv (fun y m => (L.own y m).2) (fun y m => absurd m (by simp)) (fun h2 fresh but => ⟨I1.nolimit.fresh _ but, ?_⟩) L.kind)
      have old : ∀ b o, s1.heap.get? b = some o → h2.get? b = some o := fun b o e => but.extBut b o (Nat.ne_of_lt (Heap.lt_size e)) (Heap.get?_push_of_some _ e)
      have J : Inv (lamCx X (A0.deeper (envOfC qg sg s0.heap.objs.size g cdg)) (envOfC qg sg s0.heap.objs.size g cdg :: outer0) s1 H1 E scope f c') [] σ H1 { s1 with heap := h2, toks := s1.toks + ([] : List (Str × Value)).length } :=
        lam_start2 I L I1.env0 hr.hd un fresh old
      exact PySem.W.kla_codeExpr (wpAny_mono ((hbody _ _ s1 H1 (hr.deeper _)).run [] _ _ H1 Q J w.2.2.2) (fun v s2 q => by
        rcases q with ⟨x, H2, J2, rv, q⟩
        exact ⟨x, H2, J2.os, J2.bare, J2.base, J2.hok, rv, q⟩) fun _ _ q => q)
    exact PySem.W.callWith_F0 ⟨_, _, _, _, obj⟩ (wpAny_call (codeAny_mono rc fun r s2 q => by
      match r, q with
      | .error e, q => exact passes_call tk (fun cls d σ' H' => hW cls d σ' H') pinsZ σZ H1 s1 e s2 I1 q
      | .ok (.ret u), q => exact I1.after q
      | .ok .next, q => exact False.elim q
      | .ok .brk, q => exact False.elim q
      | .ok .cont, q => exact False.elim q)))⟩
end
/-- from h to h1 behind the frames fs, then on to h2 behind more frames, of which only those of fs stood in h -/
theorem Un.further {fs fs2 : List Addr} {H H1 H2 : Hp} {h h1 h2 : Heap} (a : Un fs [] H H1 h h1) (b : Un fs2 [] H1 H2 h1 h2) (fr : ∀ c o, h.get? c = some o → c ∈ fs2 → c ∈ fs) : Un fs [] H H2 h h2 where
  keep := fun c o e n k x => b.keep c o (a.keep c o e n k x) (a.free c o e n x) (fun m => k (fr c o e m)) x
  slot := fun c o e n k x => by
    rcases a.slot c o e n k x with ⟨sl, e1⟩
    by_cases m : c ∈ fs2
    · rcases b.slot c _ e1 (a.free c o e n x) m x with ⟨sl2, e2⟩
      exact ⟨sl2, e2⟩
    · exact ⟨sl, b.keep c _ e1 (a.free c o e n x) m x⟩
  free := fun c o e n x => by
    rcases a.there c o e x with ⟨o1, e1⟩
    exact b.free c o1 e1 (a.free c o e n x) x
  there := fun c o e x => by
    rcases a.there c o e x with ⟨o1, e1⟩
    exact b.there c o1 e1 x
  tups := fun c xs e => b.tups c xs (a.tups c xs e)
  frzs := fun c o u e => b.frzs c o u (a.frzs c o u e)
  tbls := fun c ps e => by
    rcases a.tbls c ps e with ⟨m1, e1⟩
    rcases b.tbls c _ e1 with ⟨m2, e2⟩
    exact ⟨m1 ++ m2, by rw [← Array.append_assoc]; exact e2⟩
/-- Z runs behind the maker X, which stands at s and H -/
structure Behind (X Z : Cx) (H : Hp) (s : Shared) : Prop where
  un : ∀ {pins σ HZ s1}, Inv Z pins σ HZ s1 → Un (frs X.stack) [] H HZ s.heap s1.heap
  fr : ∀ b o, s.heap.get? b = some o → b ∈ frs Z.stack → b ∈ frs X.stack
section
variable {X Z : Cx} {pins : List (Addr × Obj)} {σ : L2.St} {H HZ : Hp} {s s1 : Shared} {CXg : CXT} {Ng : List Str} {qg : Str} {sg : Scope} {g : Addr} {cdg : Value} {Eg : XK} {pn : List (Addr × Obj)} {xe : Value → Shared → Prop}
theorem frs_env {S : Shared} {l : List Env} : frs (envOfC qg sg S.heap.objs.size g cdg :: l) = S.heap.objs.size :: frs l := List.filterMap_cons_some rfl
/-- a def that X itself calls -/
theorem Behind.first : Behind X ((cxOf CXg X.prog X.w X.K X.mg X.base Ng qg sg g cdg X.A X.stack s H Eg).tr pn xe) H s where
  un := fun I => I.base
  fr := fun b o e m => by
    have m2 : b ∈ frs (envOfC qg sg s.heap.objs.size g cdg :: X.stack) := m
    rw [frs_env] at m2
    rcases List.mem_cons.mp m2 with z | z
    · rw [z] at e
      exact absurd (Heap.lt_size e) (Nat.lt_irrefl _)
    · exact z
/-- a def that such a def calls -/
theorem Behind.next (B : Behind X Z H s) (I : Inv Z pins σ HZ s1) : Behind X ((cxOf CXg Z.prog Z.w Z.K Z.mg Z.base Ng qg sg g cdg Z.A Z.stack s1 HZ Eg).tr pn xe) H s where
  un := fun I2 => Un.further (B.un I) I2.base B.fr
  fr := fun b o e m => by
    have m2 : b ∈ frs (envOfC qg sg s1.heap.objs.size g cdg :: Z.stack) := m
    rw [frs_env] at m2
    rcases List.mem_cons.mp m2 with z | z
    · rcases (B.un I).there b o e (by simp) with ⟨o1, e1⟩
      rw [z] at e1
      exact absurd (Heap.lt_size e1) (Nat.lt_irrefl _)
    · exact B.fr b o e z
end
end Nc

/-! Own rules: the cells of a frame, lent to the defs that it calls, so that a lambda that was kept may read them. -/
namespace Nc
open PySem PySem.Spec PyProof.Rows L2 LamX
/-- the cell at c is known for a while, with what is in it -/
def CellF (H : Hp) (c : Addr) (v : Option Value) : Prop := ∃ oc : Obj, oc.data = .cell v ∧ H c = some (.frz oc (.own 0))
theorem CellF.same {H H' : Hp} {c : Addr} {v : Option Value} (k : Same H H') (x : CellF H c v) : CellF H' c v := let ⟨oc, d, e⟩ := x; ⟨oc, d, k _ _ e⟩
def lendH (cs : List Addr) (h : Heap) (H : Hp) : Hp := fun b => if b ∈ cs then (h.get? b).map (fun o => .frz o (.own 0)) else H b
def delC (cs : List Addr) (H : Hp) : Hp := fun b => if b ∈ cs then none else H b
def putC (cs : List Addr) (H H' : Hp) : Hp := fun b => if b ∈ cs then H b else H' b
section
variable {P : Program} {w : World} {cs fs ex : List Addr} {H H' : Hp} {h h' B : Heap}
theorem delC_in {b : Addr} (m : b ∈ cs) : delC cs H b = none := by unfold delC; rw [if_pos m]
theorem delC_out {b : Addr} (m : b ∉ cs) : delC cs H b = H b := by unfold delC; rw [if_neg m]
theorem putC_in {b : Addr} (m : b ∈ cs) : putC cs H H' b = H b := by unfold putC; rw [if_pos m]
theorem putC_out {b : Addr} (m : b ∉ cs) : putC cs H H' b = H' b := by unfold putC; rw [if_neg m]
theorem lendH_out {b : Addr} (m : b ∉ cs) : lendH cs h H b = H b := by unfold lendH; rw [if_neg m]
theorem lendH_in {b : Addr} {o : Obj} (m : b ∈ cs) (e : h.get? b = some o) : lendH cs h H b = some (.frz o (.own 0)) := by unfold lendH; rw [if_pos m, e]; rfl
theorem out_of {b : Addr} {o : HO} (n : ∀ c ∈ cs, H c = none) (e : H b = some o) : b ∉ cs := fun m => by
  rw [n b m] at e
  cases e
theorem frz_out {b : Addr} {o : HO} (n : ∀ c ∈ cs, ∃ v, CellF H c v) (e : H b = some o) (d : ∀ oc, o ≠ .frz oc (.own 0)) : b ∉ cs := fun m => by
  rcases n b m with ⟨v, oc, _, e2⟩
  rw [e] at e2
  exact d oc (Option.some.inj e2)
/-- what is lent is known -/
theorem hok_lend (hok : HOk P w H h) (n : ∀ c ∈ cs, H c = none) : HOk P w (lendH cs h H) h := fun a o e => by
  by_cases m : a ∈ cs
  · cases g : h.get? a with
    | none =>
      unfold lendH at e
      rw [if_pos m, g] at e
      cases e
    | some oa =>
      rw [lendH_in m g] at e
      cases e
      exact ⟨g, oa, g⟩
  · rw [lendH_out m] at e
    exact (hok a o e).stay (fun b u _ z => z) (fun b z => by rw [lendH_out (out_of n z)]; exact z) fun b xs z => by rw [lendH_out (out_of n z)]; exact z
theorem hok_del (hok : HOk P w H h) (n : ∀ c ∈ cs, ∃ v, CellF H c v) : HOk P w (delC cs H) h := fun a o e => by
  by_cases m : a ∈ cs
  · rw [delC_in m] at e
    cases e
  · rw [delC_out m] at e
    exact (hok a o e).stay (fun b u _ z => z) (fun b z => by rw [delC_out (frz_out n z fun oc z => by cases z)]; exact z) fun b xs z => by rw [delC_out (frz_out n z fun oc z => by cases z)]; exact z
/-- back to the lender -/
theorem un_lend (u : Un fs ex (lendH cs h H) H' h h') (hok : HOk P w H' h') (n : ∀ c ∈ cs, H c = none) (nf : ∀ c ∈ cs, c ∉ fs) (at_ : ∀ c ∈ cs, ∃ o, h.get? c = some o) : Un fs ex H (delC cs H') h h' where
  keep := fun b o e nb k x => by
    by_cases m : b ∈ cs
    · have z := u.frzs b o _ (lendH_in m e)
      exact (show ObjOk P w H' h' b (.frz o (.own 0)) from hok b _ z).1
    · exact u.keep b o e (by rw [lendH_out m]; exact nb) k x
  slot := fun b o e nb k x => by
    have m : b ∉ cs := fun m => nf b m k
    exact u.slot b o e (by rw [lendH_out m]; exact nb) k x
  free := fun b o e nb x => by
    by_cases m : b ∈ cs
    · exact delC_in m
    · rw [delC_out m]
      exact u.free b o e (by rw [lendH_out m]; exact nb) x
  there := u.there
  tups := fun b xs e => by
    have m := out_of n e
    rw [delC_out m]
    exact u.tups b xs (by rw [lendH_out m]; exact e)
  frzs := fun b o v e => by
    have m := out_of n e
    rw [delC_out m]
    exact u.frzs b o v (by rw [lendH_out m]; exact e)
  tbls := fun b ps e => by
    have m := out_of n e
    rw [delC_out m]
    exact u.tbls b ps (by rw [lendH_out m]; exact e)
theorem lend_frz (u : Un fs ex (lendH cs h H) H' h h') (at_ : ∀ c ∈ cs, ∃ v, h.IsCell c v) : ∀ c ∈ cs, ∃ v, CellF H' c v := fun c m => by
  rcases at_ c m with ⟨v, o, e, d⟩
  exact ⟨v, o, d, u.frzs c o _ (lendH_in m e)⟩
/-- behind a body that had them for its own -/
theorem un_put (u : Un fs [] (delC cs H) H' h h') (n : ∀ c ∈ cs, ∃ v, CellF H c v) : Un fs [] H (putC cs H H') h h' where
  keep := fun b o e nb k x => by
    have m : b ∉ cs := fun m => by
      rcases n b m with ⟨v, oc, _, e2⟩
      rw [nb] at e2
      cases e2
    exact u.keep b o e (by rw [delC_out m]; exact nb) k x
  slot := fun b o e nb k x => by
    have m : b ∉ cs := fun m => by
      rcases n b m with ⟨v, oc, _, e2⟩
      rw [nb] at e2
      cases e2
    exact u.slot b o e (by rw [delC_out m]; exact nb) k x
  free := fun b o e nb x => by
    have m : b ∉ cs := fun m => by
      rcases n b m with ⟨v, oc, _, e2⟩
      rw [nb] at e2
      cases e2
    rw [putC_out m]
    exact u.free b o e (by rw [delC_out m]; exact nb) x
  there := u.there
  tups := fun b xs e => by
    have m := frz_out n e fun oc z => by cases z
    rw [putC_out m]
    exact u.tups b xs (by rw [delC_out m]; exact e)
  frzs := fun b o v e => by
    by_cases m : b ∈ cs
    · rw [putC_in m]
      exact e
    · rw [putC_out m]
      exact u.frzs b o v (by rw [delC_out m]; exact e)
  tbls := fun b ps e => by
    have m := frz_out n e fun oc z => by cases z
    rw [putC_out m]
    exact u.tbls b ps (by rw [delC_out m]; exact e)
theorem hok_put (hok0 : HOk P w H h) (hok : HOk P w H' h') (n : ∀ c ∈ cs, ∃ v, CellF H c v) (keep : ∀ c ∈ cs, ∀ o, h.get? c = some o → h'.get? c = some o ∧ H' c = none) : HOk P w (putC cs H H') h' := fun a o e => by
  have at_ : ∀ c ∈ cs, ∃ oc, H c = some (.frz oc (.own 0)) ∧ h.get? c = some oc := fun c m => by
    rcases n c m with ⟨v, oc, _, e2⟩
    exact ⟨oc, e2, (show ObjOk P w H h c (.frz oc (.own 0)) from hok0 c _ e2).1⟩
  have out : ∀ b u, H' b = some u → b ∉ cs := fun b u z m => by
    rcases at_ b m with ⟨oc, _, g⟩
    rw [(keep b m oc g).2] at z
    cases z
  by_cases m : a ∈ cs
  · rw [putC_in m] at e
    rcases at_ a m with ⟨oc, e2, g⟩
    rw [e2] at e
    cases e
    exact ⟨(keep a m oc g).1, oc, (keep a m oc g).1⟩
  · rw [putC_out m] at e
    exact (hok a o e).stay (fun b u _ z => z) (fun b z => by rw [putC_out (out b _ z)]; exact z) fun b xs z => by rw [putC_out (out b _ z)]; exact z
theorem ub_put (u : UB fs (delC cs H) H' h B h') (n : ∀ c ∈ cs, ∃ v, CellF H c v) (nf : ∀ c ∈ cs, c ∉ fs) : UB fs H (putC cs H H') h B h' where
  keep := fun b o e nb k => by
    have m : b ∉ cs := fun m => by
      rcases n b m with ⟨v, oc, _, e2⟩
      rw [nb] at e2
      cases e2
    exact u.keep b o e (by rw [delC_out m]; exact nb) k
  slot := u.slot
  free := fun b o e nb => by
    have m : b ∉ cs := fun m => by
      rcases n b m with ⟨v, oc, _, e2⟩
      rw [nb] at e2
      cases e2
    rw [putC_out m]
    exact u.free b o e (by rw [delC_out m]; exact nb)
  there := u.there
  tups := fun b xs e => by
    have m := frz_out n e fun oc z => by cases z
    rw [putC_out m]
    exact u.tups b xs (by rw [delC_out m]; exact e)
  frzs := fun b o v e => by
    by_cases m : b ∈ cs
    · rw [putC_in m]
      exact e
    · rw [putC_out m]
      exact u.frzs b o v (by rw [delC_out m]; exact e)
  tbls := fun b ps e => by
    have m := frz_out n e fun oc z => by cases z
    rw [putC_out m]
    exact u.tbls b ps (by rw [delC_out m]; exact e)
/-! ### behind a call -/
theorem ce_put {outer : List Env} {s s' : Shared} {Q : VK} {u : Value} (c : CE outer P w (delC cs H) s (fun v H' => (∀ c ∈ cs, H' c = none) → Q v (putC cs H H')) u s') (hok0 : HOk P w H s.heap) (n : ∀ c ∈ cs, ∃ v, CellF H c v) (nf : ∀ c ∈ cs, c ∉ frs outer) : CE outer P w H s Q u s' := by
  rcases c with ⟨v, H', os, bare, un, hok, rv, q⟩
  have keep : ∀ c ∈ cs, ∀ o, s.heap.get? c = some o → s'.heap.get? c = some o ∧ H' c = none := fun c m o g => ⟨un.keep c o g (delC_in m) (nf c m) (by simp), un.free c o g (delC_in m) (by simp)⟩
  exact ⟨v, _, os, bare, un_put un n, hok_put hok0 hok n keep, rv, q fun c m => by
    rcases n c m with ⟨v, oc, _, e2⟩
    exact (keep c m oc (show ObjOk P w H s.heap c (.frz oc (.own 0)) from hok0 c _ e2).1).2⟩
theorem cx_put {outer : List Env} {s s' : Shared} {E : XK} {u : Value} (c : L2.CX P w outer (delC cs H) s (fun cls d H' => (∀ c ∈ cs, H' c = none) → E cls d (putC cs H H')) u s') (hok0 : HOk P w H s.heap) (n : ∀ c ∈ cs, ∃ v, CellF H c v) (nf : ∀ c ∈ cs, c ∉ frs outer) : L2.CX P w outer H s E u s' := by
  rcases c with ⟨a, B, H', cls, d, rfl, fl, hok, ub, na, os, ag, hE⟩
  have keep : ∀ c ∈ cs, ∀ o, s.heap.get? c = some o → B.get? c = some o ∧ H' c = none := fun c m o g => ⟨ub.keep c o g (delC_in m) (nf c m), ub.free c o g (delC_in m)⟩
  have none_ : ∀ c ∈ cs, H' c = none := fun c m => by
    rcases n c m with ⟨v, oc, _, e2⟩
    exact (keep c m oc (show ObjOk P w H s.heap c (.frz oc (.own 0)) from hok0 c _ e2).1).2
  refine ⟨a, B, _, cls, d, rfl, fl, hok_put hok0 hok n keep, ub_put ub n nf, ?_, os, ag, hE none_⟩
  have m : a ∉ cs := fun m => by
    rcases n a m with ⟨v, oc, _, e2⟩
    have g := (show ObjOk P w H s.heap a (.frz oc (.own 0)) from hok0 a _ e2).1
    have z := (keep a m oc g).1
    have f1 := fl.2.1
    rw [f1] at z
    cases z
  rw [putC_out m]
  exact na
end
end Nc

/-! Own rules: a lambda that was kept (with or without defaults) is called by any def, while its maker lends its cells. -/
namespace Nc
open PySem PySem.Spec PyProof.Rows L2 LamX
/-- of a frame, for good -/
structure XSt (X : Cx) (σ : L2.St) : Prop where
  inj : ∀ x y c, X.env.cells.lookup x = some c → X.env.cells.lookup y = some c → x = y
  has : ∀ x, (X.env.kindOf x = some .cell ∨ X.env.kindOf x = some .free) → ∃ c, X.env.cells.lookup x = some c
  len : σ.length = X.N.length
theorem XSt.of {X : Cx} {pins : List (Addr × Obj)} {σ : L2.St} {H : Hp} {s : Shared} (I : Inv X pins σ H s) : XSt X σ := ⟨I.ok.inj, I.ok.has, I.len⟩
abbrev cellsOf (X : Cx) : List Addr := X.env.cells.filterMap fun p => X.env.cells.lookup p.1
theorem mem_cellsOf {X : Cx} {x : Str} {c : Addr} (e : X.env.cells.lookup x = some c) : c ∈ cellsOf X := List.mem_filterMap.mpr ⟨(x, c), PySem.mem_of_lookup e, e⟩
theorem of_cellsOf {X : Cx} {c : Addr} (m : c ∈ cellsOf X) : ∃ x, X.env.cells.lookup x = some c := let ⟨p, _, e⟩ := List.mem_filterMap.mp m; ⟨p.1, e⟩
/-- the frame's cells are lent -/
structure Lent (X : Cx) (σ : L2.St) (H : Hp) : Prop where
  all : ∀ c ∈ cellsOf X, ∃ v, CellF H c v
  slot : ∀ (i : Nat) (x : Str) (v : V), X.N[i]? = some x → σ[i]? = some (some v) → (X.env.kindOf x = some .cell ∨ X.env.kindOf x = some .free) → ∀ c, X.env.cells.lookup x = some c → ∃ u, RelV v u ∧ CellF H c (some u)
theorem Lent.same {X : Cx} {σ : L2.St} {H H' : Hp} (k : Same H H') (l : Lent X σ H) : Lent X σ H' :=
  ⟨fun c m => let ⟨v, z⟩ := l.all c m; ⟨v, z.same k⟩, fun i x v e1 e2 e3 c e4 => let ⟨u, r, z⟩ := l.slot i x v e1 e2 e3 c e4; ⟨u, r, z.same k⟩⟩
/-- a lambda's names: captured ones, globals, parameters that no name of the maker's bears -/
structure LamP (N : List Str) (sc scope : Scope) : Prop where
  kind : scope.kind = .function
  co : scope.isCoroutine = false
  gen : scope.isGenerator = false
  cell : ∀ y ∈ scope.names, y.2 ≠ .cell
  loc : ∀ x ∈ N, scope.names.lookup x ≠ some .local
  free : ∀ y ∈ scope.names, y.2 = .free → sc.names.lookup y.1 = some .cell ∨ sc.names.lookup y.1 = some .free
def lamPB (N : List Str) (sc scope : Scope) : Bool :=
  decide (scope.kind = .function) && !scope.isCoroutine && !scope.isGenerator && (scope.names.all fun y => !decide (y.2 = .cell) && (!decide (y.2 = .free) || decide (sc.names.lookup y.1 = some .cell) || decide (sc.names.lookup y.1 = some .free))) &&
  N.all fun x => !decide (scope.names.lookup x = some .local)
theorem lamP_by {N : List Str} {sc scope : Scope} (h : lamPB N sc scope = true) : LamP N sc scope := by
  unfold lamPB at h
  simp only [Bool.and_eq_true, Bool.or_eq_true, Bool.not_eq_true', decide_eq_true_eq, decide_eq_false_iff_not, List.all_eq_true] at h
  obtain ⟨⟨⟨⟨h1, h2⟩, h3⟩, h4⟩, h5⟩ := h
  refine ⟨h1, h2, h3, fun y hy => (h4 y hy).1, h5, fun y hy e => ?_⟩
  rcases (h4 y hy).2 with (z | z) | z
  · exact absurd e z
  · exact .inl z
  · exact .inr z
section
variable {X : Cx} {pins : List (Addr × Obj)} {σ : L2.St} {H HZ : Hp} {s s1 : Shared}
theorem LamP.has {N : List Str} {scope : Scope} (L : LamP N X.env.scope scope) (xs : XSt X σ) : ∀ y ∈ scope.names, y.2 = .free → ∃ c, X.env.cells.lookup y.1 = some c := fun y hy e => by
  rcases L.free y hy e with k | k
  · exact xs.has _ (.inl k)
  · exact xs.has _ (.inr k)
theorem lam_startL {A : Around} {outer : List Env} {E : XK} {scope : Scope} {f c' : Addr} {h₁ : Heap} {tk : Nat} {m : Str → Option Value} (xs : XSt X σ) (L : LamP X.N X.env.scope scope) (e0 : Env0 X.prog X.w X.K X.mg X.base A outer s1 HZ) (hd : A.handled = none)
    (le : Lent X σ HZ) (hns : h₁.Ns s1.heap.objs.size m) (kp : ∀ b o, s1.heap.get? b = some o → h₁.get? b = some o) :
    Inv (lamCx X A outer s1 (delC (cellsOf X) HZ) E scope f c') [] σ (delC (cellsOf X) HZ) { s1 with heap := h₁, toks := tk } := by
  have hfree := L.has xs
  have cm : ∀ {y c}, (cloFrom X.env.cells scope.names []).lookup y = some c → X.env.cells.lookup y = some c := fun {y c} e => by
    rcases cloFrom_mem (PySem.mem_of_lookup e) with hm | ⟨h1, h2⟩
    · cases hm
    · obtain ⟨c1, hc⟩ := hfree _ h1 rfl
      have hc : X.env.cells.lookup y = some c1 := hc
      have e2 : c = c1 := by
        rw [h2, hc] <;> rfl
      rw [e2]
      exact hc
  have look : ∀ {y}, scope.names.lookup y = some .free → ∃ c, (cloFrom X.env.cells scope.names []).lookup y = some c := fun {y} hl => by
    have hy : (y, NameKind.free) ∈ scope.names := PySem.mem_of_lookup hl
    exact mem_lookup (cloFrom_has (cells := X.env.cells) (acc := []) hy)
  have heldAt : ∀ {c : Addr} {v : Option Value}, CellF HZ c v → h₁.IsCell c v := fun {c v} z => by
    rcases z with ⟨oc, d, e⟩
    have x : ObjOk X.prog X.w HZ s1.heap c (.frz oc (.own 0)) := e0.hok c _ e
    exact ⟨oc, kp _ _ x.1, d⟩
  have hok := hok_del e0.hok le.all
  have noA : ∀ b : Addr, b ∉ (lamCx X A outer s1 (delC (cellsOf X) HZ) E scope f c').ex := fun b z => absurd (show b ∈ ([] : List Addr) from z) (by simp)
  have nil : ∀ {b : Addr}, HZ b = none → delC (cellsOf X) HZ b = none := fun {b} n => by
    by_cases m : b ∈ cellsOf X
    · exact delC_in m
    · rw [delC_out m]
      exact n
  refine ⟨⟨e0.mod, L.kind, rfl, rfl, Nat.le_refl _, fun y z c e1 e2 => xs.inj y z c (cm e1) (cm e2), fun y hy => ?_, fun y c z _ => ?_, fun _ => hd, Around.frames_deeper e0.frames, .inr ⟨rfl, rfl⟩, fun b z => absurd z (noA b), fun b o e => ⟨(e0.bs b o e).1, nil (e0.bs b o e).2⟩, e0.bsz, fun b _ _ => noA b,
      fun b z => absurd z (noA b), e0.funs, fun b m => nil (e0.frf b m)⟩,
    rfl, e0.bare, Un.kept kp, ⟨_, hns, fun i y v e1 e2 e3 => ?_⟩, fun y c e => ?_, hok.fresh (Nat.le_refl _), fun y c e => delC_in (mem_cellsOf (cm e)), fun q hq => absurd (show q ∈ ([] : List (Addr × Obj)) ++ [] from hq) (by simp), hok.kept kp, xs.len⟩
  · have hy : scope.names.lookup y = some .cell ∨ scope.names.lookup y = some .free := hy
    rcases hy with hy | hy
    · exact absurd rfl (L.cell _ (PySem.mem_of_lookup hy))
    · exact look hy
  · have z : false = true := z
    cases z
  · have e3 : Vis scope y := e3
    have e1 : X.N[i]? = some y := e1
    rcases e3 with k | k | k
    · exact absurd k (L.loc y (List.mem_of_getElem? e1))
    · exact absurd rfl (L.cell _ (PySem.mem_of_lookup k))
    · obtain ⟨c2, h2⟩ := look k
      have kind : X.env.kindOf y = some .cell ∨ X.env.kindOf y = some .free := L.free _ (PySem.mem_of_lookup k) rfl
      obtain ⟨u, r, z⟩ := le.slot i y v e1 e2 kind c2 (cm h2)
      exact ⟨u, r, .inr ⟨.inr k, c2, h2, heldAt z⟩⟩
  · obtain ⟨v, z⟩ := le.all c (mem_cellsOf (cm e))
    exact ⟨v, heldAt z⟩
/-- f() keeps a promise, whoever calls -/
def KCall (P : Program) (w : World) (K : PySem.W.Frag) (mg : Str → Option Value) (base : Heap) (k : Nat) (f : Addr) (tl : XK → Hp → VK → Prop) : Prop := ∀ (A : Around) (outer : List Env) (s : Shared) (H : Hp) (Q : VK) (E : XK),
  Room k A → Env0 P w K mg base A outer s H → tl E H Q → codeAny (model P w) A (.call (.ref f) ⟨[], []⟩) (CR (L2.CX P w) outer P w H s Q E) s
/-- the object of a lambda of the maker X -/
abbrev lamOb (X : Cx) (params : Arguments) (body : Expr) (scope : Scope) (dV doc pm ctv : Value) (c' : Addr) : Obj := PySem.W.kdv_obj "<lambda>" (X.env.qual ++ "<lambda>") params (.expr body) scope (cloFrom X.env.cells scope.names []) dV doc pm c' ctv
theorem lam_kcall {params : Arguments} {body : Expr} {scope : Scope} {dV doc pm ctv : Value} {f c' : Addr} {binds : List (Str × Value)} {k : Nat} {Hd : Hp → Prop} {tb : XK → TE} (xs : XSt X σ) (L : LamP X.N X.env.scope scope)
    (hbind : ∀ (H : Hp) (s : Shared), Hd H → HOk X.prog X.w H s.heap → BindsTo s (PySem.W.kdv_fn "<lambda>" (X.env.qual ++ "<lambda>") params (.expr body) scope (cloFrom X.env.cells scope.names []) dV doc pm (.ref c') ctv) ⟨[], []⟩ binds)
    (hloc : ∀ y ∈ binds, scope.names.lookup y.1 = some .local)
    (hbody : ∀ (A : Around) (outer : List Env) (s : Shared) (H : Hp) (E : XK), Room k (A.deeper (lamEnv X scope s.heap.objs.size f c')) → PE (lamCx X A outer s H E scope f c') body (tb E)) :
    KCall X.prog X.w X.K X.mg X.base (k + 1) f (fun E H Q => H f = some (LamO f (lamOb X params body scope dV doc pm ctv c')) ∧ H c' = some (CodeO c' (X.env.qual ++ "<lambda>")) ∧ Hd H ∧ Lent X σ H ∧
      tb (fun cls d H' => (∀ c ∈ cellsOf X, H' c = none) → E cls d (putC (cellsOf X) H H')) σ (delC (cellsOf X) H) (fun v H' => (∀ c ∈ cellsOf X, H' c = none) → Q v (putC (cellsOf X) H H'))) := fun A outer s H Q E hr e0 h => by
  rcases h with ⟨hf, hc, hdv, le, ht⟩
  have obj := lamO_at e0.hok hf
  rcases (e0.hok c' _ hc).1 with ⟨oc, vs, t, coAt, coD, coN⟩
  have lim : s.heap.NoLimit := e0.mod.nolimit.keeps fun b o e => (e0.bs b o e).1
  have nf : ∀ c ∈ cellsOf X, c ∉ frs outer := fun c m z => by
    rcases le.all c m with ⟨v, o, _, e⟩
    rw [e0.frf c z] at e
    cases e
  refine PySem.W.kla_callFunE hr.depth obj rfl L.co L.gen rfl ⟨c', oc, vs, t, rfl, coAt, coD, coN⟩ (hbind H s hdv e0.hok _ _ _ _ ?_)
  refine wpAny_newFunctionEnv (fun y m => L.cell y m) hloc (fun h2 fresh but => ⟨lim.fresh _ but, ?_⟩) L.kind
  have old : ∀ b o, s.heap.get? b = some o → h2.get? b = some o := fun b o e => but.extBut b o (Nat.ne_of_lt (Heap.lt_size e)) (Heap.get?_push_of_some _ e)
  have J : Inv (lamCx X A outer s (delC (cellsOf X) H) (fun cls d H' => (∀ c ∈ cellsOf X, H' c = none) → E cls d (putC (cellsOf X) H H')) scope f c') [] σ (delC (cellsOf X) H) { s with heap := h2, toks := s.toks + binds.length } :=
    lam_startL xs L e0 hr.hd le fresh old
  refine PySem.W.kla_codeExpr (wpAny_mono ((hbody A outer s (delC (cellsOf X) H) (fun cls d H' => (∀ c ∈ cellsOf X, H' c = none) → E cls d (putC (cellsOf X) H H')) (hr.deeper _)).run [] _ _ _ _ J ht) (fun v s2 q => ?_) fun e s2 q => ?_)
  · rcases q with ⟨x, H2, J2, rv, q⟩
    exact ce_put ⟨x, H2, J2.os, J2.bare, J2.base, J2.hok, rv, q⟩ e0.hok le.all nf
  · exact wpAny_mono q (fun _ s3 z => cx_put z e0.hok le.all nf) fun _ s3 z => cx_put z e0.hok le.all nf
end
end Nc

/-! Own rules: the calls: a() of what was kept; g(..) with the own cells lent; lambdas with defaults made. -/
namespace Nc
open PySem PySem.Spec PyProof.Rows L2 LamX
section
variable {Z X : Cx}
/-- a(), a a local that holds a kept lambda -/
theorem pe_callK {k i : Nat} {a : Str} {E : XK} {p1 p2 : Pos} (hx : Passes (L2.CX Z.prog Z.w) Z E) (hr : Room k Z.A) (hN : Z.N[i]? = some a) (hv : Vis Z.env.scope a) (hd : (a == ("__debug__" : Str)) = false := by decide) (hcd : (a == ("__classdict__" : Str)) = false := by decide) :
    PE Z (.Call (.Name a p1) [] [] p2) (fun σ H Q => ∃ (f : Addr) (fd : FuncData) (tl : XK → Hp → VK → Prop), σ[i]? = some (some (.ref f)) ∧ H f = some (LamO f { cls := .type "function", data := .func fd }) ∧ KCall Z.prog Z.w Z.K Z.mg Z.base k f tl ∧ tl E H Q) :=
  ⟨fun pins s σ H Q I w => by
    rcases w with ⟨f, fd, tl, at_, hf, kc, h⟩
    refine wpAny_Call_Name_kw (thn ((pe_var (pos := p1) (i := i) hN hv hd hcd).run pins s σ H (fun v H1 => v = .ref f ∧ H1 = H) I ⟨.ref f, at_, rfl, rfl⟩) fun u s1 w1 => ?_)
    rcases w1 with ⟨v, H1, I1, r1, rfl, rfl⟩
    cases r1
    have obj := lamO_at I1.hok hf
    refine PySem.W.callWith_F0 ⟨_, _, _, _, obj⟩ (wpAny_call (codeAny_mono (kc Z.A Z.stack s1 _ Q E hr I1.env0 h) fun r s2 q => ?_))
    match r, q with
    | .error e, q => exact hx pins σ _ s1 e s2 I1 q
    | .ok (.ret u), q => exact I1.after q
    | .ok .next, q => exact False.elim q
    | .ok .brk, q => exact False.elim q
    | .ok .cont, q => exact False.elim q⟩
theorem cell_not_frs {pins : List (Addr × Obj)} {σ : L2.St} {H : Hp} {s : Shared} (I : Inv X pins σ H s) (hfn : ∀ y, X.fn y = true) : ∀ c ∈ cellsOf X, c ∉ frs X.stack := fun c m z => by
  rcases of_cellsOf m with ⟨x, e⟩
  have ge : X.s_0.heap.objs.size ≤ c := I.ok.cab x c (hfn x) e
  have out : c ∉ frs X.outer := fun z => by
    rcases I.ok.funs.mem z with ⟨_, o, g, _⟩
    exact Nat.lt_irrefl _ (Nat.lt_of_lt_of_le (Heap.lt_size g) ge)
  rcases I.ok.stk with q | ⟨q, fr⟩
  · rw [q] at z
    exact out z
  · rw [q] at z
    unfold frs at z
    rw [List.filterMap_cons_some fr] at z
    rcases List.mem_cons.mp z with z | z
    · rcases I.loc with ⟨m0, ⟨o, es, ep, g, d, _⟩, _⟩
      rcases I.cell x c e with ⟨v, o2, g2, d2⟩
      rw [z] at g2
      rw [g] at g2
      cases g2
      rw [d] at d2
      cases d2
    · exact out z
theorem lend_none {pins : List (Addr × Obj)} {σ : L2.St} {H : Hp} {s : Shared} (I : Inv X pins σ H s) : ∀ c ∈ cellsOf X, H c = none := fun c m => by
  rcases of_cellsOf m with ⟨x, e⟩
  exact I.freeC x c e
theorem lent_of {pins : List (Addr × Obj)} {σ : L2.St} {H : Hp} {s : Shared} (I : Inv X pins σ H s) : Lent X σ (lendH (cellsOf X) s.heap H) where
  all := fun c m => by
    rcases of_cellsOf m with ⟨x, e⟩
    rcases I.cell x c e with ⟨v, o, g, d⟩
    exact ⟨v, o, d, lendH_in m g⟩
  slot := fun i x v e1 e2 e3 c e4 => by
    rcases I.loc with ⟨m0, _, lk⟩
    rcases lk i x v e1 e2 (e3.elim (fun k => .inr (.inl k)) fun k => .inr (.inr k)) with ⟨u, r, q⟩
    rcases q with ⟨k, _⟩ | ⟨_, c2, e5, o, g, d⟩
    · have k : X.env.kindOf x = some .local := k
      rcases e3 with k2 | k2 <;> rw [k] at k2 <;> cases k2
    · rw [e4] at e5
      cases e5
      exact ⟨u, r, o, d, lendH_in (mem_cellsOf e4) g⟩
/-- f(..), the own cells lent -/
theorem pe_lend {k : Nat} {f : Addr} {fd : FuncData} {ps : List Str} {sp : Sp} {dvs : List V} {ds : List Value} {x : Str} {p pos : Pos} {e : Expr} {es : List Expr} {t : TA} (F : FnOk X.prog X.w X.K X.mg X.base CX0 k f fd ps sp) (hr : Room k X.A) (hg : Gl X x) (hm : X.mg x = some (.ref f))
    (hk : PySem.W.keepIn X.K (.ref f) = true) (hb : Binds X.K fd ps ds) (hd : Vals dvs ds) (hfn : ∀ y, X.fn y = true)
    (ha : PA X (e :: es) t) (hdb : (x == ("__debug__" : Str)) = false := by decide) (he : starEach (e :: es) X.env = (false, eval e X.env) :: starEach es X.env := by rfl) (hpl : (backTo pos (starEach es X.env)).any (·.1) = false := by rfl) :
    PE X (.Call (.Name x p) (e :: es) [] pos) (fun σ H Q => t σ H fun vs H1 => ∀ H2, Same H1 H2 → XSt X σ → Lent X σ H2 → (∀ H3, Same H2 H3 → Same H1 (delC (cellsOf X) H3)) → sp (vs ++ dvs) H2 (fun v H3 => Q v (delC (cellsOf X) H3)) (fun _ _ _ => False)) := by
  refine ⟨fun pins s σ H Q I h => ?_⟩
  refine wpAny_Call_Name_kw (ld_glob I hg hm ?_ hdb)
  refine PySem.W.callWith_K (h₀ := X.base) I.ok.mod.kin hk (thn (ha.run pos pins s σ H _ I h) fun us s1 ⟨vs, H1, I1, r, q⟩ => ⟨I1.kIn, ?_⟩) he hpl
  have no := lend_none I1
  have nf := cell_not_frs I1 hfn
  have heldC : ∀ c ∈ cellsOf X, ∃ v, s1.heap.IsCell c v := fun c m => let ⟨y, e⟩ := of_cellsOf m; I1.cell y c e
  have sm : Same H1 (lendH (cellsOf X) s1.heap H1) := fun b o z => by
    rw [lendH_out (out_of no z)]
    exact z
  have q := q _ sm (XSt.of I1) (lent_of I1) (fun H3 s3 b o z => by
    rw [delC_out (out_of no z)]
    exact s3 b o (sm b o z))
  have r2 : Vals (vs ++ dvs) (us ++ ds) := r.append hd
  have hl : (us ++ ds).length = ps.length := by rw [← r2.length]; exact F.len _ _ _ _ q
  have e0 : Env0 X.prog X.w X.K X.mg X.base X.A X.stack s1 (lendH (cellsOf X) s1.heap H1) := by
    have z := I1.env0
    refine ⟨z.frames, z.mod, fun b o g => ⟨(z.bs b o g).1, ?_⟩, z.bsz, z.funs, fun b m => ?_, hok_lend z.hok no, z.bare⟩
    · rw [lendH_out (fun m => ?_)]
      · exact (z.bs b o g).2
      · rcases of_cellsOf m with ⟨y, e⟩
        have ge : X.s_0.heap.objs.size ≤ b := I1.ok.cab y b (hfn y) e
        exact Nat.lt_irrefl _ (Nat.lt_of_lt_of_le (Heap.lt_size g) (Nat.le_trans I1.ok.bsz ge))
    · rw [lendH_out (fun m2 => nf b m2 m)]
      exact z.frf b m
  refine wpAny_call (codeAny_mono (F.run X.A X.stack s1 _ ⟨us, []⟩ (us ++ ds) (vs ++ dvs) _ _ hr e0 (hb s1 us I1.kIn hl) r2 q) fun r s2 hq => ?_)
  match r, hq with
  | .error e, hq => exact False.elim hq
  | .ok (.ret u), hq =>
    rcases hq with ⟨v, H', os, bare, un, hok, rv, q⟩
    have fz := lend_frz un heldC
    exact I1.after ⟨v, _, os, bare, un_lend un hok no nf (fun c m => let ⟨v, o, g, _⟩ := heldC c m; ⟨o, g⟩), hok_del hok fz, rv, q⟩
  | .ok .next, hq => exact False.elim hq
  | .ok .brk, hq => exact False.elim hq
  | .ok .cont, hq => exact False.elim hq
end
end Nc

/-! Own rules: lambdas that are made and kept, with a default or without. -/
namespace Nc
open PySem PySem.Spec PyProof.Rows L2 LamX
section
variable {X : Cx} {pins : List (Addr × Obj)} {σ : L2.St} {H : Hp} {s : Shared}
theorem lam_tail {T : List (Addr × Str)} {c P : Addr} {params : Arguments} {body : Expr} {scope : Scope} {pos : Pos} {fl : Nat} {dV : Value} {E : Value → Shared → Prop} {Q : Value → Shared → Prop} (I : Inv X pins σ H s) (TB : TabB X.base X.mg c P) (hcode : X.env.code = .ref c)
    (hm : (P, X.env.qual ++ "<lambda>") ∈ T) (hu : ∀ p ∈ T, p.1 = P → p.2 = X.env.qual ++ "<lambda>") (hT : Tabs T H) (hfree : ∀ y ∈ scope.names, y.2 = .free → ∃ c, X.env.cells.lookup y.1 = some c)
    (h : ∀ (f c' : Addr) (doc pm ctv : Value) (H1 : Hp) (s' : Shared), Inv X pins σ H1 s' → ExtN H H1 → Tabs T H1 → H f = none → H1 f = some (LamO f (lamOb X params body scope dV doc pm ctv c')) → H1 c' = some (CodeO c' (X.env.qual ++ "<lambda>")) → Q (.ref f) s') :
    wpAny (model X.prog X.w) X.A (makeTail "<lambda>" (X.env.qual ++ "<lambda>") params (.expr body) scope X.env dV .none none pos fl) Q E s := by
  rcases hT _ hm with ⟨ps, atP, tri, among⟩
  have tabP : s.heap.get? P = some { cls := .none, data := .fields ps } := I.hok P _ atP
  have blt : s.heap.BuiltinsAt X.mg P := TB.bm.keeps I.bk
  have last : ∀ (H2 : Hp) (h2 : Heap) (t2 : Nat) (doc pm ctv : Value) (c' : Addr), Inv X pins σ H2 { s with heap := h2, toks := t2 } → ExtN H H2 → Tabs T H2 → s.heap.objs.size ≤ h2.objs.size → H2 c' = some (CodeO c' (X.env.qual ++ "<lambda>")) →
      Q (.ref h2.objs.size) { s with heap := h2.push (lamOb X params body scope dV doc pm ctv c'), toks := t2 } := fun H2 h2 t2 doc pm ctv c' I2 e2 T2 le co => by
    have n2 : H2 h2.objs.size = none := I2.hok.fresh (Nat.le_refl _)
    have grow : ∀ b o, H2 b = some o → upd H2 h2.objs.size (LamO h2.objs.size (lamOb X params body scope dV doc pm ctv c')) b = some o := fun b o z => by
      rw [upd_ne (ne_of_none z n2)]
      exact z
    have I3 := I2.laid (t' := t2) (a := h2.objs.size) (o := LamO h2.objs.size (lamOb X params body scope dV doc pm ctv c')) (h' := h2.push (lamOb X params body scope dV doc pm ctv c')) (fun b o z => Heap.get?_push_of_some _ z) (Nat.le_refl _) (lamO_ok (Heap.get?_push_size _ rfl))
    exact h h2.objs.size c' doc pm ctv _ _ I3 (e2.trans (ExtN.of grow)) (T2.ext grow) (I.hok.fresh le) upd_same (grow _ _ co)
  cases hc : codeAmong pos ps.toList with
  | some cv =>
    rcases among pos cv hc with ⟨c', rfl, co⟩
    exact PySem.W.kdv_makeTailHit (mg := X.mg) (c := c) (P := P) (ps := ps) (closure_ok hfree) I.ok.glob (I.mod.glob.keeps I.bk) hcode (TB.code.keeps I.bk) tabP tri hc blt fun ctv doc h2 t2 old le =>
      last H h2 t2 doc _ ctv c' (I.kept old) (ExtN.refl H) hT le co
  | none =>
    refine PySem.W.kdv_makeTail (mg := X.mg) (c := c) (P := P) (ps := ps) (closure_ok hfree) I.ok.glob (I.mod.glob.keeps I.bk) hcode (TB.code.keeps I.bk) tabP tri hc TB.gP blt fun c' ctv doc h2 t2 old ge lt rec tab => ?_
    have I2 : Inv X pins σ (upd (upd H P (.tbl (ps ++ #[rawInt pos.line, rawInt pos.col, .ref c']))) c' (CodeO c' (X.env.qual ++ "<lambda>"))) { s with heap := h2, toks := t2 } :=
      inv_table (more := #[rawInt pos.line, rawInt pos.col, .ref c']) I atP old tab ge (let ⟨_, oc, vs, t, e, g, d, v⟩ := rec; ⟨oc, vs, t, by cases e; exact g, d, v⟩)
    have nc : H c' = none := I.hok.fresh ge
    have nPc : P ≠ c' := ne_of_none atP nc
    have ext : ExtN H (upd (upd H P (.tbl (ps ++ #[rawInt pos.line, rawInt pos.col, .ref c']))) c' (CodeO c' (X.env.qual ++ "<lambda>"))) := fun b o e n => by
      have nb : b ≠ P := fun z => by
        rw [z, atP] at e
        exact n ps (Option.some.inj e).symm
      rw [upd_ne (ne_of_none e nc), upd_ne nb]
      exact e
    refine last _ h2 t2 doc _ ctv c' I2 ext (fun p hp => ?_) (Nat.le_trans ge (Nat.le_of_lt lt)) upd_same
    by_cases same : p.1 = P
    · have lst : (ps ++ #[rawInt pos.line, rawInt pos.col, Value.ref c']).toList = ps.toList ++ [rawInt pos.line, rawInt pos.col, .ref c'] := by simp
      rw [hu p hp same, same]
      refine ⟨_, by rw [upd_ne nPc, upd_same], by rw [lst]; exact PySem.TriplesOk_snoc _ _ _ _ tri, fun p2 cv found => ?_⟩
      rw [lst] at found
      rcases among_app _ tri found with z | z
      · rcases among p2 cv z with ⟨c0, e1, e2⟩
        exact ⟨c0, e1, ext _ _ e2 codeO_ne⟩
      · exact ⟨c', z, upd_same⟩
    · rcases hT p hp with ⟨qs, a1, a2, a3⟩
      refine ⟨qs, by rw [upd_ne (ne_of_none a1 nc), upd_ne same]; exact a1, a2, fun p2 cv found => ?_⟩
      rcases a3 p2 cv found with ⟨c0, e1, e2⟩
      exact ⟨c0, e1, ext _ _ e2 codeO_ne⟩
/-- lambda x=d: body -/
def tLamD (X : Cx) (T : List (Addr × Str)) (params : Arguments) (body : Expr) (scope : Scope) (te : TE) : TE := fun σ H Q => te σ H fun y H0 => Tabs T H0 ∧ ∀ (f c' t : Addr) (u doc pm ctv : Value) (H1 : Hp), RelV y u → ExtN H0 H1 → Tabs T H1 → H0 f = none →
  H1 f = some (LamO f (lamOb X params body scope (.ref t) doc pm ctv c')) → H1 c' = some (CodeO c' (X.env.qual ++ "<lambda>")) → H1 t = some (LamO t (PySem.W.kdv_tup [u])) → Q (.ref f) H1
theorem pe_lamD {T : List (Addr × Str)} {c P : Addr} {params : Arguments} {d body : Expr} {scope : Scope} {pos : Pos} {te : TE} (TB : TabB X.base X.mg c P) (hcode : X.env.code = .ref c) (hm : (P, X.env.qual ++ "<lambda>") ∈ T) (hu : ∀ p ∈ T, p.1 = P → p.2 = X.env.qual ++ "<lambda>")
    (L : LamP X.N X.env.scope scope) (hdef : params.defaults = [d]) (hkw : params.kw_defaults = []) (he : PE X d te) : PE X (.Lambda params body scope pos) (tLamD X T params body scope te) :=
  ⟨fun pins s σ H Q I h => by
    refine PySem.W.kdv_lam (by rw [hdef]; rfl) hkw ?_
    rw [hdef]
    refine PySem.W.kdv_all1 (thn (he.run pins s σ H _ I h) fun u s1 ⟨y, H0, I0, r, hT, h⟩ => PySem.W.kdv_all0 ?_)
    rw [makeFunction_eq]
    simp only [List.zip_nil_right, List.filterMap_nil, List.isEmpty_nil, if_true, pure_bind, List.isEmpty_cons, Bool.false_eq_true, if_false]
    refine wpAny_bind (wpAny_newTextTuple ?_)
    have nt : H0 s1.heap.objs.size = none := I0.hok.fresh (Nat.le_refl _)
    have grow : ∀ b o, H0 b = some o → upd H0 s1.heap.objs.size (LamO s1.heap.objs.size (PySem.W.kdv_tup [u])) b = some o := fun b o z => by
      rw [upd_ne (ne_of_none z nt)]
      exact z
    have I1 := I0.laid (t' := s1.toks) (a := s1.heap.objs.size) (o := LamO s1.heap.objs.size (PySem.W.kdv_tup [u])) (h' := s1.heap.push (PySem.W.kdv_tup [u])) (fun b o z => Heap.get?_push_of_some _ z) (Nat.le_refl _) (lamO_ok (Heap.get?_push_size _ rfl))
    refine lam_tail I1 TB hcode hm hu (hT.ext grow) (L.has (XSt.of I1)) fun f c' doc pm ctv H1 s' I2 e2 T2 nf lf co => ?_
    refine ⟨.ref f, H1, I2, rfl, h f c' _ u doc pm ctv H1 r ((ExtN.of grow).trans e2) T2 ?_ lf co (e2 _ _ upd_same (lamO_tbl))⟩
    cases z : H0 f with
    | none => rfl
    | some o =>
      rw [grow f o z] at nf
      cases nf⟩
/-- lambda: body -/
def tLamN (X : Cx) (T : List (Addr × Str)) (params : Arguments) (body : Expr) (scope : Scope) : TE := fun σ H Q => Tabs T H ∧ ∀ (f c' : Addr) (doc pm ctv : Value) (H1 : Hp), ExtN H H1 → Tabs T H1 → H f = none →
  H1 f = some (LamO f (lamOb X params body scope .none doc pm ctv c')) → H1 c' = some (CodeO c' (X.env.qual ++ "<lambda>")) → Q (.ref f) H1
theorem pe_lamN {T : List (Addr × Str)} {c P : Addr} {params : Arguments} {body : Expr} {scope : Scope} {pos : Pos} (TB : TabB X.base X.mg c P) (hcode : X.env.code = .ref c) (hm : (P, X.env.qual ++ "<lambda>") ∈ T) (hu : ∀ p ∈ T, p.1 = P → p.2 = X.env.qual ++ "<lambda>")
    (L : LamP X.N X.env.scope scope) (hdef : defaultsOf params X.env = ([], [])) : PE X (.Lambda params body scope pos) (tLamN X T params body scope) :=
  ⟨fun pins s σ H Q I h => by
    refine PySem.W.kla_eval hdef ?_
    rw [makeFunction_eq]
    simp only [List.zip_nil_right, List.filterMap_nil, List.isEmpty_nil, if_true, pure_bind]
    exact lam_tail I TB hcode hm hu h.1 (L.has (XSt.of I)) fun f c' doc pm ctv H1 s' I2 e2 T2 nf lf co => ⟨.ref f, H1, I2, rfl, h.2 f c' doc pm ctv H1 e2 T2 nf lf co⟩⟩
end
end Nc

/-! Own rules: a() of what was kept, within a try. -/
namespace Nc
open PySem PySem.Spec PyProof.Rows L2 LamX
theorem pe_callT {Z : Cx} {k i : Nat} {a : Str} {W : WX} {p1 p2 : Pos} (tk : Takes Z W) (hr : Room k Z.A) (hN : Z.N[i]? = some a) (hv : Vis Z.env.scope a) (hd : (a == ("__debug__" : Str)) = false := by decide) (hcd : (a == ("__classdict__" : Str)) = false := by decide) :
    PE Z (.Call (.Name a p1) [] [] p2) (fun σ H Q => ∃ (E : XK) (f : Addr) (fd : FuncData) (tl : XK → Hp → VK → Prop), (∀ cls d H', E cls d H' → W cls d σ H') ∧ σ[i]? = some (some (.ref f)) ∧ H f = some (LamO f { cls := .type "function", data := .func fd }) ∧ KCall Z.prog Z.w Z.K Z.mg Z.base k f tl ∧ tl E H Q) :=
  ⟨fun pins s σ H Q I w => by
    rcases w with ⟨E, f, fd, tl, hW, at_, hf, kc, h⟩
    refine wpAny_Call_Name_kw (thn ((pe_var (pos := p1) (i := i) hN hv hd hcd).run pins s σ H (fun v H1 => v = .ref f ∧ H1 = H) I ⟨.ref f, at_, rfl, rfl⟩) fun u s1 w1 => ?_)
    rcases w1 with ⟨v, H1, I1, r1, rfl, rfl⟩
    cases r1
    have obj := lamO_at I1.hok hf
    refine PySem.W.callWith_F0 ⟨_, _, _, _, obj⟩ (wpAny_call (codeAny_mono (kc Z.A Z.stack s1 _ Q E hr I1.env0 h) fun r s2 q => ?_))
    match r, q with
    | .error e, q => exact tk e s2 (XE.of_call I1 (fun cls d H' h => hW cls d H' h) q)
    | .ok (.ret u), q => exact I1.after q
    | .ok .next, q => exact False.elim q
    | .ok .brk, q => exact False.elim q
    | .ok .cont, q => exact False.elim q⟩
/-- a kept lambda that raises InvalidBound(due), or NoCircle for "circle"; all else stands -/
def ErrIs (IB NC : Addr) (due : Str) (cls : Value) (d : Option Addr) (H : Hp) : Prop := (cls = .ref IB ∧ ∃ dd, d = some dd ∧ H dd = some (.xd [("argument", .str due)])) ∨ (cls = .ref NC ∧ due = "circle")
def Raiser (P : Program) (w : World) (K : PySem.W.Frag) (mg : Str → Option Value) (base : Heap) (IB NC : Addr) (k : Nat) (f : Addr) (H : Hp) (due : Str) : Prop := ∃ (fd : FuncData) (tl : XK → Hp → VK → Prop),
  H f = some (LamO f { cls := .type "function", data := .func fd }) ∧ KCall P w K mg base k f tl ∧ ∀ H1, Same H H1 → ∀ (E : XK) (Q : VK), (∀ cls d H', Same H1 H' → ErrIs IB NC due cls d H' → E cls d H') → tl E H1 Q
theorem Raiser.same {P : Program} {w : World} {K : PySem.W.Frag} {mg : Str → Option Value} {base : Heap} {IB NC : Addr} {k : Nat} {f : Addr} {H H' : Hp} {due : Str} (s : Same H H') (r : Raiser P w K mg base IB NC k f H due) : Raiser P w K mg base IB NC k f H' due :=
  let ⟨fd, tl, a, b, c⟩ := r; ⟨fd, tl, s _ _ a, b, fun H1 s1 => c H1 (s.trans s1)⟩
section
variable {X : Cx} {σ : L2.St} {H1 H2 : Hp} {IB NC : Addr} {due : Str}
theorem same_put {cs : List Addr} {H H' : Hp} (k : Same (delC cs H) H') : Same H (putC cs H H') := fun b o e => by
  by_cases m : b ∈ cs
  · rw [putC_in m]
    exact e
  · rw [putC_out m]
    exact k b o (by rw [delC_out m]; exact e)
theorem err_put {cs : List Addr} {H H' : Hp} {cls : Value} {d : Option Addr} (n : ∀ c ∈ cs, H' c = none) (e : ErrIs IB NC due cls d H') : ErrIs IB NC due cls d (putC cs H H') := by
  rcases e with ⟨rfl, dd, rfl, e⟩ | ⟨rfl, rfl⟩
  · refine .inl ⟨rfl, dd, rfl, ?_⟩
    rw [putC_out fun m => by rw [n dd m] at e; cases e]
    exact e
  · exact .inr ⟨rfl, rfl⟩
/-- a lambda whose body raises, whatever has come -/
theorem raiserL {params : Arguments} {body : Expr} {scope : Scope} {dV doc pm ctv : Value} {f c' : Addr} {binds : List (Str × Value)} {k : Nat} {Hd : Hp → Prop} {tb : XK → TE} (xs : XSt X σ) (L : LamP X.N X.env.scope scope)
    (hbind : ∀ (H : Hp) (s : Shared), Hd H → HOk X.prog X.w H s.heap → BindsTo s (PySem.W.kdv_fn "<lambda>" (X.env.qual ++ "<lambda>") params (.expr body) scope (cloFrom X.env.cells scope.names []) dV doc pm (.ref c') ctv) ⟨[], []⟩ binds)
    (hloc : ∀ y ∈ binds, scope.names.lookup y.1 = some .local)
    (hbody : ∀ (A : Around) (outer : List Env) (s : Shared) (H : Hp) (E : XK), Room k (A.deeper (lamEnv X scope s.heap.objs.size f c')) → PE (lamCx X A outer s H E scope f c') body (tb E))
    (hf : H2 f = some (LamO f (lamOb X params body scope dV doc pm ctv c'))) (hc : H2 c' = some (CodeO c' (X.env.qual ++ "<lambda>"))) (hd : ∀ H3, Same H2 H3 → Hd H3) (le : Lent X σ H2) (back : ∀ H3, Same H2 H3 → Same H1 (delC (cellsOf X) H3))
    (rd : ∀ (H4 : Hp) (E : XK) (Q : VK), Same H1 H4 → (∀ cls d H', Same H4 H' → ErrIs IB NC due cls d H' → E cls d H') → tb E σ H4 Q) : Raiser X.prog X.w X.K X.mg X.base IB NC (k + 1) f H2 due :=
  ⟨_, _, hf, lam_kcall xs L hbind hloc hbody, fun H3 s3 E Q hE => ⟨s3 _ _ hf, s3 _ _ hc, hd _ s3, le.same s3, rd _ _ _ (back _ s3) fun cls d H' sm e n => hE cls d _ (same_put sm) (err_put n e)⟩⟩
/-- .. without defaults -/
theorem raiserN {params : Arguments} {body : Expr} {scope : Scope} {doc pm ctv : Value} {f c' : Addr} {k : Nat} {tb : XK → TE} (xs : XSt X σ) (L : LamP X.N X.env.scope scope)
    (hbind : bindArgs (PySem.W.kdv_fn "<lambda>" (X.env.qual ++ "<lambda>") params (.expr body) scope (cloFrom X.env.cells scope.names []) .none doc pm (.ref c') ctv) ⟨[], []⟩ = pure [])
    (hbody : ∀ (A : Around) (outer : List Env) (s : Shared) (H : Hp) (E : XK), Room k (A.deeper (lamEnv X scope s.heap.objs.size f c')) → PE (lamCx X A outer s H E scope f c') body (tb E))
    (hf : H2 f = some (LamO f (lamOb X params body scope .none doc pm ctv c'))) (hc : H2 c' = some (CodeO c' (X.env.qual ++ "<lambda>"))) (le : Lent X σ H2) (back : ∀ H3, Same H2 H3 → Same H1 (delC (cellsOf X) H3))
    (rd : ∀ (H4 : Hp) (E : XK) (Q : VK), Same H1 H4 → (∀ cls d H', Same H4 H' → ErrIs IB NC due cls d H' → E cls d H') → tb E σ H4 Q) : Raiser X.prog X.w X.K X.mg X.base IB NC (k + 1) f H2 due :=
  raiserL (binds := []) (Hd := fun _ => True) xs L (fun _ _ _ _ => .of_eq hbind) (fun y m => absurd m (by simp)) hbody hf hc (fun _ _ => True.intro) le back rd
/-- .. with one default -/
theorem raiserD {params : Arguments} {body : Expr} {scope : Scope} {u doc pm ctv : Value} {f c' t : Addr} {x : Str} {k : Nat} {kk : Option (Array Value) → Sem (List (Str × Value))} {tb : XK → TE} (xs : XSt X σ) (L : LamP X.N X.env.scope scope)
    (h₁ : bindArgs (PySem.W.kdv_fn "<lambda>" (X.env.qual ++ "<lambda>") params (.expr body) scope (cloFrom X.env.cells scope.names []) (.ref t) doc pm (.ref c') ctv) ⟨[], []⟩ = seqItems? (.ref t) >>= kk) (h₂ : kk (some [u].toArray) = pure [(x, u)]) (hx : scope.names.lookup x = some .local)
    (hbody : ∀ (A : Around) (outer : List Env) (s : Shared) (H : Hp) (E : XK), Room k (A.deeper (lamEnv X scope s.heap.objs.size f c')) → PE (lamCx X A outer s H E scope f c') body (tb E))
    (hf : H2 f = some (LamO f (lamOb X params body scope (.ref t) doc pm ctv c'))) (hc : H2 c' = some (CodeO c' (X.env.qual ++ "<lambda>"))) (ht : H2 t = some (LamO t (PySem.W.kdv_tup [u]))) (le : Lent X σ H2) (back : ∀ H3, Same H2 H3 → Same H1 (delC (cellsOf X) H3))
    (rd : ∀ (H4 : Hp) (E : XK) (Q : VK), Same H1 H4 → (∀ cls d H', Same H4 H' → ErrIs IB NC due cls d H' → E cls d H') → tb E σ H4 Q) : Raiser X.prog X.w X.K X.mg X.base IB NC (k + 1) f H2 due :=
  raiserL (binds := [(x, u)]) (Hd := fun H => H t = some (LamO t (PySem.W.kdv_tup [u]))) xs L (fun H s hd hok => .of_defaults rfl (lamO_at hok hd) rfl h₁ h₂) (fun y m => by rw [List.mem_singleton.mp m]; exact hx) hbody hf hc (fun H3 s3 => s3 _ _ ht) le back rd
end
end Nc

/-! Own rules: readings with heaps that are told by what is true of them alone. -/
namespace Nc
open PySem PySem.Spec PyProof.Rows L2 LamX
section
variable {X : Cx}
def tTupG (t : TA) : TE := fun σ H Q => t σ H fun vs H1 => vs.length ≤ sizeLine ∧ ∀ p H2, Same H1 H2 → H1 p = none → H2 p = some (.tup vs) → Q (.ref p) H2
def tLstG (t : TA) : TE := fun σ H Q => t σ H fun vs H1 => vs.length ≤ sizeLine ∧ ∀ p H2, Same H1 H2 → H1 p = none → H2 p = some (.lst vs) → Q (.ref p) H2
def tDicG : TE := fun _ H Q => ∀ p H2, Same H H2 → H p = none → H2 p = some (.dK []) → Q (.ref p) H2
theorem pe_tupG {es : List Expr} {k : Nat} {pos : Pos} {t : TA} (h : PA X es t) : PE X (.Tuple es k pos) (tTupG t) := ⟨fun pins s σ H Q I w => by
  have step := h.run pos pins s σ H _ I w
  refine wpAny_Tuple_spliced (thn step fun us s1 got => ?_)
  rcases got with ⟨vs, H1, I1, rv, len, q⟩
  refine ⟨rv.length ▸ len, ?_⟩
  have free : H1 s1.heap.objs.size = none := I1.hok.fresh (Nat.le_refl _)
  have new : ObjOk X.prog X.w (upd H1 s1.heap.objs.size (.tup vs)) (s1.heap.push { cls := .type "tuple", data := .seq us.toArray }) s1.heap.objs.size (.tup vs) := ⟨len, us, rv, _, Heap.get?_push_size _ rfl, rfl, _, rfl⟩
  exact ⟨.ref _, _, I1.laid (t' := s1.toks) (fun _ _ e => Heap.get?_push_of_some _ e) (Nat.le_refl _) new, rfl, q _ _ (Same.upd free) free upd_same⟩⟩
theorem pe_lstG {es : List Expr} {pos : Pos} {t : TA} (h : PA X es t) : PE X (.List es pos) (tLstG t) := ⟨fun pins s σ H Q I w => by
  have step := h.run pos pins s σ H _ I w
  refine wpAny_List_spliced (thn step fun us s1 got => ?_)
  rcases got with ⟨vs, H1, I1, rv, len, q⟩
  refine ⟨rv.length ▸ len, ?_⟩
  have free : H1 s1.heap.objs.size = none := I1.hok.fresh (Nat.le_refl _)
  have new : ObjOk X.prog X.w (upd H1 s1.heap.objs.size (.lst vs)) (s1.heap.push { cls := .type "list", data := .seq us.toArray 0 }) s1.heap.objs.size (.lst vs) := ⟨len, us, 0, rv, Heap.get?_push_size _ rfl⟩
  exact ⟨.ref _, _, I1.laid (t' := s1.toks) (fun _ _ e => Heap.get?_push_of_some _ e) (Nat.le_refl _) new, rfl, q _ _ (Same.upd free) free upd_same⟩⟩
theorem pe_dicG {pos : Pos} : PE X (.Dict [] [] pos) tDicG := peOf pe_dnewK fun σ H Q q p np => q p _ (Same.upd np) np upd_same
def rCatG : R2 := fun x y H Q => ∃ l b xs zs, x = .ref l ∧ y = .ref b ∧ H l = some (.lst xs) ∧ H b = some (.lst zs) ∧ xs.length + zs.length ≤ sizeLine ∧ ∀ p H2, Same H H2 → H p = none → H2 p = some (.lst (xs ++ zs)) → Q (.ref p) H2
theorem op_catG : OpR X (binaryOp .Add) rCatG := fun pins s σ H x y v u Q I rx ry w => by
  rcases w with ⟨l, b, xs, zs, e1, e2, h1, h2, z, q⟩
  exact op_cat pins s σ H x y v u Q I rx ry ⟨l, b, xs, zs, e1, e2, h1, h2, z, fun p np => q p _ (Same.upd np) np upd_same⟩
theorem ExtN.same {H H' : Hp} (s : Same H H') : ExtN H H' := fun b o e _ => s b o e
theorem SqL.ext {K : PySem.W.Frag} {H H' : Hp} {a : Addr} {xs : List V} (e : ExtN H H') (h : SqL K H a xs) : SqL K H' a xs := by
  rcases h with (h | ⟨o, h⟩) | h
  · exact .inl (.inl (e _ _ h fun ps z => nomatch z))
  · exact .inl (.inr ⟨o, e _ _ h fun ps z => nomatch z⟩)
  · exact .inr h
theorem SqT.ext {K : PySem.W.Frag} {H H' : Hp} {a : Addr} {xs : List V} (e : ExtN H H') (h : SqT K H a xs) : SqT K H' a xs := by
  rcases h with (h | ⟨o, h⟩) | h
  · exact .inl (.inl (e _ _ h fun ps z => nomatch z))
  · exact .inl (.inr ⟨o, e _ _ h fun ps z => nomatch z⟩)
  · exact .inr h
theorem TyX.ext {K : PySem.W.Frag} {H H' : Hp} {x : V} {t : Value} (e : ExtN H H') (h : TyX K H x t) : TyX K H' x t := by
  cases h with
  | base b =>
    cases b with
    | non => exact .base .non
    | bl x => exact .base (.bl x)
    | int i => exact .base (.int i)
    | str x => exact .base (.str x)
    | flt x => exact .base (.flt x)
    | lst z => exact .base (.lst (e _ _ z fun ps z => nomatch z))
    | frz z => exact .base (.frz (e _ _ z fun ps z => nomatch z))
    | tup z => exact .base (.tup (e _ _ z fun ps z => nomatch z))
    | dK z => exact .base (.dK (e _ _ z fun ps z => nomatch z))
    | dT z => exact .base (.dT (e _ _ z fun ps z => nomatch z))
    | ins z c h1 h2 h3 h4 => exact .base (.ins (e _ _ z fun ps z => nomatch z) c h1 h2 h3 h4)
  | byt b => exact .byt b
  | set z => exact .set (e _ _ z fun ps z => nomatch z)
  | kList a b => exact .kList a b
  | kTuple a b => exact .kTuple a b
  | kDict a b => exact .kDict a b
  | fTuple z => exact .fTuple (e _ _ z fun ps z => nomatch z)
  | fDict z => exact .fDict (e _ _ z fun ps z => nomatch z)
theorem TabsExt {T : List (Addr × Str)} {H H' : Hp} (t : Tabs T H) (s : Same H H') : Tabs T H' := t.ext s
end
end Nc

/-! Own rules: own exceptions made as values, by a keyword or by place. -/
namespace Nc
open PySem PySem.Spec PyProof.Rows L2 LamX
open PySem.HandSPX
section
variable {prog : Program} {w : World} {A : Around} {E : Value → Shared → Prop} {R : Result → Shared → Prop} {h : Heap} {g : Array GenState} {d : Drawn} {t : Nat} {os : OsState}
variable {nm q : Str} {C N : Addr} {bs bm bmB : List Value} {hdct : Bool} {sn : List Str} {sub : List Value} {ab : Bool} {col : Option Bool} {dd : Option Addr} {k0 k1 k2 k3 k5 : Option Value} {B newId initId : String} {kw : List (Str × Value)}
theorem new_check {M : Model} (F : ExcBaseFacts B newId initId bmB) (hT : ∀ X : String, bm.contains (.type X) = bmB.contains (.type X)) {Q : Unit → Shared → Prop}
    (hC : h.get? C = some (excClassObj nm q C N bs bm hdct sn sub ab col dd k0 k1 k2 k3 k5 newId)) (z : Q () ⟨h, g, d, t, os⟩) : wpAny M A (checkBuiltinCall newId ⟨[.ref C], kw⟩) Q E ⟨h, g, d, t, os⟩ := by
  have below : (Value.ref C :: bm).contains (.type B) = true := by rw [List.contains_cons, hT, F.hasB, Bool.or_true]
  have star := F.noStar
  simp only [checkBuiltinCall, F.newKind, F.newSplit, F.newRow]
  repeat (first | refine wpAny_loadPart_at hC ?_ | (refine wpAny_isSubtype_exc hC ?_; rw [below]) | refine wpAny_staticBase_exc hC ?_ | refine wpAny_madeBy_exc hC ?_ | simp only [bne_self_eq_false, Bool.false_eq_true, if_false] | wp_step)
  exact z
theorem new_kw (F : ExcBaseFacts B newId initId bmB) (hT : ∀ X : String, bm.contains (.type X) = bmB.contains (.type X)) (hC : h.get? C = some (excClassObj nm q C N bs bm hdct sn sub ab col dd k0 k1 k2 k3 k5 newId))
    (z : R (.ok (.ret (.ref (h.objs.size + 1)))) ⟨(h.push (PySem.W.kdv_tup [])).push (excO C h.objs.size), g, d, t, os⟩) : codeAny (model prog w) A (.builtin newId ⟨[.ref C], kw⟩) R ⟨h, g, d, t, os⟩ := by
  have e := F.ends
  have c1 : (Value.ref C :: bm).contains (.type B) = true := by rw [List.contains_cons, hT, F.hasB, Bool.or_true]
  have c2 : (Value.ref C :: bm).contains (.type "AttributeError") = false := by rw [List.contains_cons, hT, F.noAttr]; rfl
  have c3 : (Value.ref C :: bm).contains (.type "NameError") = false := by rw [List.contains_cons, hT, F.noName]; rfl
  refine codeAny_builtinAt F.entry ?_
  unfold Builtin.«BaseException.__new__»
  refine PySem.wpAt_bind ?_
  show PySem.wpAt _ _ _ (stack >>= _) _ _ _
  refine PySem.wpAt_bind (PySem.wpAt_stack fun p below => PySem.wpAt_of_wpAny ?_)
  wp_walk
  refine PySem.wpAt_of_wpAny ?_
  rw [F.owner]
  repeat (first | with_reducible refine wpAny_madeHere_exc F.canon hC ?_ | with_reducible refine wpAny_loadPart_at hC ?_ | (with_reducible refine wpAny_isSubtype_exc hC ?_; first | rw [c1] | rw [c2] | rw [c3]) | wp_step)
  show R _ _
  rw [Heap.size_push]
  exact z
theorem type_kw (F : ExcBaseFacts B newId initId bmB) (hT : ∀ X : String, bm.contains (.type X) = bmB.contains (.type X)) {fI : Addr} {Q : Fin → Shared → Prop}
    (hC : h.get? C = some (excClassObj nm q C N bs bm hdct sn sub ab col dd k0 k1 k2 k3 k5 newId)) (hi : PySem.W.Looks (model prog w) h (typeLookup (.ref C) "__init__") (some (.ref fI))) (hb : ∀ self, PySem.W.Looks (model prog w) h (bindSpecial (.ref fI) self) (.ref fI, [self]))
    (z : codeAny (model prog w) A (.call (.ref fI) ⟨[.ref (h.objs.size + 1)], kw⟩) (fun r s' => match r with | .ok (.ret v) => v = .none ∧ Q (.done (.ret (.ref (h.objs.size + 1)))) s' | .ok _ => False | .error e => E e s') ⟨(h.push (PySem.W.kdv_tup [])).push (excO C h.objs.size), g, d, t, os⟩) :
    wpAny (model prog w) A (Builtin.«type.__call__» ⟨[.ref C], kw⟩) Q E ⟨h, g, d, t, os⟩ := by
  repeat (first | with_reducible refine wpAny_loadPart_at hC ?_ | with_reducible refine wpAny_madeBy_exc hC ?_ | wp_step)
  refine codeAny_call_builtin_code (Code.quiet_builtin _ F.quiet) (new_check F hT hC ?_)
  refine new_kw F hT hC ?_
  show wpAny _ _ _ _ _ _
  have old : ∀ b o, h.get? b = some o → ((h.push (PySem.W.kdv_tup [])).push (excO C h.objs.size)).get? b = some o := fun b o e => Heap.get?_push_of_some _ (Heap.get?_push_of_some _ e)
  have hC1 := old _ _ hC
  have atE : ((h.push (PySem.W.kdv_tup [])).push (excO C h.objs.size)).get? (h.objs.size + 1) = some (excO C h.objs.size) := by heap_get
  have self : (Value.ref C :: bm).contains (.ref C) = true := by simp
  have look := hi.keeps old
  have bound := (hb (.ref (h.objs.size + 1))).keeps old
  unfold isInstance
  repeat (first | with_reducible refine wpAny_loadPart_at atE ?_ | (with_reducible refine wpAny_isSubtype_exc hC1 ?_; rw [self]) | wp_step)
  show wpAny _ _ (typeLookup (.ref C) _) _ _ _
  refine look.at ?_
  refine wpAny_holding (wpAny_bind (bound.at ?_))
  refine wpAny_bind (wpAny_call (codeAny_mono z fun r s' got => ?_))
  match r, got with
  | .error e, got => exact got
  | .ok (.ret v), got =>
    obtain ⟨rfl, got⟩ := got
    first
      | exact wpAny_pure (wpAny_pure got)
      | (wp_walk; exact got)
  | .ok .next, got => exact got.elim
  | .ok .brk, got => exact got.elim
  | .ok .cont, got => exact got.elim
theorem own_kw (F : ExcBaseFacts B newId initId bmB) (hT : ∀ X : String, bm.contains (.type X) = bmB.contains (.type X)) {fI : Addr}
    (hC : h.get? C = some (excClassObj nm q C N bs bm hdct sn sub ab col dd k0 k1 k2 k3 k5 newId)) (hi : PySem.W.Looks (model prog w) h (typeLookup (.ref C) "__init__") (some (.ref fI))) (hb : ∀ self, PySem.W.Looks (model prog w) h (bindSpecial (.ref fI) self) (.ref fI, [self]))
    (z : codeAny (model prog w) (A.under (.builtin "type.__call__" ⟨[.ref C], kw⟩)) (.call (.ref fI) ⟨[.ref (h.objs.size + 1)], kw⟩) (PySem.W.InitBack (h.objs.size + 1) R) ⟨(h.push (PySem.W.kdv_tup [])).push (excO C h.objs.size), g, d, t, os⟩) :
    codeAny (model prog w) A (.call (.ref C) ⟨[], kw⟩) R ⟨h, g, d, t, os⟩ := by
  have f1 := tc_lookup
  have f2 := tc_bind (.ref C)
  have ty : (⟨h, g, d, t, os⟩ : Shared).TypeIs (.ref C) "type" := ⟨_, hC, rfl⟩
  refine codeAny_of_tree ?_
  show wpAny _ _ (callAny (.ref C) _) _ _ _
  repeat (any_goals (first | assumption | with_reducible refine wpAny_loadPart_at hC ?_ | wp_step))
  refine ⟨rfl, ?_⟩
  refine codeAny_call_builtin_at (Code.quiet_builtin _ (by decide +kernel)) entry_typeCall (wpAny_check_type_call_sub hC (type_kw F hT hC hi hb ?_))
  refine codeAny_mono z fun r s' got => ?_
  rcases r with e | (v | _ | _ | _) <;> exact got
end
end Nc

/-! Own rules: own exceptions as values. -/
namespace Nc
open PySem PySem.Spec PyProof.Rows L2 LamX
/-- the keyword ar alone binds the second parameter -/
def KBind1 (K : PySem.W.Frag) (fd : FuncData) (ar : Str) : Prop := ∀ (s : Shared) (u v : Value), BindsTo s fd ⟨[u], [(ar, v)]⟩ [("self", u), (ar, v)]
/-- an exception of the class at C with its field -/
def ExV (H : Hp) (a C : Addr) (f : Str) (y : V) : Prop := ∃ d, H a = some (exo a C (some d)) ∧ H d = some (exd d [(f, y)])
section
variable {X : Cx}
theorem made_back {pins : List (Addr × Obj)} {σ : L2.St} {H : Hp} {s s2 : Shared} {a : Addr} {Q : VK} {v0 : Value} (I : Inv X pins σ H s) (got : CE X.stack X.prog X.w H s (fun v H' => v = .non ∧ Q (.ref a) H') v0 s2) : v0 = .none ∧ EP X pins σ Q (.ref a) s2 := by
  rcases I.after got with ⟨x, H', J, rx, rfl, q⟩
  exact ⟨rx, .ref a, H', J, rfl, q⟩
variable {x f ar : Str} {C fI : Addr} {k : Nat} {fd : FuncData} {p pos : Pos}
/-- C(ar = e) -/
theorem pe_mkKw {kws : List Keyword} {tk : TA} (T : PassC X.K C fI) (TF : FieldC X.K C) (ht : PySem.W.takerIn X.K C f = some none) (F1 : FnOk X.prog X.w X.K X.mg X.base CX0 k fI fd ["self", ar] (spField X.K f)) (hr : Room (k + 1) X.A) (hb : KBind1 X.K fd ar) (hg : Gl X x) (hm : X.mg x = some (.ref C))
    (hkw : PK X kws tk) (hall : (backToKw pos (keywordEach kws X.env)).all (·.1.isSome) = true := by rfl) (hks : (backToKw pos (keywordEach kws X.env)).filterMap (·.1) = [ar] := by rfl) (hdb : (x == ("__debug__" : Str)) = false := by decide)
    (hpl : ((backTo pos (starEach [] X.env)).any (·.1) || (backToKw pos (keywordEach kws X.env)).any (·.1.isNone)) = false := by rfl) :
    PE X (.Call (.Name x p) [] kws pos) (fun σ H Q => tk σ H fun zs H1 => ∃ y, zs = [y] ∧ ∀ a H2, Same H1 H2 → ExV H2 a C f y → Q (.ref a) H2) := ⟨fun pins s σ H Q I w => by
  rcases T.cls with ⟨nm, q, N, bs, bm, hd, sn, sub, ab, col, dd, k0, k1, k2, k3, k5, hC, hbm⟩
  refine wpAny_Call_Name_kw (ld_glob I hg hm (PySem.W.callWith_KW0 (h₀ := X.base) I.ok.mod.kin T.stays hall (thn (hkw.run pos pins s σ H _ I w) fun us s1 got => ?_) hpl) hdb)
  rcases got with ⟨zs, H1, I1, rz, y, rfl, wish⟩
  refine ⟨I1.kIn, ?_⟩
  rw [hks]
  match us, rz with
  | [u], .cons ry .nil =>
    show wpAny _ _ (call (.ref C) [] [(ar, u)]) _ _ _
    obtain ⟨h0, g, dr, tk, os⟩ := s1
    have below : h0.objs.size ≤ h0.objs.size + 1 := Nat.le_succ _
    have na : H1 (h0.objs.size + 1) = none := I1.hok.fresh below
    have old : ∀ b o, h0.get? b = some o → ((h0.push (PySem.W.kdv_tup [])).push (PySem.HandSPX.excO C h0.objs.size)).get? b = some o := fun b o e => Heap.get?_push_of_some _ (Heap.get?_push_of_some _ e)
    have atE : ((h0.push (PySem.W.kdv_tup [])).push (PySem.HandSPX.excO C h0.objs.size)).get? (h0.objs.size + 1) = some (PySem.HandSPX.excO C h0.objs.size) := by heap_get
    have I2 := I1.laid (t' := tk) (a := h0.objs.size + 1) (o := exo (h0.objs.size + 1) C none) old below (exo_ok atE)
    have hsp : spField X.K f [V.ref (h0.objs.size + 1), y] (upd H1 (h0.objs.size + 1) (exo (h0.objs.size + 1) C none)) (fun v H2 => v = .non ∧ Q (.ref (h0.objs.size + 1)) H2) (fun _ _ _ => False) :=
      ⟨_, C, y, rfl, TF, ht, upd_same, fun d n ne => ⟨rfl, wish _ _ (fun b o e => by
        have nb : b ≠ h0.objs.size + 1 := ne_of_none e na
        have nd : b ≠ d := ne_of_none e (by rw [upd_ne ne] at n; exact n)
        rw [upd_ne nd, upd_ne nb, upd_ne nb]
        exact e) ⟨d, by rw [upd_ne (Ne.symm ne), upd_same], upd_same⟩⟩⟩
    refine wpAny_call (own_kw F.excBase_ArithmeticError hbm (I1.kIn _ _ hC) (PySem.W.looks_findIn I1.kIn T.initF) (fun self => PySem.W.bind_fn I1.kIn self T.isDef)
      (codeAny_mono (F1.run _ X.stack _ _ ⟨[Value.ref (h0.objs.size + 1)], [(ar, u)]⟩ [Value.ref (h0.objs.size + 1), u] [V.ref (h0.objs.size + 1), y] _ (fun _ _ _ => False) (hr.make C [] [(ar, u)]) (I2.env0.make C [] [(ar, u)]) (hb _ _ _) (.cons rfl (.cons ry .nil)) hsp) fun r s2 got => ?_))
    match r, got with
    | .error err, got => exact False.elim got
    | .ok (.ret v0), got => exact made_back I2 got
    | .ok .next, got => exact False.elim got
    | .ok .brk, got => exact False.elim got
    | .ok .cont, got => exact False.elim got⟩
/-- C(e) -/
theorem pe_mk1 {e : Expr} {te : TE} (T : PassC X.K C fI) (TF : FieldC X.K C) (ht : PySem.W.takerIn X.K C f = some none) (F1 : FnOk X.prog X.w X.K X.mg X.base CX0 k fI fd ["self", ar] (spField X.K f)) (hr : Room (k + 1) X.A) (hb : Binds X.K fd ["self", ar] []) (hg : Gl X x) (hm : X.mg x = some (.ref C))
    (he : PE X e te) (hdb : (x == ("__debug__" : Str)) = false := by decide) (hst : starEach [e] X.env = (false, eval e X.env) :: starEach [] X.env := by rfl) (hpl : (backTo pos (starEach [] X.env)).any (·.1) = false := by rfl) :
    PE X (.Call (.Name x p) [e] [] pos) (fun σ H Q => te σ H fun y H1 => ∀ a H2, Same H1 H2 → ExV H2 a C f y → Q (.ref a) H2) := ⟨fun pins s σ H Q I w => by
  rcases T.cls with ⟨nm, q, N, bs, bm, hd, sn, sub, ab, col, dd, k0, k1, k2, k3, k5, hC, hbm⟩
  let post : List V → Hp → Prop := fun vs H1 => match vs with
    | [y] => ∀ a H2, Same H1 H2 → ExV H2 a C f y → Q (.ref a) H2
    | _ => False
  refine wpAny_Call_Name_kw (ld_glob I hg hm (PySem.W.callWith_K (h₀ := X.base) I.ok.mod.kin T.stays (thn ((pa_cons he pa_nil hst).run pos pins s σ H post I w) fun us s1 got => ?_) hst hpl) hdb)
  rcases got with ⟨zs, H1, I1, rz, wish⟩
  refine ⟨I1.kIn, ?_⟩
  match zs, us, rz, wish with
  | [y], [u], .cons ry .nil, wish =>
    have wish : ∀ a H2, Same H1 H2 → ExV H2 a C f y → Q (.ref a) H2 := wish
    show wpAny _ _ (call (.ref C) [u]) _ _ _
    obtain ⟨h0, g, dr, tk, os⟩ := s1
    have below : h0.objs.size ≤ h0.objs.size + 1 := Nat.le_succ _
    have na : H1 (h0.objs.size + 1) = none := I1.hok.fresh below
    have old : ∀ b o, h0.get? b = some o → ((h0.push (PySem.W.kdv_tup [u])).push (PySem.HandSPX.excO C h0.objs.size)).get? b = some o := fun b o e => Heap.get?_push_of_some _ (Heap.get?_push_of_some _ e)
    have atE : ((h0.push (PySem.W.kdv_tup [u])).push (PySem.HandSPX.excO C h0.objs.size)).get? (h0.objs.size + 1) = some (PySem.HandSPX.excO C h0.objs.size) := by heap_get
    have I2 := I1.laid (t' := tk) (a := h0.objs.size + 1) (o := exo (h0.objs.size + 1) C none) old below (exo_ok atE)
    have hsp : spField X.K f [V.ref (h0.objs.size + 1), y] (upd H1 (h0.objs.size + 1) (exo (h0.objs.size + 1) C none)) (fun v H2 => v = .non ∧ Q (.ref (h0.objs.size + 1)) H2) (fun _ _ _ => False) :=
      ⟨_, C, y, rfl, TF, ht, upd_same, fun d n ne => ⟨rfl, wish _ _ (fun b o e => by
        have nb : b ≠ h0.objs.size + 1 := ne_of_none e na
        have nd : b ≠ d := ne_of_none e (by rw [upd_ne ne] at n; exact n)
        rw [upd_ne nd, upd_ne nb, upd_ne nb]
        exact e) ⟨d, by rw [upd_ne (Ne.symm ne), upd_same], upd_same⟩⟩⟩
    have b := hb _ [Value.ref (h0.objs.size + 1), u] I2.kIn rfl
    refine wpAny_call (PySem.HandSPX.call_own F.excBase_ArithmeticError hbm (I1.kIn _ _ hC) (PySem.W.looks_findIn I1.kIn T.initF) (fun self => PySem.W.bind_fn I1.kIn self T.isDef) (by show 1 ≤ sizeLine; decide)
      (codeAny_mono (F1.run _ X.stack _ _ ⟨[Value.ref (h0.objs.size + 1), u], []⟩ [Value.ref (h0.objs.size + 1), u] [V.ref (h0.objs.size + 1), y] _ (fun _ _ _ => False) (hr.make C [u] []) (I2.env0.make C [u] []) b (.cons rfl (.cons ry .nil)) hsp) fun r s2 got => ?_))
    match r, got with
    | .error err, got => exact False.elim got
    | .ok (.ret v0), got => exact made_back I2 got
    | .ok .next, got => exact False.elim got
    | .ok .brk, got => exact False.elim got
    | .ok .cont, got => exact False.elim got⟩
/-- C(), its constructor passes -/
theorem pe_mk0 (T : PassC X.K C fI) (F1 : FnOk X.prog X.w X.K X.mg X.base CX0 k fI fd ["self"] spPass) (hr : Room (k + 1) X.A) (hb : Binds X.K fd ["self"] []) (hg : Gl X x) (hm : X.mg x = some (.ref C)) (hdb : (x == ("__debug__" : Str)) = false := by decide) :
    PE X (.Call (.Name x p) [] [] pos) (fun _ H Q => ∀ a H2, Same H H2 → H2 a = some (exo a C none) → Q (.ref a) H2) := ⟨fun pins s σ H Q I wish => by
  rcases T.cls with ⟨nm, q, N, bs, bm, hd, sn, sub, ab, col, dd, k0, k1, k2, k3, k5, hC, hbm⟩
  refine wpAny_Call_Name_kw (ld_glob I hg hm (PySem.W.callWith_K0 I.kIn T.stays ?_) hdb)
  show wpAny _ _ (call (.ref C) []) _ _ _
  have I1 := I
  obtain ⟨h0, g, dr, tk, os⟩ := s
  have below : h0.objs.size ≤ h0.objs.size + 1 := Nat.le_succ _
  have na : H (h0.objs.size + 1) = none := I1.hok.fresh below
  have old : ∀ b o, h0.get? b = some o → ((h0.push (PySem.W.kdv_tup [])).push (PySem.HandSPX.excO C h0.objs.size)).get? b = some o := fun b o e => Heap.get?_push_of_some _ (Heap.get?_push_of_some _ e)
  have atE : ((h0.push (PySem.W.kdv_tup [])).push (PySem.HandSPX.excO C h0.objs.size)).get? (h0.objs.size + 1) = some (PySem.HandSPX.excO C h0.objs.size) := by heap_get
  have I2 := I1.laid (t' := tk) (a := h0.objs.size + 1) (o := exo (h0.objs.size + 1) C none) old below (exo_ok atE)
  have b := hb _ [Value.ref (h0.objs.size + 1)] I2.kIn rfl
  have hsp : spPass [V.ref (h0.objs.size + 1)] (upd H (h0.objs.size + 1) (exo (h0.objs.size + 1) C none)) (fun v H2 => v = .non ∧ Q (.ref (h0.objs.size + 1)) H2) (fun _ _ _ => False) := ⟨_, rfl, rfl, wish _ _ (Same.upd na) upd_same⟩
  refine wpAny_call (PySem.HandSPX.call_own F.excBase_ArithmeticError hbm (I1.kIn _ _ hC) (PySem.W.looks_findIn I1.kIn T.initF) (fun self => PySem.W.bind_fn I1.kIn self T.isDef) (Nat.zero_le _)
    (codeAny_mono (F1.run _ X.stack _ _ ⟨[Value.ref (h0.objs.size + 1)], []⟩ [Value.ref (h0.objs.size + 1)] [V.ref (h0.objs.size + 1)] _ (fun _ _ _ => False) (hr.make C [] []) (I2.env0.make C [] []) b (.cons rfl .nil) hsp) fun r s2 got => ?_))
  match r, got with
  | .error err, got => exact False.elim got
  | .ok (.ret v0), got => exact made_back I2 got
  | .ok .next, got => exact False.elim got
  | .ok .brk, got => exact False.elim got
  | .ok .cont, got => exact False.elim got⟩
end
end Nc

/-! Own rules: isinstance of an exception held as a value, its fields. -/
namespace Nc
open PySem PySem.Spec PyProof.Rows L2 LamX
/-- at a: an exception of the class at C, with its own dict or without one -/
def ExcV (H : Hp) (a C : Addr) : Prop := (∃ d fs, H a = some (exo a C (some d)) ∧ H d = some (exd d fs)) ∨ H a = some (exo a C none)
theorem ExV.v {H : Hp} {a C : Addr} {f : Str} {y : V} (h : ExV H a C f y) : ExcV H a C := let ⟨d, e1, e2⟩ := h; .inl ⟨d, _, e1, e2⟩
theorem exo_ne {a C : Addr} {d : Option Addr} (ps : Array Value) : exo a C d ≠ .tbl ps := fun z => by
  unfold exo at z
  cases z
theorem exd_ne {d : Addr} {fs : List (Str × V)} (ps : Array Value) : exd d fs ≠ .tbl ps := fun z => by
  unfold exd at z
  cases z
theorem ExV.same {H H' : Hp} {a C : Addr} {f : Str} {y : V} (h : ExV H a C f y) (s : Same H H') : ExV H' a C f y := let ⟨d, e1, e2⟩ := h; ⟨d, s _ _ e1, s _ _ e2⟩
theorem ExcV.same {H H' : Hp} {a C : Addr} (h : ExcV H a C) (s : Same H H') : ExcV H' a C := by
  rcases h with ⟨d, fs, e1, e2⟩ | e
  · exact .inl ⟨d, fs, s _ _ e1, s _ _ e2⟩
  · exact .inr (s _ _ e)
theorem inst_of {P : Program} {w : World} {H : Hp} {h : Heap} {a C : Addr} (hok : HOk P w H h) (e : ExcV H a C) : ∃ oe od, PySem.W.InstAt h a oe C od := by
  rcases e with ⟨d, fs, e1, e2⟩ | e
  · have x : ObjOk P w H h a (exo a C (some d)) := hok a _ e1
    have z : ObjOk P w H h d (exd d fs) := hok d _ e2
    rcases x.1 with ⟨t, at_⟩
    rcases z.1 with ⟨mA, ns, _⟩
    rcases lookIn_ns ns with ⟨od, ho, _⟩
    exact ⟨_, some od, at_, rfl, rfl, ho⟩
  · have x : ObjOk P w H h a (exo a C none) := hok a _ e
    rcases x.1 with ⟨t, at_⟩
    exact ⟨_, none, at_, rfl, rfl, trivial⟩
/-- isinstance(e, c) -/
def rIsV (K : PySem.W.Frag) : List V → Hp → VK → Prop := fun xs H Q => ∃ (a C : Addr) (c : V) (cv : Value) (b : Bool), xs = [.ref a, c] ∧ ExcV H a C ∧ ExcC K C ∧ (∀ u, RelV c u → u = cv) ∧ PySem.W.kitOne K (.ref C) cv = some b ∧ Q (.bl b) H
theorem call_isV {X : Cx} : CallR X (.builtin "isinstance") (rIsV X.K) := fun pins s σ H xs us Q I r w => by
  rcases w with ⟨a, C, c, cv, b, rfl, ev, T, hcv, e, q⟩
  match us, r with
  | [u, v], .cons rx (.cons rc .nil) =>
    cases rx
    cases hcv _ rc
    rcases inst_of I.hok ev with ⟨oe, od, J⟩
    have some_ : (PySem.W.clsIn X.K C).isSome = true := by
      rcases PySem.W.any_some T.hd with ⟨cd, hc, _⟩
      rw [hc]
      rfl
    exact PySem.W.kia_one (PySem.W.kitx_exc some_ T.hg T.hk T.hs T.ha T.hn T.ht T.hm) I.kIn J e (fun z => nomatch z) fun tk => ⟨.bl b, H, I.kept (t' := tk) fun _ _ z => z, rfl, q⟩
/-- e.f -/
theorem pe_fieldV {X : Cx} {o : Expr} {f : Str} {pos : Pos} {to : TE} (ho : PE X o to) (hb : attributeBase o f X.env (eval o X.env) = eval o X.env := by rfl) :
    PE X (.Attribute o f pos) (fun σ H Q => to σ H fun x H1 => ∃ (a C : Addr) (y : V), x = .ref a ∧ ExV H1 a C f y ∧ XfC X.K C ∧ PySem.W.findIn X.K (.ref C) f = some none ∧ Q y H1) := ⟨fun pins s σ H Q I w => by
  refine attr_of hb (thn (ho.run pins s σ H _ I w) fun u s1 got => ?_)
  rcases got with ⟨x, H1, I1, rx, a, C, y, rfl, ⟨d, e1, e2⟩, T, hno, q⟩
  cases rx
  have x : ObjOk X.prog X.w H1 s1.heap a (exo a C (some d)) := I1.hok a _ e1
  have z : ObjOk X.prog X.w H1 s1.heap d (exd d [(f, y)]) := I1.hok d _ e2
  rcases x.1 with ⟨t, at_⟩
  rcases z.1 with ⟨mA, ns, rel⟩
  rcases lookIn_ns ns with ⟨od, hod, hl⟩
  rcases RelO.some_of (v := y) (o := mA f) (by have r := rel f; simpa using r) with ⟨u2, hu, ru⟩
  have J : PySem.W.InstAt s1.heap a _ C (some od) := ⟨at_, rfl, rfl, hod⟩
  exact HandSPX.exc_get I1.kIn J T.ga T.gg T.exC (PySem.W.findObj_own T.hdC hno rfl (by rw [hl, hu])) (handed_of ru) ⟨y, H1, I1.tok _, ru, q⟩⟩
end Nc

/-! Own rules: loops and comprehensions over enumerate of a list. -/
namespace Nc
open PySem PySem.Spec PyProof.Rows L2 LamX
theorem for_enumG {K : PySem.W.Frag} {a : Addr} {xs : List V} {g : TG} {tb : TS} {D : Ends} {σ : L2.St} {H : Hp} (Pv : Nat → L2.St → Hp → Prop) (start : Pv 0 σ H) (held : ∀ i σ H, i ≤ xs.length → Pv i σ H → SqL K H a xs)
    (turn : ∀ i x σ H, xs[i]? = some x → Pv i σ H → ∀ T H', Same H H' → H T = none → H' T = some (.tup [.int (i : Nat), x]) → g (.ref T) σ H' fun σ2 H2 => tb { D with nx := Pv (i + 1), ct := Pv (i + 1), bk := D.nx } σ2 H2) (done : ∀ σ H, Pv xs.length σ H → D.nx σ H) :
    ∃ W : Nat → Nat → L2.St → Hp → Prop, (∃ m, W 0 m σ H) ∧ ∀ i m σ H, W i m σ H → ((Ite K a).stop i H ∧ D.nx σ H) ∨ ((Ite K a).go i H ∧ ∃ N : L2.St → Hp → Prop, (∀ σ' H', N σ' H' → ∃ m', m' < m ∧ W (i + 1) m' σ' H') ∧ ∀ x H', (Ite K a).yld i H x H' → g x σ H' fun σ2 H2 => tb { D with nx := N, ct := N, bk := D.nx } σ2 H2) := by
  refine ⟨fun i m σ H => m = xs.length - i ∧ i ≤ xs.length ∧ Pv i σ H, ⟨_, rfl, Nat.zero_le _, start⟩, fun i m σ H w => ?_⟩
  obtain ⟨rfl, le, p⟩ := w
  have seq := held i σ H le p
  by_cases lt : i < xs.length
  · refine .inr ⟨⟨xs, xs[i], seq, List.getElem?_eq_getElem lt⟩, Pv (i + 1), fun σ' H' p' => ⟨_, by omega, rfl, lt, p'⟩, fun y H' yl => ?_⟩
    obtain ⟨T, x, rfl, free, rfl, at_⟩ := yl
    exact turn i x σ H (at_ xs seq) p T _ (Same.upd free) free upd_same
  · have e : i = xs.length := by omega
    subst e
    exact .inl ⟨⟨xs, seq, Nat.le_refl _⟩, done σ H p⟩
theorem lc_enumG {K : PySem.W.Frag} {a : Addr} {xs : List V} {g : TG} {tt : TT} {te : TE} {vs : List Nat} {σ : L2.St} {H1 : Hp} {D : Addr} {Qd : Hp → Prop} (Pv : Nat → Hp → Prop) (start : Pv 0 (upd H1 D (.lst []))) (held : ∀ i H, i ≤ xs.length → Pv i H → SqL K H a xs)
    (turn : ∀ i x H, xs[i]? = some x → Pv i H → ∀ T H', Same H H' → H T = none → H' T = some (.tup [.int (i : Nat), x]) → g (.ref T) (wipe σ vs) H' fun σ2 H2 => wipe σ2 vs = wipe σ vs ∧ tt σ2 H2 fun b H3 =>
      if b = true then te σ2 H3 fun y H4 => ∃ acc, H4 D = some (.lst acc) ∧ acc.length < sizeLine ∧ Pv (i + 1) (upd H4 D (.lst (acc ++ [y]))) else Pv (i + 1) H3) (done : ∀ H, Pv xs.length H → Qd H) :
    ∃ W : Nat → Nat → Hp → Prop, (∃ m, W 0 m (upd H1 D (.lst []))) ∧ ∀ i m H, W i m H → ((Ite K a).stop i H ∧ Qd H) ∨ ((Ite K a).go i H ∧ ∃ Nx : Hp → Prop, (∀ H', Nx H' → ∃ m', m' < m ∧ W (i + 1) m' H') ∧ ∀ x H', (Ite K a).yld i H x H' → g x (wipe σ vs) H' fun σ2 H2 => wipe σ2 vs = wipe σ vs ∧ tt σ2 H2 fun b H3 =>
        if b = true then te σ2 H3 fun y H4 => ∃ acc, H4 D = some (.lst acc) ∧ acc.length < sizeLine ∧ Nx (upd H4 D (.lst (acc ++ [y]))) else Nx H3) := by
  refine ⟨fun i m H => m = xs.length - i ∧ i ≤ xs.length ∧ Pv i H, ⟨_, rfl, Nat.zero_le _, start⟩, fun i m H w => ?_⟩
  obtain ⟨rfl, le, p⟩ := w
  have seq := held i H le p
  by_cases lt : i < xs.length
  · refine .inr ⟨⟨xs, xs[i], seq, List.getElem?_eq_getElem lt⟩, Pv (i + 1), fun H' p' => ⟨_, by omega, rfl, lt, p'⟩, fun y H' yl => ?_⟩
    obtain ⟨T, x, rfl, free, rfl, at_⟩ := yl
    exact turn i x H (at_ xs seq) p T _ (Same.upd free) free upd_same
  · have e : i = xs.length := by omega
    subst e
    exact .inl ⟨⟨xs, seq, Nat.le_refl _⟩, done H p⟩
end Nc
namespace NcK
open PySem PySem.Spec PyProof.Rows L2 Nc
def topS (i : Nat) : Stmt := PySem.Challenge.pw_nearcells_k04_what_signs_refuse.main.body.getD i (.Pass ⟨0, 0, 0, 0⟩)
/-! words of this text: bits, what stands in the heap, one step of a reading -/
local macro_rules | `(tactic| array_mem_dec) => `(tactic| first
  | (refine nbu (by assumption) (by decide); done)
  | (refine nbu (j := 21) (by omega) (by decide); done)
  | (refine nbm ?_ ?_ <;> array_mem_dec)
  | (refine nba (by decide) ?_ ?_ <;> array_mem_dec)
  | (refine nbs (by decide) ?_ ?_ <;> array_mem_dec)
  | (refine nbn ?_; array_mem_dec)
  | (refine nbu (j := 64) (by decide) (by decide); done))
local macro_rules | `(tactic| sizeOf_list_dec) => `(tactic| first
  | assumption
  | exact upd_same
  | (refine (by assumption : Same _ _) _ _ ?_; sizeOf_list_dec))
local macro_rules | `(tactic| array_get_dec) => `(tactic| first
  | refine ⟨_, rfl, ?_⟩
  | refine ⟨_, _, rfl, rfl, ?_⟩
  | refine ⟨_, _, _, _, rfl, rfl, SqT.of (by sizeOf_list_dec), by rfl, ?_⟩
  | refine ⟨_, _, _, _, rfl, rfl, SqL.of (by sizeOf_list_dec), by rfl, ?_⟩
  | refine ⟨_, _, rfl, SqT.of (by sizeOf_list_dec), by rfl, ?_⟩
  | refine ⟨_, _, _, _, _, rfl, .ty _, .base (.int _), kit_ty (r := true) (by decide +kernel), ?_⟩
  | refine ⟨_, _, _, _, _, rfl, .ty _, .base (.tup (by sizeOf_list_dec)), kit_ty (r := true) (by decide +kernel), ?_⟩
  | refine ⟨_, _, _, _, _, rfl, .ty _, .base (.lst (by sizeOf_list_dec)), kit_ty (r := true) (by decide +kernel), ?_⟩
  | refine ⟨_, _, rfl, .inr (SqT.of (by sizeOf_list_dec)), ?_⟩
  | refine ⟨_, _, rfl, .inl (SqL.of (by sizeOf_list_dec)), ?_⟩
  | refine w_itf (by omega) ?_
  | refine w_itt (by omega) ?_
  | refine w_ntt (by omega) ?_
  | refine w_ntf (by omega) ?_
  | refine ⟨_, _, rfl, ?_⟩
  | refine ⟨(by refine cmw ?_ ?_ <;> array_mem_dec : CMulW _ _), ?_⟩
  | refine ⟨⟨by decide, by decide, by decide⟩, ?_⟩
  | refine ⟨rfl, ?_⟩
  | refine ⟨_, _, _, rfl, ?_⟩)
abbrev sSrc : Stmt := topS 33
abbrev sNext : Stmt := topS 34
abbrev sOne : Stmt := topS 35
abbrev sCell : Stmt := topS 36
theorem scSrc : FnScope ["_law_number_here"] ["_law_number_here"] (defScope sSrc) := ⟨rfl, rfl, rfl, by decide +kernel, rfl, by decide +kernel, by decide +kernel⟩
theorem scNext : FnScope ["_law_source", "_law_many", "_law_found", "_law_prime", "_law_number"] ["_law_source", "_law_many"] (defScope sNext) := ⟨rfl, rfl, rfl, by decide +kernel, rfl, by decide +kernel, by decide +kernel⟩
theorem scOne : FnScope ["_law_source", "_law_some"] ["_law_source", "_law_some"] (defScope sOne) := ⟨rfl, rfl, rfl, by decide +kernel, rfl, by decide +kernel, by decide +kernel⟩
theorem scCell : FnScope ["_law_script", "_law_index"] ["_law_script", "_law_index"] (defScope sCell) := ⟨rfl, rfl, rfl, by decide +kernel, rfl, by decide +kernel, by decide +kernel⟩
section
variable {P : Program} {w : World} {K : PySem.W.Frag} {mg : Str → Option Value} {base : Heap}
/-! ### a source of a number -/
def spSrc : Sp := fun vs H Q _ => ∃ n : Int, vs = [.int n] ∧ ∀ p (a b c : Int), H p = none → Q (.ref p) (upd H p (.lst [.int a, .int b, .int c]))
theorem ok_src {f : Addr} {fd : FuncData} {k : Nat} (F : Fun K "_law_source_of" "_law_source_of" sSrc f fd) (mi : mg "int" = none) : FnOk P w K mg base CX0 (k + 1) f fd ["_law_number_here"] spSrc := by
  refine F.ok scSrc (fun vs H Q E h => ?_) (fun cdv A outer s H vs Q E hr h => ?_)
  · obtain ⟨n, rfl, _⟩ := h
    rfl
  · obtain ⟨n, rfl, q⟩ := h
    refine ⟨_, pss_cons (ps_set (i := 0) scSrc.nd rfl (.inl rfl) (pe_ifExp (pt_cmpR op_ge (pv 0) pe_int (nomark _)) (pv 0) (pe_op op_sub (pe_op op_sub pe_int (pe_op op_mul pe_int (pv 0))) pe_int)))
      (pss_one (ps_ret (pe_lst (pa_cons (pe_op op_mul (pv 0) (pe_callTy call_int1 (by rfl) mi (by decide +kernel) (pa_cons (pe_cmpR op_ge (pv 0) (pe_op op_pow pe_int pe_int) (nomark _)) pa_nil)))
        (pa_cons (pe_op op_mod (pe_callTy call_int1 (by rfl) mi (by decide +kernel) (pa_cons (pv 0) pa_nil)) pe_int) (pa_cons pe_int pa_nil)))))), ?_⟩
    refine ⟨_, rfl, _, _, rfl, rfl, _, rfl, ite2 (fun c => ?_) fun c => ?_⟩
    · refine ⟨_, rfl, _, rfl, _, rfl, _, _, rfl, rfl, ⟨by decide, by decide, by decide⟩, _, _, rfl, rfl, .inr ⟨_, rfl, _, _, rfl, rfl, .inr (b2i_small _), ?_⟩⟩
      exact ⟨_, rfl, .inl ⟨_, rfl, _, _, rfl, rfl, (by decide : (0 : Int) < 2147483647), by show 3 ≤ sizeLine; decide, fun p hp => q p _ _ _ hp⟩⟩
    · refine ⟨_, rfl, _, _, rfl, rfl, .inl ⟨by decide, by decide⟩, _, _, rfl, rfl, _, _, rfl, rfl, _, rfl, _, rfl, _, _, rfl, rfl, ⟨by decide, by decide, by decide⟩, _, _, rfl, rfl, .inr ⟨_, rfl, _, _, rfl, rfl, .inr (b2i_small _), ?_⟩⟩
      exact ⟨_, rfl, .inl ⟨_, rfl, _, _, rfl, rfl, (by decide : (0 : Int) < 2147483647), by show 3 ≤ sizeLine; decide, fun p hp => q p _ _ _ hp⟩⟩
end
section
variable {P : Program} {w : World} {K : PySem.W.Frag} {mg : Str → Option Value} {base : Heap}
/-! ### the next draw below many -/
def spNext : Sp := fun vs H Q _ => ∃ (s : Addr) (m : Int), vs = [.ref s, .int m] ∧ Src H s ∧ 0 < m ∧ m.natAbs < 2 ^ 8000 ∧ ∀ (r : Int) H', 0 ≤ r → r < m → Stp s H H' → Q (.int r) H'
theorem ok_next {f : Addr} {fd : FuncData} {k : Nat} (F : Fun K "_law_next" "_law_next" sNext f fd) (mi : mg "int" = none) : FnOk P w K mg base CX0 (k + 1) f fd ["_law_source", "_law_many"] spNext := by
  refine F.ok scNext (fun vs H Q E h => ?_) (fun cdv A outer s H vs Q E hr h => ?_)
  · obtain ⟨s, m, rfl, _⟩ := h
    rfl
  · obtain ⟨s, m, rfl, ⟨a, b, c, hs⟩, hm, hw, q⟩ := h
    have bi : bootBuiltins "int" = some (.type "int") := by decide +kernel
    refine ⟨_, pss_cons (ps_if (pt_cmpR op_gt (pe_ix ix_list (pv 0) pe_int (fun _ _ => rfl)) pe_int (nomark _))
        (pss_cons (ps_set (i := 2) scNext.nd rfl (.inl rfl) (pe_op op_mod (pe_callTy call_int1 (by rfl) mi bi (pa_cons (pe_ix ix_list (pv 0) pe_int (fun _ _ => rfl)) pa_nil)) (pv 1)))
          (pss_cons (ps_asg (pe_op op_fdivW (pe_ix ix_list (pv 0) pe_int (fun _ _ => rfl)) (pv 1)) (pg_sub (pv 0) pe_int set_list)) (pss_one (ps_ret (pv 2))))) pss_nil)
      (pss_cons (ps_asg (pe_op op_add (pe_ix ix_list (pv 0) pe_int (fun _ _ => rfl)) pe_int) (pg_sub (pv 0) pe_int set_list))
      (pss_cons (ps_set (i := 3) scNext.nd rfl (.inl rfl) pe_int)
      (pss_cons (ps_set (i := 4) scNext.nd rfl (.inl rfl) (pe_op op_mod (pe_callTy call_int1 (by rfl) mi bi (pa_cons (pe_op op_add (pe_op op_add (pe_ix ix_list (pv 0) pe_int (fun _ _ => rfl)) (pe_op op_mul pe_int (pe_ix ix_list (pv 0) pe_int (fun _ _ => rfl)))) pe_int) pa_nil)) (pv 3)))
      (pss_cons (ps_set (i := 4) scNext.nd rfl (.inl rfl) (pe_op op_mod (pe_callTy call_int1 (by rfl) mi bi (pa_cons (pe_op op_mul (pv 4) pe_int) pa_nil)) (pv 3)))
      (pss_cons (ps_set (i := 4) scNext.nd rfl (.inl rfl) (pe_op op_mod (pe_callTy call_int1 (by rfl) mi bi (pa_cons (pe_op op_mul (pv 4) (pe_op op_add (pe_op op_fdiv (pv 4) pe_int) pe_int)) pa_nil)) (pv 3)))
      (pss_cons (ps_set (i := 4) scNext.nd rfl (.inl rfl) (pe_op op_mod (pe_callTy call_int1 (by rfl) mi bi (pa_cons (pe_op op_mul (pv 4) (pe_op op_add (pe_op op_fdiv (pv 4) pe_int) pe_int)) pa_nil)) pe_int))
      (pss_one (ps_ret (pe_op op_mod (pe_callTy call_int1 (by rfl) mi bi (pa_cons (pe_op op_fdiv (pv 4) pe_int) pa_nil)) (pv 1)))))))))), ?_⟩
    have at0 : ∀ x y z : V, atI [x, y, z] 0 = some x := fun _ _ _ => rfl
    refine ⟨_, rfl, s, _, _, _, rfl, rfl, SqL.of hs, at0 _ _ _, _, _, rfl, rfl, _, rfl, ite2 (fun g => ?_) fun g => ?_⟩
    · refine ⟨_, rfl, s, _, _, _, rfl, rfl, SqL.of hs, at0 _ _ _, .inl ⟨_, rfl, _, rfl, _, _, rfl, rfl, hm, ?_⟩⟩
      refine ⟨_, rfl, s, _, _, _, rfl, rfl, SqL.of hs, at0 _ _ _, _, rfl, _, _, rfl, rfl, wide_div hm hw (by decide) (by decide), ?_⟩
      refine ⟨_, rfl, s, _, 0, 0, rfl, rfl, hs, rfl, ?_⟩
      exact ⟨_, rfl, q _ _ (Int.emod_nonneg _ (Int.ne_of_gt hm)) (Int.emod_lt_of_pos _ hm) ((Stp.refl ⟨a, b, c, hs⟩).turn _ _ _)⟩
    · refine ⟨_, rfl, s, _, _, _, rfl, rfl, SqL.of hs, rfl, _, _, rfl, rfl, ?_⟩
      refine ⟨_, rfl, s, _, 2, 2, rfl, rfl, hs, rfl, ?_⟩
      have h2 : (upd H s (.lst [.int a, .int b, .int (c + 1)])) s = some (.lst [.int a, .int b, .int (c + 1)]) := upd_same
      refine ⟨_, rfl, s, _, _, _, rfl, rfl, SqL.of h2, rfl, _, rfl, s, _, _, _, rfl, rfl, SqL.of h2, rfl, _, _, rfl, rfl, .inl ⟨by decide, by decide⟩, _, _, rfl, rfl, _, _, rfl, rfl, .inl ⟨_, rfl, ?_⟩⟩
      have hp : (0 : Int) < 2147483647 := by decide
      refine ⟨_, rfl, _, _, rfl, rfl, hp, ?_⟩
      refine ⟨_, rfl, _, _, rfl, rfl, .inr ⟨by decide, by decide⟩, .inl ⟨_, rfl, _, rfl, _, _, rfl, rfl, hp, ?_⟩⟩
      have b1 : 0 ≤ (b + 104729 * (c + 1) + 7919) % 2147483647 * 48271 % 2147483647 := Int.emod_nonneg _ (Int.ne_of_gt hp)
      have b2 : (b + 104729 * (c + 1) + 7919) % 2147483647 * 48271 % 2147483647 < 2147483647 := Int.emod_lt_of_pos _ hp
      generalize (b + 104729 * (c + 1) + 7919) % 2147483647 * 48271 % 2147483647 = n1 at b1 b2
      refine ⟨_, rfl, _, rfl, _, _, rfl, rfl, ⟨by decide, by decide⟩, _, _, rfl, rfl, _, _, rfl, rfl, .inl ⟨by omega, by omega⟩, .inl ⟨_, rfl, _, rfl, _, _, rfl, rfl, hp, ?_⟩⟩
      have c1 : 0 ≤ n1 * (n1 / 1009 + 69621) % 2147483647 := Int.emod_nonneg _ (Int.ne_of_gt hp)
      have c2 : n1 * (n1 / 1009 + 69621) % 2147483647 < 2147483647 := Int.emod_lt_of_pos _ hp
      generalize n1 * (n1 / 1009 + 69621) % 2147483647 = n2 at c1 c2
      refine ⟨_, rfl, _, rfl, _, _, rfl, rfl, ⟨by decide, by decide⟩, _, _, rfl, rfl, _, _, rfl, rfl, .inl ⟨by omega, by omega⟩, .inl ⟨_, rfl, _, _, rfl, rfl, (by decide : (0 : Int) < 2147483399), ?_⟩⟩
      refine ⟨_, rfl, _, _, rfl, rfl, ⟨by decide, by decide⟩, .inl ⟨_, rfl, _, rfl, _, _, rfl, rfl, hm, ?_⟩⟩
      exact q _ _ (Int.emod_nonneg _ (Int.ne_of_gt hm)) (Int.emod_lt_of_pos _ hm) ((Stp.refl ⟨a, b, c, hs⟩).turn _ _ _)
/-! ### one of some -/
/-- the source at s, some: a list of xs (another object than the source): one of xs -/
def spOne (K : PySem.W.Frag) : Sp := fun vs H Q _ => ∃ (s l : Addr) (xs : List V), vs = [.ref s, .ref l] ∧ Src H s ∧ H l = some (.lst xs) ∧ l ≠ s ∧ 0 < xs.length ∧ xs.length ≤ 1000 ∧ ∀ x H', x ∈ xs → Stp s H H' → Q x H'
theorem ok_one {f fN : Addr} {fd fdN : FuncData} {k : Nat} (F : Fun K "_law_one" "_law_one" sOne f fd) (GN : FnOk P w K mg base CX0 (k + 1) fN fdN ["_law_source", "_law_many"] spNext) (gN : mg "_law_next" = some (.ref fN)) (kN : PySem.W.keepIn K (.ref fN) = true) (bN : Binds K fdN ["_law_source", "_law_many"] [])
    (ml : mg "len" = none) : FnOk P w K mg base CX0 (k + 2) f fd ["_law_source", "_law_some"] (spOne K) := by
  refine F.ok scOne (fun vs H Q E h => ?_) (fun cdv A outer s H vs Q E hr h => ?_)
  · obtain ⟨s, l, xs, rfl, _⟩ := h
    rfl
  · obtain ⟨s, l, xs, rfl, hs, hl, hne, h0, h1, q⟩ := h
    refine ⟨_, pss_one (ps_ret (pe_ix ix_list (pv 1) (pe_call GN hr (by rfl) gN kN bN .nil pass0 (pa_cons (pv 0) (pa_cons (pe_callB call_len_seq (by rfl) ml (by decide +kernel) (pa_cons (pv 1) pa_nil)) pa_nil))) (fun _ _ => rfl))), ?_⟩
    refine ⟨_, rfl, _, rfl, _, rfl, l, xs, rfl, .inl (SqL.of hl), ?_⟩
    have small : ((xs.length : Nat) : Int).natAbs < 2 ^ 8000 := by
      rw [Int.natAbs_natCast]
      exact Nat.lt_of_le_of_lt h1 (Nat.lt_of_lt_of_le (by decide : 1000 < 2 ^ 10) (Nat.pow_le_pow_right (by decide) (by decide)))
    refine ⟨s, xs.length, rfl, hs, by omega, small, fun r H' r0 r1 st => ?_⟩
    have hl' := st.keep l _ hne hl
    have hr : r.toNat < xs.length := by omega
    have at1 : atI xs r = some xs[r.toNat] := by
      have z := atI_nat (List.getElem?_eq_getElem hr)
      rwa [Int.toNat_of_nonneg r0] at z
    exact ⟨l, xs, r, _, rfl, rfl, SqL.of hl', at1, q _ _ (List.getElem_mem hr) st⟩
/-! ### a cell of the script, 0 beyond its end -/
def spCell (K : PySem.W.Frag) : Sp := fun vs H Q _ => ∃ (a : Addr) (ns : List Int), vs = [.ref a, .int 0] ∧ SqL K H a (ns.map V.int) ∧ ns.length ≤ 1000 ∧ ∀ (n : Int) H', Same H H' → Q (.int n) H'
theorem ok_cell {f : Addr} {fd : FuncData} {k : Nat} (F : Fun K "_law_cell_at" "_law_cell_at" sCell f fd) : FnOk P w K mg base CX0 (k + 1) f fd ["_law_script", "_law_index"] (spCell K) := by
  refine F.ok scCell (fun vs H Q E h => ?_) (fun cdv A outer s H vs Q E hr h => ?_)
  · obtain ⟨a, ns, rfl, _⟩ := h
    rfl
  · obtain ⟨a, ns, rfl, hS, hlen, q⟩ := h
    refine ⟨_, pss_one (ps_ret (pe_ix ix_list (pe_op op_cat (pe_slice sl_list (pv 0) (po_some (pv 1)) (po_some (pe_op op_add (pv 1) pe_int))) (pe_lst (pa_cons pe_int pa_nil))) pe_int (fun _ _ => rfl))), ?_⟩
    refine ⟨_, rfl, _, rfl, _, rfl, _, rfl, _, _, rfl, rfl, _, rfl, a, ns.map V.int, rfl, hS, fun p np => ?_⟩
    refine ⟨by show 1 ≤ sizeLine; decide, fun p2 np2 => ?_⟩
    have e1 : (upd (upd H p (.lst (cutV (ns.map V.int) (some 0) (some (0 + 1))))) p2 (.lst [.int 0])) p = some (.lst (cutV (ns.map V.int) (some 0) (some (0 + 1)))) := by
      rw [upd_ne (ne_of_none upd_same np2)]
      exact upd_same
    have len : (cutV (ns.map V.int) (some 0) (some (0 + 1))).length ≤ ns.length := by
      have z := cutV_length (ns.map V.int) (some 0) (some (0 + 1))
      rwa [List.length_map] at z
    refine ⟨p, p2, _, _, rfl, rfl, e1, upd_same, ?_, fun p3 np3 => ?_⟩
    · refine Nat.le_trans (Nat.add_le_add_right (Nat.le_trans len hlen) _) (by decide)
    · obtain ⟨n, en⟩ : ∃ n : Int, (cutV (ns.map V.int) (some 0) (some (0 + 1)) ++ [V.int 0])[0]? = some (V.int n) := by
        unfold cutV
        rw [← List.map_drop, ← List.map_take]
        cases (List.take (HT.sIx (ns.map V.int).length (ns.map V.int).length (some (0 + 1)) - HT.sIx (ns.map V.int).length 0 (some 0)) (List.drop (HT.sIx (ns.map V.int).length 0 (some 0)) ns)) with
        | nil => exact ⟨0, rfl⟩
        | cons x r => exact ⟨x, rfl⟩
      refine ⟨p3, _, 0, .int n, rfl, rfl, SqL.of upd_same, atI_nat (j := 0) en, q n _ ?_⟩
      exact ((Same.upd np).trans (Same.upd np2)).trans (Same.upd np3)
end
/-! ### the program's own defs: what a site is -/
abbrev sIsSite : Stmt := topS 14
abbrev sToS : Stmt := topS 15
abbrev sCheck : Stmt := topS 17
theorem scIsSite : FnScope ["value", "x", "y"] ["value"] (defScope sIsSite) := ⟨rfl, rfl, rfl, by decide +kernel, rfl, by decide +kernel, by decide +kernel⟩
theorem scToS : FnScope ["a", "b", "c", "ax", "ay", "bx", "by", "cx", "cy"] ["a", "b", "c"] (defScope sToS) := ⟨rfl, rfl, rfl, by decide +kernel, rfl, by decide +kernel, by decide +kernel⟩
theorem scCheck : FnScope ["value", "name"] ["value", "name"] (defScope sCheck) := ⟨rfl, rfl, rfl, by decide +kernel, rfl, by decide +kernel, by decide +kernel⟩
section
variable {P : Program} {w : World} {K : PySem.W.Frag} {mg : Str → Option Value} {base : Heap}
/-- a number is neither True nor False -/
theorem op_isIB {X : Cx} : OpR X (compareOp .Is) (fun x y H Q => ∃ (n : Int) (b : Bool), x = .int n ∧ y = .bl b ∧ Q (.bl false) H) := by
  intro pins s σ H x y v u Q I rx ry h
  obtain ⟨n, b, rfl, rfl, q⟩ := h
  obtain ⟨t, rfl⟩ := rx
  cases (show u = Value.bool b from ry)
  exact wpAny_is_other rfl (fun z => by cases z) ⟨.bl false, H, I, rfl, q⟩
theorem itf {p A B : Prop} [Decidable p] (h : ¬ p) (b : B) : if decide p = true then A else B := by
  rw [decide_eq_false h]
  exact b
theorem itt {p A B : Prop} [Decidable p] (h : p) (a : A) : if decide p = true then A else B := by
  rw [decide_eq_true h]
  exact a
theorem kTT (K : PySem.W.Frag) : PySem.W.kitOne K (.type "tuple") (.type "tuple") = some true := kit_ty (by decide +kernel)
theorem kII (K : PySem.W.Frag) : PySem.W.kitOne K (.type "int") (.type "int") = some true := kit_ty (by decide +kernel)
/-- a site -/
def spIsSite : Sp := fun vs H Q _ => ∃ (t : Addr) (x y : Int), vs = [.ref t] ∧ Sit H t x y ∧ Bd 1000000 x y ∧ Q (.bl true) H
theorem ok_issite {f : Addr} {fd : FuncData} {k : Nat} (F : Fun K "is_site" "is_site" sIsSite f fd) (misinstance : mg "isinstance" = none) (mtuple : mg "tuple" = none) (mint : mg "int" = none) (mlen : mg "len" = none) : FnOk P w K mg base CX0 (k + 1) f fd ["value"] spIsSite := by
  refine F.ok scIsSite (fun vs H Q E h => ?_) (fun cdv A outer s H vs Q E hr h => ?_)
  · obtain ⟨t, x, y, rfl, _⟩ := h
    rfl
  · obtain ⟨t, x, y, rfl, h, d, q⟩ := h
    have nd := scIsSite.nd
    obtain ⟨d1, d2, d3, d4⟩ := d
    refine ⟨_, (pss_cons (ps_if (PW.pt (pw_or (pt_not (pt_val (pe_callB call_isi (by rfl) misinstance (by decide +kernel) (pa_cons (pv 0) (pa_cons (pe_bltn (v := .ty "tuple") (by rfl) mtuple (by decide +kernel) rfl) pa_nil))))) (pw_or1 (pt_cmpR op_ne (pe_callB call_len_seq (by rfl) mlen (by decide +kernel) (pa_cons (pv 0) pa_nil)) pe_int (nomark _))))) (pss_one (ps_ret pe_bl)) pss_nil) (pss_cons (ps_asg (pv 0) (pg_tup (by rfl) (pgs_cons (pg_name (i := 1) nd rfl (.inl rfl)) (pgs_cons (pg_name (i := 2) nd rfl (.inl rfl)) pgs_nil)))) (pss_cons (ps_if (PW.pt (pw_or (pt_not (pt_val (pe_callB call_isi (by rfl) misinstance (by decide +kernel) (pa_cons (pv 1) (pa_cons (pe_bltn (v := .ty "int") (by rfl) mint (by decide +kernel) rfl) pa_nil))))) (pw_or1 (pt_not (pt_val (pe_callB call_isi (by rfl) misinstance (by decide +kernel) (pa_cons (pv 2) (pa_cons (pe_bltn (v := .ty "int") (by rfl) mint (by decide +kernel) rfl) pa_nil)))))))) (pss_one (ps_ret pe_bl)) pss_nil) (pss_cons (ps_if (PW.pt (pw_or (pt_cmpR op_isIB (pv 1) pe_bl (nomark _)) (pw_or (pt_cmpR op_isIB (pv 1) pe_bl (nomark _)) (pw_or (pt_cmpR op_isIB (pv 2) pe_bl (nomark _)) (pw_or1 (pt_cmpR op_isIB (pv 2) pe_bl (nomark _))))))) (pss_one (ps_ret pe_bl)) pss_nil) (pss_cons (ps_if (PW.pt (pw_or (pt_cmpR op_gt (pv 1) pe_int (nomark _)) (pw_or (pt_cmpR op_lt (pv 1) pe_neg (nomark _)) (pw_or (pt_cmpR op_gt (pv 2) pe_int (nomark _)) (pw_or1 (pt_cmpR op_lt (pv 2) pe_neg (nomark _))))))) (pss_one (ps_ret pe_bl)) pss_nil) (pss_one (ps_ret pe_bl))))))), ?_⟩
    exact ⟨_, rfl, _, _, _, _, _, rfl, .ty "tuple", .base (.tup h), kTT K, _, rfl, _, rfl, _, _, rfl, .inr (SqT.of h), rfl, _, rfl, _, rfl, _, _, rfl, SqT.of h, rfl, _, _, rfl, _, _, rfl, rfl, _, rfl, _, _, _, _, _, rfl, .ty "int", .base (.int _), kII K, _, rfl, _, rfl, _, _, _, _, _, rfl, .ty "int", .base (.int _), kII K, _, rfl, _, rfl, _, _, rfl, rfl, _, rfl, _, rfl, _, _, rfl, rfl, _, rfl, _, rfl, _, _, rfl, rfl, _, rfl, _, rfl, _, _, rfl, rfl, _, rfl, _, rfl, _, _, rfl, rfl, _, rfl, itf (by omega) ⟨_, rfl, _, _, rfl, rfl, _, rfl, itf (by omega) ⟨_, rfl, _, _, rfl, rfl, _, rfl, itf (by omega) ⟨_, rfl, _, _, rfl, rfl, _, rfl, itf (by omega) q⟩⟩⟩⟩
def spCheck : Sp := fun vs H Q _ => ∃ (t : Addr) (x y : Int) (z : Str), vs = [.ref t, .str z] ∧ Sit H t x y ∧ Bd 1000000 x y ∧ Q .non H
theorem ok_check {f fS : Addr} {fd fdS : FuncData} {k : Nat} (F : Fun K "check_site" "check_site" sCheck f fd)
    (GS : FnOk P w K mg base CX0 (k + 1) fS fdS ["value"] spIsSite) (gS : mg "is_site" = some (.ref fS)) (kS : PySem.W.keepIn K (.ref fS) = true) (bS : Binds K fdS ["value"] []) : FnOk P w K mg base CX0 (k + 2) f fd ["value", "name"] spCheck := by
  refine F.ok scCheck (fun vs H Q E h => ?_) (fun cdv A outer s H vs Q E hr h => ?_)
  · obtain ⟨t, x, y, z, rfl, _⟩ := h
    rfl
  · obtain ⟨t, x, y, z, rfl, hx, d, q⟩ := h
    exact ⟨_, pss_one (ps_if (pt_not (pt_val (pe_call GS hr (by rfl) gS kS bS .nil pass0 (pa_cons (pv 0) pa_nil)))) (pss_one ps_never) pss_nil), _, rfl, t, x, y, rfl, hx, d, _, rfl, q⟩
/-- the double area -/
def tri (ax ay bx by' cx cy : Int) : Int := (bx - ax) * (cy - ay) - (by' - ay) * (cx - ax)
/-- three sites, and what is told of their numbers -/
def sp3 (K : PySem.W.Frag) (v : Int → Int → Int → Int → Int → Int → V) : Sp := fun vs H Q _ => ∃ (a b c : Addr) (ax ay bx by' cx cy : Int), vs = [.ref a, .ref b, .ref c] ∧ Sit H a ax ay ∧ Sit H b bx by' ∧ Sit H c cx cy ∧
  Bd 1000000 ax ay ∧ Bd 1000000 bx by' ∧ Bd 1000000 cx cy ∧ Q (v ax ay bx by' cx cy) H
theorem tri_m1 {ax ay bx cy : Int} (a : -1000000 ≤ ax ∧ ax ≤ 1000000) (b : -1000000 ≤ bx ∧ bx ≤ 1000000) : CMul (bx - ax) (cy - ay) := .inl ⟨by omega, by omega⟩
theorem ok_tos {f : Addr} {fd : FuncData} {k : Nat} (F : Fun K "turn_of_sites" "turn_of_sites" sToS f fd) (misinstance : mg "isinstance" = none) (mtuple : mg "tuple" = none) (mint : mg "int" = none) (mlen : mg "len" = none) : FnOk P w K mg base CX0 (k + 1) f fd ["a", "b", "c"] (sp3 K fun ax ay bx by' cx cy => .int (tri ax ay bx by' cx cy)) := by
  refine F.ok scToS (fun vs H Q E h => ?_) (fun cdv A outer s H vs Q E hr h => ?_)
  · obtain ⟨a, b, c, ax, ay, bx, by', cx, cy, rfl, _⟩ := h
    rfl
  · obtain ⟨a, b, c, ax, ay, bx, by', cx, cy, rfl, ha, hb, hc, da, db, dc, q⟩ := h
    have m1 : CMul (bx - ax) (cy - ay) := tri_m1 ⟨da.1, da.2.1⟩ ⟨db.1, db.2.1⟩
    have m2 : CMul (by' - ay) (cx - ax) := tri_m1 da.2.2 db.2.2
    have nd := scToS.nd
    obtain ⟨a1, a2, a3, a4⟩ := da
    obtain ⟨b1, b2, b3, b4⟩ := db
    obtain ⟨c1, c2, c3, c4⟩ := dc
    refine ⟨_, (pss_cons (ps_if (PW.pt (pw_or (pt_not (pt_val (pe_callB call_isi (by rfl) misinstance (by decide +kernel) (pa_cons (pv 0) (pa_cons (pe_bltn (v := .ty "tuple") (by rfl) mtuple (by decide +kernel) rfl) pa_nil))))) (pw_or (pt_not (pt_val (pe_callB call_isi (by rfl) misinstance (by decide +kernel) (pa_cons (pv 1) (pa_cons (pe_bltn (v := .ty "tuple") (by rfl) mtuple (by decide +kernel) rfl) pa_nil))))) (pw_or1 (pt_not (pt_val (pe_callB call_isi (by rfl) misinstance (by decide +kernel) (pa_cons (pv 2) (pa_cons (pe_bltn (v := .ty "tuple") (by rfl) mtuple (by decide +kernel) rfl) pa_nil))))))))) (pss_one (ps_ret pe_non)) pss_nil) (pss_cons (ps_if (PW.pt (pw_or (pt_cmpR op_ne (pe_callB call_len_seq (by rfl) mlen (by decide +kernel) (pa_cons (pv 0) pa_nil)) pe_int (nomark _)) (pw_or (pt_cmpR op_ne (pe_callB call_len_seq (by rfl) mlen (by decide +kernel) (pa_cons (pv 1) pa_nil)) pe_int (nomark _)) (pw_or1 (pt_cmpR op_ne (pe_callB call_len_seq (by rfl) mlen (by decide +kernel) (pa_cons (pv 2) pa_nil)) pe_int (nomark _)))))) (pss_one (ps_ret pe_non)) pss_nil) (pss_cons (ps_asg (pv 0) (pg_tup (by rfl) (pgs_cons (pg_name (i := 3) nd rfl (.inl rfl)) (pgs_cons (pg_name (i := 4) nd rfl (.inl rfl)) pgs_nil)))) (pss_cons (ps_asg (pv 1) (pg_tup (by rfl) (pgs_cons (pg_name (i := 5) nd rfl (.inl rfl)) (pgs_cons (pg_name (i := 6) nd rfl (.inl rfl)) pgs_nil)))) (pss_cons (ps_asg (pv 2) (pg_tup (by rfl) (pgs_cons (pg_name (i := 7) nd rfl (.inl rfl)) (pgs_cons (pg_name (i := 8) nd rfl (.inl rfl)) pgs_nil)))) (pss_cons (ps_if (PW.pt (pw_or (pt_not (pt_val (pe_callB call_isi (by rfl) misinstance (by decide +kernel) (pa_cons (pv 3) (pa_cons (pe_bltn (v := .ty "int") (by rfl) mint (by decide +kernel) rfl) pa_nil))))) (pw_or (pt_not (pt_val (pe_callB call_isi (by rfl) misinstance (by decide +kernel) (pa_cons (pv 5) (pa_cons (pe_bltn (v := .ty "int") (by rfl) mint (by decide +kernel) rfl) pa_nil))))) (pw_or1 (pt_not (pt_val (pe_callB call_isi (by rfl) misinstance (by decide +kernel) (pa_cons (pv 7) (pa_cons (pe_bltn (v := .ty "int") (by rfl) mint (by decide +kernel) rfl) pa_nil))))))))) (pss_one (ps_ret pe_non)) pss_nil) (pss_cons (ps_if (PW.pt (pw_or (pt_not (pt_val (pe_callB call_isi (by rfl) misinstance (by decide +kernel) (pa_cons (pv 4) (pa_cons (pe_bltn (v := .ty "int") (by rfl) mint (by decide +kernel) rfl) pa_nil))))) (pw_or (pt_not (pt_val (pe_callB call_isi (by rfl) misinstance (by decide +kernel) (pa_cons (pv 6) (pa_cons (pe_bltn (v := .ty "int") (by rfl) mint (by decide +kernel) rfl) pa_nil))))) (pw_or1 (pt_not (pt_val (pe_callB call_isi (by rfl) misinstance (by decide +kernel) (pa_cons (pv 8) (pa_cons (pe_bltn (v := .ty "int") (by rfl) mint (by decide +kernel) rfl) pa_nil))))))))) (pss_one (ps_ret pe_non)) pss_nil) (pss_cons (ps_if (PW.pt (pw_or (pt_cmpR op_isIB (pv 3) pe_bl (nomark _)) (pw_or (pt_cmpR op_isIB (pv 3) pe_bl (nomark _)) (pw_or (pt_cmpR op_isIB (pv 5) pe_bl (nomark _)) (pw_or (pt_cmpR op_isIB (pv 5) pe_bl (nomark _)) (pw_or (pt_cmpR op_isIB (pv 7) pe_bl (nomark _)) (pw_or1 (pt_cmpR op_isIB (pv 7) pe_bl (nomark _))))))))) (pss_one (ps_ret pe_non)) pss_nil) (pss_cons (ps_if (PW.pt (pw_or (pt_cmpR op_isIB (pv 4) pe_bl (nomark _)) (pw_or (pt_cmpR op_isIB (pv 4) pe_bl (nomark _)) (pw_or (pt_cmpR op_isIB (pv 6) pe_bl (nomark _)) (pw_or (pt_cmpR op_isIB (pv 6) pe_bl (nomark _)) (pw_or (pt_cmpR op_isIB (pv 8) pe_bl (nomark _)) (pw_or1 (pt_cmpR op_isIB (pv 8) pe_bl (nomark _))))))))) (pss_one (ps_ret pe_non)) pss_nil) (pss_cons (ps_if (PW.pt (pw_or (pt_cmpR op_gt (pv 3) pe_int (nomark _)) (pw_or (pt_cmpR op_lt (pv 3) pe_neg (nomark _)) (pw_or (pt_cmpR op_gt (pv 5) pe_int (nomark _)) (pw_or1 (pt_cmpR op_lt (pv 5) pe_neg (nomark _))))))) (pss_one (ps_ret pe_non)) pss_nil) (pss_cons (ps_if (PW.pt (pw_or (pt_cmpR op_gt (pv 4) pe_int (nomark _)) (pw_or (pt_cmpR op_lt (pv 4) pe_neg (nomark _)) (pw_or (pt_cmpR op_gt (pv 6) pe_int (nomark _)) (pw_or1 (pt_cmpR op_lt (pv 6) pe_neg (nomark _))))))) (pss_one (ps_ret pe_non)) pss_nil) (pss_cons (ps_if (PW.pt (pw_or (pt_cmpR op_gt (pv 7) pe_int (nomark _)) (pw_or (pt_cmpR op_lt (pv 7) pe_neg (nomark _)) (pw_or (pt_cmpR op_gt (pv 8) pe_int (nomark _)) (pw_or1 (pt_cmpR op_lt (pv 8) pe_neg (nomark _))))))) (pss_one (ps_ret pe_non)) pss_nil) (pss_one (ps_ret (pe_op op_sub (pe_op op_mul (pe_op op_sub (pv 5) (pv 3)) (pe_op op_sub (pv 8) (pv 4))) (pe_op op_mul (pe_op op_sub (pv 6) (pv 4)) (pe_op op_sub (pv 7) (pv 3)))))))))))))))))), ?_⟩
    exact ⟨_, rfl, _, _, _, _, _, rfl, .ty "tuple", .base (.tup ha), kTT K, _, rfl, _, rfl, _, _, _, _, _, rfl, .ty "tuple", .base (.tup hb), kTT K, _, rfl, _, rfl, _, _, _, _, _, rfl, .ty "tuple", .base (.tup hc), kTT K, _, rfl, _, rfl, _, _, rfl, .inr (SqT.of ha), rfl, _, rfl, _, rfl, _, _, rfl, .inr (SqT.of hb), rfl, _, rfl, _, rfl, _, _, rfl, .inr (SqT.of hc), rfl, _, rfl, _, rfl, _, _, rfl, SqT.of ha, rfl, _, _, rfl, _, _, rfl, rfl, _, rfl, _, _, rfl, SqT.of hb, rfl, _, _, rfl, _, _, rfl, rfl, _, rfl, _, _, rfl, SqT.of hc, rfl, _, _, rfl, _, _, rfl, rfl, _, rfl, _, _, _, _, _, rfl, .ty "int", .base (.int _), kII K, _, rfl, _, rfl, _, _, _, _, _, rfl, .ty "int", .base (.int _), kII K, _, rfl, _, rfl, _, _, _, _, _, rfl, .ty "int", .base (.int _), kII K, _, rfl, _, rfl, _, _, _, _, _, rfl, .ty "int", .base (.int _), kII K, _, rfl, _, rfl, _, _, _, _, _, rfl, .ty "int", .base (.int _), kII K, _, rfl, _, rfl, _, _, _, _, _, rfl, .ty "int", .base (.int _), kII K, _, rfl, _, rfl, _, _, rfl, rfl, _, rfl, _, rfl, _, _, rfl, rfl, _, rfl, _, rfl, _, _, rfl, rfl, _, rfl, _, rfl, _, _, rfl, rfl, _, rfl, _, rfl, _, _, rfl, rfl, _, rfl, _, rfl, _, _, rfl, rfl, _, rfl, _, rfl, _, _, rfl, rfl, _, rfl, _, rfl, _, _, rfl, rfl, _, rfl, _, rfl, _, _, rfl, rfl, _, rfl, _, rfl, _, _, rfl, rfl, _, rfl, _, rfl, _, _, rfl, rfl, _, rfl, _, rfl, _, _, rfl, rfl, _, rfl, _, rfl, _, _, rfl, rfl, _, rfl, itf (by omega) ⟨_, rfl, _, _, rfl, rfl, _, rfl, itf (by omega) ⟨_, rfl, _, _, rfl, rfl, _, rfl, itf (by omega) ⟨_, rfl, _, _, rfl, rfl, _, rfl, itf (by omega) ⟨_, rfl, _, _, rfl, rfl, _, rfl, itf (by omega) ⟨_, rfl, _, _, rfl, rfl, _, rfl, itf (by omega) ⟨_, rfl, _, _, rfl, rfl, _, rfl, itf (by omega) ⟨_, rfl, _, _, rfl, rfl, _, rfl, itf (by omega) ⟨_, rfl, _, _, rfl, rfl, _, rfl, itf (by omega) ⟨_, rfl, _, _, rfl, rfl, _, rfl, itf (by omega) ⟨_, rfl, _, _, rfl, rfl, _, rfl, itf (by omega) ⟨_, rfl, _, _, rfl, rfl, _, rfl, itf (by omega) ⟨_, rfl, _, rfl, _, _, rfl, rfl, _, rfl, _, rfl, _, _, rfl, rfl, _, _, rfl, rfl, m1, _, rfl, _, rfl, _, _, rfl, rfl, _, rfl, _, rfl, _, _, rfl, rfl, _, _, rfl, rfl, m2, _, _, rfl, rfl, q⟩⟩⟩⟩⟩⟩⟩⟩⟩⟩⟩⟩⟩
end
/-! ### signs, sites that are alike -/
section
variable {P : Program} {w : World} {K : PySem.W.Frag} {mg : Str → Option Value} {base : Heap}
def sg (n : Int) : Int := if n = 0 then 0 else if 0 < n then 1 else -1
theorem dpSit {H : Hp} {t : Addr} {x y : Int} (h : Sit H t x y) : Dp K H (.ref t) (.tuple [.int x, .int y]) := .tup (SqT.of h) (.cons (.int x) (.cons (.int y) .nil))
theorem eqv_sit (x y u v : Int) : PyData.eqv (.tuple [.int x, .int y]) (.tuple [.int u, .int v]) = decide (x = u ∧ y = v) := by
  simp [PyData.eqv, PyData.eqvAll, Bool.decide_and, Bool.beq_eq_decide_eq]
theorem at0_ (u v : V) : atI [u, v] 0 = some u := rfl
theorem at1_ (u v : V) : atI [u, v] 1 = some v := rfl
end
abbrev sSign : Stmt := topS 11
theorem scSign : FnScope ["number"] ["number"] (defScope sSign) := ⟨rfl, rfl, rfl, by decide +kernel, rfl, by decide +kernel, by decide +kernel⟩
section
variable {P : Program} {w : World} {K : PySem.W.Frag} {mg : Str → Option Value} {base : Heap}
def spSign : Sp := fun vs H Q _ => ∃ n : Int, vs = [.int n] ∧ Q (.int (sg n)) H
theorem ok_sign {f : Addr} {fd : FuncData} {k : Nat} (F : Fun K "sign" "sign" sSign f fd) : FnOk P w K mg base CX0 (k + 1) f fd ["number"] spSign := by
  refine F.ok scSign (fun vs H Q E h => ?_) (fun cdv A outer s H vs Q E hr h => ?_)
  · obtain ⟨n, rfl, _⟩ := h
    rfl
  · obtain ⟨n, rfl, q⟩ := h
    refine ⟨_, pss_cons (ps_if (pt_cmpR op_eq (pv 0) pe_int (nomark _)) (pss_one (ps_ret pe_int)) pss_nil)
      (pss_one (ps_ret (pe_ifExp (pt_cmpR op_gt (pv 0) pe_int (nomark _)) pe_int pe_neg))), ?_⟩
    unfold sg at q
    refine ⟨_, rfl, rfl, _, rfl, ite2 (fun c => ?_) fun c => ⟨_, rfl, _, _, rfl, rfl, _, rfl, ite2 (fun d => ?_) fun d => ?_⟩⟩
    · rw [if_pos (V.int.inj (of_decide_eq_true c))] at q
      exact q
    · rw [if_neg (fun z => c (by rw [z]; exact decide_eq_true rfl)), if_pos (of_decide_eq_true d)] at q
      exact q
    · rw [if_neg (fun z => c (by rw [z]; exact decide_eq_true rfl)), if_neg (fun z => d (decide_eq_true z))] at q
      exact q
end
abbrev sSide : Stmt := topS 24
abbrev sBtw : Stmt := topS 25
theorem scSide : FnScope ["a", "b", "c", "area"] ["a", "b", "c"] (defScope sSide) := ⟨rfl, rfl, rfl, by decide +kernel, rfl, by decide +kernel, by decide +kernel⟩
theorem scBtw : FnScope ["a", "b", "c", "area"] ["a", "b", "c"] (defScope sBtw) := ⟨rfl, rfl, rfl, by decide +kernel, rfl, by decide +kernel, by decide +kernel⟩
section
variable {P : Program} {w : World} {K : PySem.W.Frag} {mg : Str → Option Value} {base : Heap}
def spSide (K : PySem.W.Frag) : Sp := fun vs H Q _ => ∃ (a b c : Addr) (ax ay bx by' cx cy : Int), vs = [.ref a, .ref b, .ref c] ∧ Sit H a ax ay ∧ Sit H b bx by' ∧ Sit H c cx cy ∧
  Bd 1000000 ax ay ∧ Bd 1000000 bx by' ∧ Bd 1000000 cx cy ∧ ¬ (ax = bx ∧ ay = by') ∧ Q (.int (sg (tri ax ay bx by' cx cy))) H
/-- u <= v of pairs, as the model goes -/
def leP (ux uy vx vy : Int) : Bool := if ux = vx then (if uy = vy then true else decide (uy ≤ vy)) else decide (ux ≤ vx)
theorem leP_is (ux uy vx vy : Int) : Ob.lexAt (fun j => decide ([ux, uy].getD j 0 = [vx, vy].getD j 0)) (fun j => decide ([ux, uy].getD j 0 ≤ [vx, vy].getD j 0)) (decide ([ux, uy].length ≤ [vx, vy].length)) 0 (min [ux, uy].length [vx, vy].length) = leP ux uy vx vy := by
  simp [Ob.lexAt, leP]
/-- c on the stretch from a to b, as the program asks -/
def ons (ax ay bx by' cx cy : Int) : Bool := decide (tri ax ay bx by' cx cy = 0) && ((leP ax ay cx cy && leP cx cy bx by') || (leP bx by' cx cy && leP cx cy ax ay))
theorem ok_side {f fT : Addr} {fd fdT : FuncData} {k : Nat} (F : Fun K "side" "side" sSide f fd)
    (GT : FnOk P w K mg base CX0 (k + 1) fT fdT ["a", "b", "c"] (sp3 K fun ax ay bx by' cx cy => .int (tri ax ay bx by' cx cy))) (gT : mg "turn_of_sites" = some (.ref fT)) (kT : PySem.W.keepIn K (.ref fT) = true) (bT : Binds K fdT ["a", "b", "c"] []) : FnOk P w K mg base CX0 (k + 2) f fd ["a", "b", "c"] (spSide K) := by
  refine F.ok scSide (fun vs H Q E h => ?_) (fun cdv A outer s H vs Q E hr h => ?_)
  · obtain ⟨a, b, c, ax, ay, bx, by', cx, cy, rfl, _⟩ := h
    rfl
  · obtain ⟨a, b, c, ax, ay, bx, by', cx, cy, rfl, ha, hb, hc, da, db, dc, ne, q⟩ := h
    have nd := scSide.nd
    refine ⟨_, pss_cons (ps_set (i := 3) nd rfl (.inl rfl) (pe_call GT hr (by rfl) gT kT bT .nil pass0 (pa_cons (pv 0) (pa_cons (pv 1) (pa_cons (pv 2) pa_nil))))) (pss_cons (ps_if (pt_cmpR op_isN (pv 3) pe_non (nomark _)) pss_never (pss_one (ps_if (pt_cmpR op_gt (pv 3) pe_int (nomark _)) (pss_one (ps_ret pe_int)) (pss_one (ps_if (pt_cmpR op_lt (pv 3) pe_int (nomark _)) (pss_one (ps_ret pe_neg)) pss_nil)))))
      (pss_cons (ps_if (pt_cmpR (op_eqD hr.units) (pv 0) (pv 1) (nomark _)) (pss_one ps_never) pss_nil) (pss_one (ps_ret pe_int)))), ?_⟩
    refine ⟨_, rfl, _, rfl, _, rfl, a, b, c, ax, ay, bx, by', cx, cy, rfl, ha, hb, hc, da, db, dc, _, rfl, rfl, _, rfl, ?_⟩
    show _
    unfold sg at q
    refine ⟨_, rfl, _, _, rfl, rfl, _, rfl, ite2 (fun c => ?_) fun c => ?_⟩
    · have c := of_decide_eq_true c
      rw [if_neg (by omega), if_pos c] at q
      exact q
    · have c : ¬ 0 < tri ax ay bx by' cx cy := fun z => c (decide_eq_true z)
      refine ⟨_, rfl, _, _, rfl, rfl, _, rfl, ite2 (fun d => ?_) fun d => ?_⟩
      · have d := of_decide_eq_true d
        rw [if_neg (by omega), if_neg c] at q
        exact q
      · have d : ¬ tri ax ay bx by' cx cy < 0 := fun z => d (decide_eq_true z)
        rw [if_pos (by omega)] at q
        refine ⟨_, rfl, _, rfl, _, _, dpSit ha, dpSit hb, rfl, rfl, _, rfl, ?_⟩
        rw [eqv_sit, decide_eq_false (fun z => ne z)]
        exact q
theorem le_read {H : Hp} {u v : Addr} {ux uy vx vy : Int} {Q : VK} (hu : Sit H u ux uy) (hv : Sit H v vx vy) (q : Q (.bl (leP ux uy vx vy)) H) : rLeT K (.ref u) (.ref v) H Q := by
  refine ⟨u, v, [ux, uy], [vx, vy], rfl, rfl, SqT.of hu, SqT.of hv, ?_⟩
  rw [leP_is]
  exact q
theorem ok_btw {f fT : Addr} {fd fdT : FuncData} {k : Nat} (F : Fun K "is_between" "is_between" sBtw f fd)
    (GT : FnOk P w K mg base CX0 (k + 1) fT fdT ["a", "b", "c"] (sp3 K fun ax ay bx by' cx cy => .int (tri ax ay bx by' cx cy))) (gT : mg "turn_of_sites" = some (.ref fT)) (kT : PySem.W.keepIn K (.ref fT) = true) (bT : Binds K fdT ["a", "b", "c"] []) : FnOk P w K mg base CX0 (k + 2) f fd ["a", "b", "c"] (sp3 K fun ax ay bx by' cx cy => .bl (ons ax ay bx by' cx cy)) := by
  refine F.ok scBtw (fun vs H Q E h => ?_) (fun cdv A outer s H vs Q E hr h => ?_)
  · obtain ⟨a, b, c, ax, ay, bx, by', cx, cy, rfl, _⟩ := h
    rfl
  · obtain ⟨a, b, c, ax, ay, bx, by', cx, cy, rfl, ha, hb, hc, da, db, dc, q⟩ := h
    have nd := scBtw.nd
    refine ⟨_, pss_cons (ps_set (i := 3) nd rfl (.inl rfl) (pe_call GT hr (by rfl) gT kT bT .nil pass0 (pa_cons (pv 0) (pa_cons (pv 1) (pa_cons (pv 2) pa_nil))))) (pss_cons (ps_if (pt_cmpR op_isN (pv 3) pe_non (nomark _)) pss_never pss_nil)
      (pss_cons (ps_if (pt_cmpR op_ne (pv 3) pe_int (nomark _)) (pss_one (ps_ret pe_bl)) pss_nil) (pss_one (ps_ret (pe_or (pe_chain (op_leT hr.units0) (op_leT hr.units0) (pv 0) (pv 2) (pv 1)) (pe_one (pe_chain (op_leT hr.units0) (op_leT hr.units0) (pv 1) (pv 2) (pv 0)))))))), ?_⟩
    refine ⟨_, rfl, _, rfl, _, rfl, a, b, c, ax, ay, bx, by', cx, cy, rfl, ha, hb, hc, da, db, dc, _, rfl, rfl, _, rfl, ?_⟩
    have q : Q (.bl (ons ax ay bx by' cx cy)) H := q
    unfold ons at q
    refine ⟨_, rfl, rfl, _, rfl, ?_⟩
    by_cases z : tri ax ay bx by' cx cy = 0
    · rw [decide_eq_true z, Bool.true_and] at q
      have e : decide (V.int (tri ax ay bx by' cx cy) = V.int 0) = true := decide_eq_true (by rw [z])
      show if (!decide (V.int (tri ax ay bx by' cx cy) = V.int 0)) = true then _ else _
      rw [e]
      refine ⟨_, rfl, _, rfl, le_read ha hc ⟨_, rfl, ?_⟩⟩
      have second : ∀ R : VK, R (.bl (leP bx by' cx cy && leP cx cy ax ay)) H → tChain (rLeT K) (rLeT K) (tVar 1) (tVar 2) (tVar 0) [some (.ref a), some (.ref b), some (.ref c), some (.int (tri ax ay bx by' cx cy))] H R := fun R r => by
        refine ⟨_, rfl, _, rfl, le_read hb hc ⟨_, rfl, ?_⟩⟩
        cases k1 : leP bx by' cx cy with
        | false =>
          rw [k1, Bool.false_and] at r
          exact r
        | true =>
          rw [k1, Bool.true_and] at r
          exact ⟨_, rfl, le_read hc ha r⟩
      cases k1 : leP ax ay cx cy with
      | false =>
        rw [k1, Bool.false_and, Bool.false_or] at q
        exact ⟨_, rfl, second _ q⟩
      | true =>
        rw [k1, Bool.true_and] at q
        refine ⟨_, rfl, le_read hc hb ?_⟩
        cases k2 : leP cx cy bx by' with
        | false =>
          rw [k2, Bool.false_or] at q
          exact ⟨_, rfl, second _ q⟩
        | true =>
          rw [k2, Bool.true_or] at q
          exact ⟨_, rfl, q⟩
    · rw [decide_eq_false z, Bool.false_and] at q
      have e : decide (V.int (tri ax ay bx by' cx cy) = V.int 0) = false := decide_eq_false fun y => z (V.int.inj y)
      show if (!decide (V.int (tri ax ay bx by' cx cy) = V.int 0)) = true then Q (.bl false) H else _
      rw [e]
      exact q
end
/-! ### places, fractions: the mathematics -/
def g3 (x y d : Int) : Nat := Nat.gcd (Nat.gcd x.natAbs y.natAbs) d.natAbs
theorem g3_is (x y d : Int) : Nat.gcd (((Nat.gcd x.natAbs y.natAbs : Nat) : Int)).natAbs d.natAbs = g3 x y d := by
  rw [Int.natAbs_natCast]
  rfl
theorem g3_dx (x y d : Int) : ((g3 x y d : Nat) : Int) ∣ x := Int.ofNat_dvd_left.mpr (Nat.dvd_trans (Nat.gcd_dvd_left _ _) (Nat.gcd_dvd_left _ _))
theorem g3_dy (x y d : Int) : ((g3 x y d : Nat) : Int) ∣ y := Int.ofNat_dvd_left.mpr (Nat.dvd_trans (Nat.gcd_dvd_left _ _) (Nat.gcd_dvd_right _ _))
theorem g3_dd (x y d : Int) : ((g3 x y d : Nat) : Int) ∣ d := Int.ofNat_dvd_left.mpr (Nat.gcd_dvd_right _ _)
theorem g3_pos {x y d : Int} (h : d ≠ 0) : 0 < g3 x y d := Nat.gcd_pos_of_pos_right _ (Int.natAbs_pos.mpr h)
theorem g3_le {x y d : Int} (h : d ≠ 0) : g3 x y d ≤ d.natAbs := Nat.le_of_dvd (Int.natAbs_pos.mpr h) (Nat.gcd_dvd_right _ _)
/-- the divisor that makes the last number one of 1 and more -/
def gs (x y d : Int) : Int := if d < 0 then -((g3 x y d : Nat) : Int) else ((g3 x y d : Nat) : Int)
theorem gs_ne {x y d : Int} (h : d ≠ 0) : gs x y d ≠ 0 := by
  have := g3_pos (x := x) (y := y) h
  unfold gs
  split <;> omega
theorem gs_abs (x y d : Int) : (gs x y d).natAbs = g3 x y d := by
  unfold gs
  split <;> omega
theorem gs_dvd {x y d z : Int} (h : ((g3 x y d : Nat) : Int) ∣ z) : gs x y d ∣ z := by
  unfold gs
  split
  · exact Int.neg_dvd.mpr h
  · exact h
/-- a tuple of three numbers is a place -/
structure PlOk (x y d : Int) : Prop where
  x1 : -(10 ^ 30) < x
  x2 : x < 10 ^ 30
  y1 : -(10 ^ 30) < y
  y2 : y < 10 ^ 30
  d1 : 1 ≤ d
  d2 : d < 10 ^ 30
  g1 : g3 x y d = 1
theorem mul_fdiv {g z : Int} (h : g ∣ z) : g * z.fdiv g = z := by
  rw [Int.fdiv_eq_ediv_of_dvd h]
  exact Int.mul_ediv_cancel' h
theorem abs_le_of_mul {g z x : Int} (e : g * z = x) (h : g ≠ 0) : z.natAbs ≤ x.natAbs := by
  rw [← e, Int.natAbs_mul]
  exact Nat.le_mul_of_pos_left _ (Int.natAbs_pos.mpr h)
theorem place_ok {x y d : Int} (h : d ≠ 0) (hx : x.natAbs < 10 ^ 30) (hy : y.natAbs < 10 ^ 30) (hd : d.natAbs < 10 ^ 30) : PlOk (x.fdiv (gs x y d)) (y.fdiv (gs x y d)) (d.fdiv (gs x y d)) := by
  have ex := mul_fdiv (gs_dvd (g3_dx x y d))
  have ey := mul_fdiv (gs_dvd (g3_dy x y d))
  have ed := mul_fdiv (gs_dvd (g3_dd x y d))
  have hn := gs_ne (x := x) (y := y) h
  have bx := abs_le_of_mul ex hn
  have by' := abs_le_of_mul ey hn
  have bd := abs_le_of_mul ed hn
  have pos : 0 < d.fdiv (gs x y d) := by
    have gp := g3_pos (x := x) (y := y) h
    generalize d.fdiv (gs x y d) = D at ed
    unfold gs at ed
    split at ed
    · rename_i hneg
      rcases Int.lt_trichotomy D 0 with z | z | z
      · exfalso
        have w : 0 < -((g3 x y d : Nat) : Int) * D := Int.mul_pos_of_neg_of_neg (by omega) z
        omega
      · rw [z, Int.mul_zero] at ed
        omega
      · exact z
    · rcases Int.lt_trichotomy D 0 with z | z | z
      · exfalso
        have w : ((g3 x y d : Nat) : Int) * D < 0 := Int.mul_neg_of_pos_of_neg (by omega) z
        omega
      · rw [z, Int.mul_zero] at ed
        omega
      · exact z
  refine ⟨by omega, by omega, by omega, by omega, by omega, by omega, ?_⟩
  have nx : g3 x y d * (x.fdiv (gs x y d)).natAbs = x.natAbs := by rw [← gs_abs, ← Int.natAbs_mul, ex]
  have ny : g3 x y d * (y.fdiv (gs x y d)).natAbs = y.natAbs := by rw [← gs_abs, ← Int.natAbs_mul, ey]
  have nd : g3 x y d * (d.fdiv (gs x y d)).natAbs = d.natAbs := by rw [← gs_abs, ← Int.natAbs_mul, ed]
  have key : g3 x y d * g3 (x.fdiv (gs x y d)) (y.fdiv (gs x y d)) (d.fdiv (gs x y d)) = g3 x y d := by
    generalize hg : g3 x y d = g at nx ny nd
    unfold g3
    rw [← Nat.gcd_mul_left, ← Nat.gcd_mul_left, nx, ny, nd]
    exact hg
  exact Nat.eq_of_mul_eq_mul_left (g3_pos (x := x) (y := y) h) (by rw [key, Nat.mul_one])
theorem nb_add {i j : Int} {a : Nat} (hi : i.natAbs < 2 ^ a) (hj : j.natAbs < 2 ^ a) : (i + j).natAbs < 2 ^ (a + 1) := by
  rw [Nat.pow_succ]
  omega
theorem nb_sub {i j : Int} {a : Nat} (hi : i.natAbs < 2 ^ a) (hj : j.natAbs < 2 ^ a) : (i - j).natAbs < 2 ^ (a + 1) := by
  rw [Nat.pow_succ]
  omega
theorem nb_up {i : Int} {a b : Nat} (hi : i.natAbs < 2 ^ a) (h : a ≤ b) : i.natAbs < 2 ^ b := Nat.lt_of_lt_of_le hi (Nat.pow_le_pow_right (by decide) h)
theorem PlOk.bits {x y d : Int} (h : PlOk x y d) : x.natAbs < 2 ^ 100 ∧ y.natAbs < 2 ^ 100 ∧ d.natAbs < 2 ^ 100 := by
  obtain ⟨h1, h2, h3, h4, h5, h6, _⟩ := h
  refine ⟨by omega, by omega, by omega⟩
/-- the squared distance of a place and a site, times d * d -/
def spread (x y d u v : Int) : Int := (x - d * u) * (x - d * u) + (y - d * v) * (y - d * v)
theorem sq_nn (x : Int) : 0 ≤ x * x := by
  rw [← Int.natAbs_mul_self]
  exact Int.natCast_nonneg _
theorem spread_nonneg (x y d u v : Int) : 0 ≤ spread x y d u v := Int.add_nonneg (sq_nn _) (sq_nn _)
theorem far_bits {x d u : Int} (hx : x.natAbs < 2 ^ 100) (hd : d.natAbs < 2 ^ 100) (hu : -1000000 ≤ u ∧ u ≤ 1000000) : (x - d * u).natAbs < 2 ^ 121 := by
  have h1 : (d * u).natAbs < 2 ^ (100 + 20) := wide_lt hd (by omega)
  exact nb_sub (nb_up hx (by decide)) h1
/-- what lifts from a site are -/
def lz (u v : Int) : Int := u * u + v * v
def vol (ax ay bx by' cx cy dx dy : Int) : Int :=
  (dx - ax) * ((by' - ay) * lz (cx - ax) (cy - ay) - lz (bx - ax) (by' - ay) * (cy - ay)) + (dy - ay) * (lz (bx - ax) (by' - ay) * (cx - ax) - (bx - ax) * lz (cx - ax) (cy - ay)) + lz (dx - ax) (dy - ay) * ((bx - ax) * (cy - ay) - (by' - ay) * (cx - ax))
theorem vol_turn (ax ay bx by' cx cy dx dy : Int) : vol cx cy ax ay bx by' dx dy = vol ax ay bx by' cx cy dx dy := by
  unfold vol lz
  grind
theorem tri_turn (ax ay bx by' cx cy : Int) : tri cx cy ax ay bx by' = tri ax ay bx by' cx cy := by
  unfold tri
  grind
/-! ### fractions, places, circles, lifts -/
abbrev sFrac : Stmt := topS 12
abbrev sIsPl : Stmt := topS 16
abbrev sCheckP : Stmt := topS 18
abbrev sCirT : Stmt := topS 20
abbrev sHov : Stmt := topS 21
abbrev sSpread : Stmt := topS 22
abbrev sCircle : Stmt := topS 27
abbrev sInC : Stmt := topS 28
abbrev sLSide : Stmt := topS 29
abbrev sSquare : Stmt := topS 30
abbrev sNearer : Stmt := topS 31
theorem scFrac : FnScope ["top", "bottom", "common"] ["top", "bottom"] (defScope sFrac) := ⟨rfl, rfl, rfl, by decide +kernel, rfl, by decide +kernel, by decide +kernel⟩
theorem scIsPl : FnScope ["value", "x", "y", "d"] ["value"] (defScope sIsPl) := ⟨rfl, rfl, rfl, by decide +kernel, rfl, by decide +kernel, by decide +kernel⟩
theorem scCheckP : FnScope ["value", "name"] ["value", "name"] (defScope sCheckP) := ⟨rfl, rfl, rfl, by decide +kernel, rfl, by decide +kernel, by decide +kernel⟩
theorem scCirT : FnScope ["a", "b", "c", "ax", "ay", "bx", "by", "cx", "cy", "bz", "cz", "x", "y", "d", "common"] ["a", "b", "c"] (defScope sCirT) := ⟨rfl, rfl, rfl, by decide +kernel, rfl, by decide +kernel, by decide +kernel⟩
theorem scHov : FnScope ["a", "b", "c", "d", "dx", "dy", "ax", "ay", "bx", "by", "cx", "cy"] ["a", "b", "c", "d"] (defScope sHov) := ⟨rfl, rfl, rfl, by decide +kernel, rfl, by decide +kernel, by decide +kernel⟩
theorem scSpread : FnScope ["place", "site", "x", "y", "d"] ["place", "site"] (defScope sSpread) := ⟨rfl, rfl, rfl, by decide +kernel, rfl, by decide +kernel, by decide +kernel⟩
theorem scCircle : FnScope ["a", "b", "c", "area"] ["a", "b", "c"] (defScope sCircle) := ⟨rfl, rfl, rfl, by decide +kernel, rfl, by decide +kernel, by decide +kernel⟩
theorem scInC : FnScope ["a", "b", "c", "d"] ["a", "b", "c", "d"] (defScope sInC) := ⟨rfl, rfl, rfl, by decide +kernel, rfl, by decide +kernel, by decide +kernel⟩
theorem scLSide : FnScope ["a", "b", "c", "d", "area"] ["a", "b", "c", "d"] (defScope sLSide) := ⟨rfl, rfl, rfl, by decide +kernel, rfl, by decide +kernel, by decide +kernel⟩
theorem scSquare : FnScope ["place", "site"] ["place", "site"] (defScope sSquare) := ⟨rfl, rfl, rfl, by decide +kernel, rfl, by decide +kernel, by decide +kernel⟩
theorem scNearer : FnScope ["place", "a", "b"] ["place", "a", "b"] (defScope sNearer) := ⟨rfl, rfl, rfl, by decide +kernel, rfl, by decide +kernel, by decide +kernel⟩
section
variable {P : Program} {w : World} {K : PySem.W.Frag} {mg : Str → Option Value} {base : Heap}
theorem three_line : 3 ≤ sizeLine := by decide
theorem a30_ (u v z : V) : atI [u, v, z] 0 = some u := rfl
theorem a31_ (u v z : V) : atI [u, v, z] 1 = some v := rfl
theorem a32_ (u v z : V) : atI [u, v, z] 2 = some z := rfl
def Tup2 (H : Hp) (p : Addr) (x y : Int) : Prop := H p = some (.tup [.int x, .int y])
def Pla (H : Hp) (p : Addr) (x y d : Int) : Prop := H p = some (.tup [.int x, .int y, .int d])
/-- a new thing is handed back, all else stands -/
def newRes (H : Hp) (Q : VK) (o : HO) : Prop := ∀ (p : Addr) H', Same H H' → H p = none → H' p = some o → Q (.ref p) H'
/-! fraction -/
def gcf (t b : Int) : Int := ((Nat.gcd t.natAbs b.natAbs : Nat) : Int)
def spFrac : Sp := fun vs H Q _ => ∃ t b : Int, vs = [.int t, .int b] ∧ 0 < b ∧ b.natAbs < 2 ^ 8000 ∧ newRes H Q (.tup [.int (t / gcf t b), .int (b / gcf t b)])
theorem gcf_pos {t b : Int} (h : 0 < b) : 0 < gcf t b := Int.natCast_pos.mpr (Nat.gcd_pos_of_pos_right _ (by omega))
theorem gcf_le {t b : Int} (h : 0 < b) : (gcf t b).natAbs ≤ b.natAbs := by
  unfold gcf
  rw [Int.natAbs_natCast]
  exact Nat.le_of_dvd (by omega) (Nat.gcd_dvd_right _ _)
theorem ok_frac {f : Addr} {fd : FuncData} {k : Nat} (F : Fun K "fraction" "fraction" sFrac f fd) (mgcd : mg "gcd" = some (.builtin "math.gcd")) : FnOk P w K mg base CX0 (k + 1) f fd ["top", "bottom"] spFrac := by
  refine F.ok scFrac (fun vs H Q E h => ?_) (fun cdv A outer s H vs Q E hr h => ?_)
  · obtain ⟨t, b, rfl, _⟩ := h
    rfl
  · obtain ⟨t, b, rfl, hb, hw, q⟩ := h
    have c1 : CDivE t (gcf t b) := ⟨Int.ne_of_gt (gcf_pos hb), Nat.lt_of_le_of_lt (gcf_le hb) hw⟩
    have c2 : CDivE b (gcf t b) := ⟨Int.ne_of_gt (gcf_pos hb), Nat.lt_of_le_of_lt (gcf_le hb) hw⟩
    have e1 : t.fdiv (gcf t b) = t / gcf t b := Int.fdiv_eq_ediv_of_nonneg _ (Int.le_of_lt (gcf_pos hb))
    have e2 : b.fdiv (gcf t b) = b / gcf t b := Int.fdiv_eq_ediv_of_nonneg _ (Int.le_of_lt (gcf_pos hb))
    refine ⟨_, (pss_cons (ps_set (i := 2) scFrac.nd rfl (.inl rfl) (pe_callBfun cr_gcd (by rfl) mgcd (pa_cons (pv 0) (pa_cons (pv 1) pa_nil)))) (pss_one (ps_ret (pe_tup (pa_cons (pe_op op_fdivE (pv 0) (pv 2)) (pa_cons (pe_op op_fdivE (pv 1) (pv 2)) pa_nil)))))), ?_⟩
    refine ⟨_, rfl, _, rfl, _, _, rfl, ?_⟩
    refine ⟨_, rfl, _, rfl, _, _, rfl, rfl, c1, _, rfl, _, rfl, _, _, rfl, rfl, c2, two_line, fun p np => q p _ (Same.upd np) np ?_⟩
    rw [← e1, ← e2]
    exact upd_same
/-! places -/
/-- a place -/
def spIsPl : Sp := fun vs H Q _ => ∃ (t : Addr) (x y d : Int), vs = [.ref t] ∧ Pla H t x y d ∧ PlOk x y d ∧ Q (.bl true) H
set_option pp.maxSteps 300 in
theorem ok_ispl {f : Addr} {fd : FuncData} {k : Nat} (F : Fun K "is_place" "is_place" sIsPl f fd)
    (misinstance : mg "isinstance" = none) (mtuple : mg "tuple" = none) (mint : mg "int" = none) (mlen : mg "len" = none) (mgcd : mg "gcd" = some (.builtin "math.gcd")) : FnOk P w K mg base CX0 (k + 1) f fd ["value"] spIsPl := by
  refine F.ok scIsPl (fun vs H Q E h => ?_) (fun cdv A outer s H vs Q E hr h => ?_)
  · obtain ⟨t, x, y, d, rfl, _⟩ := h
    rfl
  · obtain ⟨t, x, y, d, rfl, h, p, q⟩ := h
    have nd := scIsPl.nd
    obtain ⟨x1, x2, y1, y2, d1, d2, g1⟩ := p
    refine ⟨_, (pss_cons (ps_if (PW.pt (pw_or (pt_not (pt_val (pe_callB call_isi (by rfl) misinstance (by decide +kernel) (pa_cons (pv 0) (pa_cons (pe_bltn (v := .ty "tuple") (by rfl) mtuple (by decide +kernel) rfl) pa_nil))))) (pw_or1 (pt_cmpR op_ne (pe_callB call_len_seq (by rfl) mlen (by decide +kernel) (pa_cons (pv 0) pa_nil)) pe_int (nomark _))))) (pss_one (ps_ret pe_bl)) pss_nil) (pss_cons (ps_asg (pv 0) (pg_tup (by rfl) (pgs_cons (pg_name (i := 1) nd rfl (.inl rfl)) (pgs_cons (pg_name (i := 2) nd rfl (.inl rfl)) (pgs_cons (pg_name (i := 3) nd rfl (.inl rfl)) pgs_nil))))) (pss_cons (ps_if (PW.pt (pw_or (pt_not (pt_val (pe_callB call_isi (by rfl) misinstance (by decide +kernel) (pa_cons (pv 1) (pa_cons (pe_bltn (v := .ty "int") (by rfl) mint (by decide +kernel) rfl) pa_nil))))) (pw_or (pt_not (pt_val (pe_callB call_isi (by rfl) misinstance (by decide +kernel) (pa_cons (pv 2) (pa_cons (pe_bltn (v := .ty "int") (by rfl) mint (by decide +kernel) rfl) pa_nil))))) (pw_or1 (pt_not (pt_val (pe_callB call_isi (by rfl) misinstance (by decide +kernel) (pa_cons (pv 3) (pa_cons (pe_bltn (v := .ty "int") (by rfl) mint (by decide +kernel) rfl) pa_nil))))))))) (pss_one (ps_ret pe_bl)) pss_nil) (pss_cons (ps_if (PW.pt (pw_or (pt_cmpR op_isIB (pv 1) pe_bl (nomark _)) (pw_or (pt_cmpR op_isIB (pv 1) pe_bl (nomark _)) (pw_or (pt_cmpR op_isIB (pv 2) pe_bl (nomark _)) (pw_or (pt_cmpR op_isIB (pv 2) pe_bl (nomark _)) (pw_or (pt_cmpR op_isIB (pv 3) pe_bl (nomark _)) (pw_or1 (pt_cmpR op_lt (pv 3) pe_int (nomark _))))))))) (pss_one (ps_ret pe_bl)) pss_nil) (pss_cons (ps_if (PW.pt (pw_or (pt_not (pt_chain op_lt op_lt (pe_un un_neg (pe_op op_pow pe_int pe_int)) (pv 1) (pe_op op_pow pe_int pe_int))) (pw_or (pt_not (pt_chain op_lt op_lt (pe_un un_neg (pe_op op_pow pe_int pe_int)) (pv 2) (pe_op op_pow pe_int pe_int))) (pw_or1 (pt_cmpR op_ge (pv 3) (pe_op op_pow pe_int pe_int) (nomark _)))))) (pss_one (ps_ret pe_bl)) pss_nil) (pss_one (ps_ret (pe_or (pe_cmpR op_eq (pv 3) pe_int (nomark _)) (pe_one (pe_cmpR op_eq (pe_callBfun cr_gcd3 (by rfl) mgcd (pa_cons (pv 1) (pa_cons (pv 2) (pa_cons (pv 3) pa_nil)))) pe_int (nomark _))))))))))), ?_⟩
    repeat array_get_dec
    refine w_itt x1 ?_
    repeat array_get_dec
    refine w_ntt x2 ?_
    repeat array_get_dec
    refine w_itt y1 ?_
    repeat array_get_dec
    refine w_ntt y2 ?_
    repeat array_get_dec
    refine w_itf (p := (10 : Int) ^ (30 : Int).toNat ≤ d) (fun z => absurd d2 (Int.not_lt.mpr z)) ?_
    refine ⟨_, rfl, rfl, _, rfl, ite2 (fun _ => q) fun _ => ?_⟩
    repeat array_get_dec
    have e : Nat.gcd (Nat.gcd x.natAbs y.natAbs) d.natAbs = 1 := g1
    rw [e]
    exact q
def spCheckP : Sp := fun vs H Q _ => ∃ (t : Addr) (x y d : Int) (z : Str), vs = [.ref t, .str z] ∧ Pla H t x y d ∧ PlOk x y d ∧ Q .non H
theorem ok_checkp {f fS : Addr} {fd fdS : FuncData} {k : Nat} (F : Fun K "check_place" "check_place" sCheckP f fd)
    (GS : FnOk P w K mg base CX0 (k + 1) fS fdS ["value"] spIsPl) (gS : mg "is_place" = some (.ref fS)) (kS : PySem.W.keepIn K (.ref fS) = true) (bS : Binds K fdS ["value"] []) : FnOk P w K mg base CX0 (k + 2) f fd ["value", "name"] spCheckP := by
  refine F.ok scCheckP (fun vs H Q E h => ?_) (fun cdv A outer s H vs Q E hr h => ?_)
  · obtain ⟨t, x, y, d, z, rfl, _⟩ := h
    rfl
  · obtain ⟨t, x, y, d, z, rfl, h, p, q⟩ := h
    exact ⟨_, pss_one (ps_if (pt_not (pt_val (pe_call GS hr (by rfl) gS kS bS .nil pass0 (pa_cons (pv 0) pa_nil)))) (pss_one ps_never) pss_nil), _, rfl, t, x, y, d, rfl, h, p, _, rfl, q⟩
end
/-! ### circles: the mathematics -/
def cX1 (ax ay bx by' cx cy : Int) : Int := lz (bx - ax) (by' - ay) * (cy - ay) - lz (cx - ax) (cy - ay) * (by' - ay)
def cY1 (ax ay bx by' cx cy : Int) : Int := lz (cx - ax) (cy - ay) * (bx - ax) - lz (bx - ax) (by' - ay) * (cx - ax)
def cXn (ax ay bx by' cx cy : Int) : Int := ax * (2 * tri ax ay bx by' cx cy) + cX1 ax ay bx by' cx cy
def cYn (ax ay bx by' cx cy : Int) : Int := ay * (2 * tri ax ay bx by' cx cy) + cY1 ax ay bx by' cx cy
def cDn (ax ay bx by' cx cy : Int) : Int := 2 * tri ax ay bx by' cx cy
def cTop (ax ay bx by' cx cy : Int) : Int := cX1 ax ay bx by' cx cy * cX1 ax ay bx by' cx cy + cY1 ax ay bx by' cx cy * cY1 ax ay bx by' cx cy
def cBot (ax ay bx by' cx cy : Int) : Int := 2 * tri ax ay bx by' cx cy * (2 * tri ax ay bx by' cx cy)
/-- the centre's numbers -/
def ctx (ax ay bx by' cx cy : Int) : Int := (cXn ax ay bx by' cx cy).fdiv (gs (cXn ax ay bx by' cx cy) (cYn ax ay bx by' cx cy) (cDn ax ay bx by' cx cy))
def cty (ax ay bx by' cx cy : Int) : Int := (cYn ax ay bx by' cx cy).fdiv (gs (cXn ax ay bx by' cx cy) (cYn ax ay bx by' cx cy) (cDn ax ay bx by' cx cy))
def ctd (ax ay bx by' cx cy : Int) : Int := (cDn ax ay bx by' cx cy).fdiv (gs (cXn ax ay bx by' cx cy) (cYn ax ay bx by' cx cy) (cDn ax ay bx by' cx cy))
theorem cmL {i j : Int} (h : i.natAbs < 2 ^ 63) : CMul i j := .inl ⟨by omega, by omega⟩
theorem cmR {i j : Int} (h : j.natAbs < 2 ^ 63) : CMul i j := .inr ⟨by omega, by omega⟩
theorem df_bits {a b : Int} (ha : -1000000 ≤ a ∧ a ≤ 1000000) (hb : -1000000 ≤ b ∧ b ≤ 1000000) : (b - a).natAbs < 2 ^ 21 := by omega
theorem lz_bits {u v : Int} (hu : u.natAbs < 2 ^ 21) (hv : v.natAbs < 2 ^ 21) : (lz u v).natAbs < 2 ^ 43 := nb_add (wide_lt hu hu) (wide_lt hv hv)
structure Six (ax ay bx by' cx cy : Int) : Prop where
  a : Bd 1000000 ax ay
  b : Bd 1000000 bx by'
  c : Bd 1000000 cx cy
section
variable {ax ay bx by' cx cy : Int}
theorem Six.u1 (h : Six ax ay bx by' cx cy) : (bx - ax).natAbs < 2 ^ 21 := df_bits ⟨h.a.1, h.a.2.1⟩ ⟨h.b.1, h.b.2.1⟩
theorem Six.v1 (h : Six ax ay bx by' cx cy) : (by' - ay).natAbs < 2 ^ 21 := df_bits h.a.2.2 h.b.2.2
theorem Six.u2 (h : Six ax ay bx by' cx cy) : (cx - ax).natAbs < 2 ^ 21 := df_bits ⟨h.a.1, h.a.2.1⟩ ⟨h.c.1, h.c.2.1⟩
theorem Six.v2 (h : Six ax ay bx by' cx cy) : (cy - ay).natAbs < 2 ^ 21 := df_bits h.a.2.2 h.c.2.2
theorem Six.l1 (h : Six ax ay bx by' cx cy) : (lz (bx - ax) (by' - ay)).natAbs < 2 ^ 43 := lz_bits h.u1 h.v1
theorem Six.l2 (h : Six ax ay bx by' cx cy) : (lz (cx - ax) (cy - ay)).natAbs < 2 ^ 43 := lz_bits h.u2 h.v2
theorem Six.t (h : Six ax ay bx by' cx cy) : (tri ax ay bx by' cx cy).natAbs < 2 ^ 43 := nb_sub (wide_lt h.u1 h.v2) (wide_lt h.v1 h.u2)
theorem Six.t2 (h : Six ax ay bx by' cx cy) : (2 * tri ax ay bx by' cx cy).natAbs < 2 ^ 44 := by
  have := h.t
  omega
theorem Six.x1 (h : Six ax ay bx by' cx cy) : (cX1 ax ay bx by' cx cy).natAbs < 2 ^ 65 := nb_sub (wide_lt h.l1 h.v2) (wide_lt h.l2 h.v1)
theorem Six.y1 (h : Six ax ay bx by' cx cy) : (cY1 ax ay bx by' cx cy).natAbs < 2 ^ 65 := nb_sub (wide_lt h.l2 h.u1) (wide_lt h.l1 h.u2)
theorem Six.xn (h : Six ax ay bx by' cx cy) : (cXn ax ay bx by' cx cy).natAbs < 2 ^ 66 := nb_add (wide_lt (a := 21) (by have := h.a.1; have := h.a.2.1; omega) h.t2) h.x1
theorem Six.yn (h : Six ax ay bx by' cx cy) : (cYn ax ay bx by' cx cy).natAbs < 2 ^ 66 := nb_add (wide_lt (a := 21) (by have := h.a.2.2; omega) h.t2) h.y1
theorem Six.place (h : Six ax ay bx by' cx cy) (t : tri ax ay bx by' cx cy ≠ 0) : PlOk (ctx ax ay bx by' cx cy) (cty ax ay bx by' cx cy) (ctd ax ay bx by' cx cy) := by
  have h1 := h.xn
  have h2 := h.yn
  have h3 := h.t2
  exact place_ok (show cDn ax ay bx by' cx cy ≠ 0 by unfold cDn; omega) (by omega) (by omega) (by unfold cDn; omega)
/-- the centre is as far from all three, times its last number's square -/
theorem centre_far (t : tri ax ay bx by' cx cy ≠ 0) : ∃ g : Int, g ≠ 0 ∧ g * ctx ax ay bx by' cx cy = cXn ax ay bx by' cx cy ∧ g * cty ax ay bx by' cx cy = cYn ax ay bx by' cx cy ∧ g * ctd ax ay bx by' cx cy = cDn ax ay bx by' cx cy := by
  have hd : cDn ax ay bx by' cx cy ≠ 0 := by unfold cDn; omega
  exact ⟨_, gs_ne hd, mul_fdiv (gs_dvd (g3_dx _ _ _)), mul_fdiv (gs_dvd (g3_dy _ _ _)), mul_fdiv (gs_dvd (g3_dd _ _ _))⟩
theorem spread_scale (g x y d u v : Int) : g * g * spread x y d u v = spread (g * x) (g * y) (g * d) u v := by
  unfold spread
  grind
theorem far_a : spread (cXn ax ay bx by' cx cy) (cYn ax ay bx by' cx cy) (cDn ax ay bx by' cx cy) ax ay = cTop ax ay bx by' cx cy := by
  unfold spread cXn cYn cDn cTop
  grind
theorem far_b : spread (cXn ax ay bx by' cx cy) (cYn ax ay bx by' cx cy) (cDn ax ay bx by' cx cy) bx by' = cTop ax ay bx by' cx cy := by
  unfold spread cXn cYn cDn cTop cX1 cY1 tri lz
  grind
theorem far_c : spread (cXn ax ay bx by' cx cy) (cYn ax ay bx by' cx cy) (cDn ax ay bx by' cx cy) cx cy = cTop ax ay bx by' cx cy := by
  unfold spread cXn cYn cDn cTop cX1 cY1 tri lz
  grind
theorem sq_cancel {g p q : Int} (h : g ≠ 0) (e : g * g * p = g * g * q) : p = q := Int.eq_of_mul_eq_mul_left (Int.mul_ne_zero h h) e
theorem centre_ab (t : tri ax ay bx by' cx cy ≠ 0) : spread (ctx ax ay bx by' cx cy) (cty ax ay bx by' cx cy) (ctd ax ay bx by' cx cy) ax ay = spread (ctx ax ay bx by' cx cy) (cty ax ay bx by' cx cy) (ctd ax ay bx by' cx cy) bx by' := by
  obtain ⟨g, hg, e1, e2, e3⟩ := centre_far t
  refine sq_cancel hg ?_
  rw [spread_scale, spread_scale, e1, e2, e3, far_a, far_b]
theorem centre_ac (t : tri ax ay bx by' cx cy ≠ 0) : spread (ctx ax ay bx by' cx cy) (cty ax ay bx by' cx cy) (ctd ax ay bx by' cx cy) ax ay = spread (ctx ax ay bx by' cx cy) (cty ax ay bx by' cx cy) (ctd ax ay bx by' cx cy) cx cy := by
  obtain ⟨g, hg, e1, e2, e3⟩ := centre_far t
  refine sq_cancel hg ?_
  rw [spread_scale, spread_scale, e1, e2, e3, far_a, far_c]
end
section
variable {P : Program} {w : World} {K : PySem.W.Frag} {mg : Str → Option Value} {base : Heap}
def spLift : Sp := fun vs H Q _ => ∃ (a b : Addr) (ax ay bx by' : Int), vs = [.ref a, .ref b] ∧ Sit H a ax ay ∧ Sit H b bx by' ∧ Bd 1000000 ax ay ∧ Bd 1000000 bx by' ∧ newRes H Q (.tup [.int (bx - ax), .int (by' - ay), .int (lz (bx - ax) (by' - ay))])
def spPlOf : Sp := fun vs H Q _ => ∃ x y d : Int, vs = [.int x, .int y, .int d] ∧ d ≠ 0 ∧ d.natAbs < 2 ^ 8000 ∧ newRes H Q (.tup [.int (x.fdiv (gs x y d)), .int (y.fdiv (gs x y d)), .int (d.fdiv (gs x y d))])
theorem gs_div {x y d : Int} (h : d ≠ 0) (hd : d.natAbs < 2 ^ 8000) (z : Int) : CDivE z (gs x y d) := ⟨gs_ne h, by rw [gs_abs]; exact Nat.lt_of_le_of_lt (g3_le h) hd⟩
/-- the circle's tuple: a place and a fraction -/
structure Cir (H : Hp) (p : Addr) (X Y D n m : Int) : Prop where
  ex : ∃ pc pf : Addr, H p = some (.tup [.ref pc, .ref pf]) ∧ Pla H pc X Y D ∧ Tup2 H pf n m
def spCirT (K : PySem.W.Frag) : Sp := fun vs H Q _ => ∃ (a b c : Addr) (ax ay bx by' cx cy : Int), vs = [.ref a, .ref b, .ref c] ∧ Sit H a ax ay ∧ Sit H b bx by' ∧ Sit H c cx cy ∧ Six ax ay bx by' cx cy ∧ tri ax ay bx by' cx cy ≠ 0 ∧
  ∀ (p : Addr) H', Same H H' → H p = none → Cir H' p (ctx ax ay bx by' cx cy) (cty ax ay bx by' cx cy) (ctd ax ay bx by' cx cy) (cTop ax ay bx by' cx cy / gcf (cTop ax ay bx by' cx cy) (cBot ax ay bx by' cx cy)) (cBot ax ay bx by' cx cy / gcf (cTop ax ay bx by' cx cy) (cBot ax ay bx by' cx cy)) → Q (.ref p) H'
theorem sq_pos {t : Int} (h : t ≠ 0) : 0 < t * t := by
  have z := sq_nn t
  have w : t * t ≠ 0 := Int.mul_ne_zero h h
  omega
theorem g3_shift (a b x y d : Int) : g3 (a * d + x) (b * d + y) d = g3 x y d := by
  have key : ∀ a b x y : Int, g3 x y d ∣ g3 (a * d + x) (b * d + y) d := fun a b x y => by
    have h1 := g3_dx x y d
    have h2 := g3_dy x y d
    have h3 := g3_dd x y d
    refine Nat.dvd_gcd (Nat.dvd_gcd ?_ ?_) (Int.ofNat_dvd_left.mp h3)
    · exact Int.ofNat_dvd_left.mp (Int.dvd_add (Int.dvd_mul_of_dvd_right h3) h1)
    · exact Int.ofNat_dvd_left.mp (Int.dvd_add (Int.dvd_mul_of_dvd_right h3) h2)
  refine Nat.dvd_antisymm ?_ (key a b x y)
  have z := key (-a) (-b) (a * d + x) (b * d + y)
  rwa [show -a * d + (a * d + x) = x by grind, show -b * d + (b * d + y) = y by grind] at z
theorem gs_shift (a b x y d : Int) : gs (a * d + x) (b * d + y) d = gs x y d := by
  unfold gs
  rw [g3_shift]
theorem shift_fdiv {g a d x : Int} (hg : g ≠ 0) (hd : g ∣ d) (hx : g ∣ x) : (a * d + x).fdiv g = a * d.fdiv g + x.fdiv g := by
  have e1 := mul_fdiv hd
  have e2 := mul_fdiv hx
  have : a * d + x = g * (a * d.fdiv g + x.fdiv g) := by grind
  rw [this]
  exact Int.mul_fdiv_cancel_left _ hg
theorem cgcf_scale {s t b : Int} (h : 0 < s) : gcf (s * t) (s * b) = s * gcf t b := by
  unfold gcf
  rw [Int.natAbs_mul, Int.natAbs_mul, Nat.gcd_mul_left, Int.natCast_mul, Int.natAbs_of_nonneg (Int.le_of_lt h)]
theorem cfrac_scale {s t b z : Int} (h : 0 < s) : s * z / gcf (s * t) (s * b) = z / gcf t b := by
  rw [cgcf_scale h]
  exact Int.mul_ediv_mul_of_pos _ _ h
theorem cir_is {ax ay bx by' cx cy : Int} (t : tri ax ay bx by' cx cy ≠ 0) : ∃ X Y D : Int, X = (cX1 ax ay bx by' cx cy).fdiv (gs (cX1 ax ay bx by' cx cy) (cY1 ax ay bx by' cx cy) (2 * tri ax ay bx by' cx cy)) ∧ Y = (cY1 ax ay bx by' cx cy).fdiv (gs (cX1 ax ay bx by' cx cy) (cY1 ax ay bx by' cx cy) (2 * tri ax ay bx by' cx cy)) ∧ D = (2 * tri ax ay bx by' cx cy).fdiv (gs (cX1 ax ay bx by' cx cy) (cY1 ax ay bx by' cx cy) (2 * tri ax ay bx by' cx cy)) ∧
    ctx ax ay bx by' cx cy = ax * D + X ∧ cty ax ay bx by' cx cy = ay * D + Y ∧ ctd ax ay bx by' cx cy = D ∧ 0 < D * D ∧ cTop ax ay bx by' cx cy / gcf (cTop ax ay bx by' cx cy) (cBot ax ay bx by' cx cy) = (X * X + Y * Y) / gcf (X * X + Y * Y) (D * D) ∧ cBot ax ay bx by' cx cy / gcf (cTop ax ay bx by' cx cy) (cBot ax ay bx by' cx cy) = D * D / gcf (X * X + Y * Y) (D * D) := by
  have hd : 2 * tri ax ay bx by' cx cy ≠ 0 := by omega
  have hg := gs_ne (x := cX1 ax ay bx by' cx cy) (y := cY1 ax ay bx by' cx cy) hd
  have ex := mul_fdiv (gs_dvd (g3_dx (cX1 ax ay bx by' cx cy) (cY1 ax ay bx by' cx cy) (2 * tri ax ay bx by' cx cy)))
  have ey := mul_fdiv (gs_dvd (g3_dy (cX1 ax ay bx by' cx cy) (cY1 ax ay bx by' cx cy) (2 * tri ax ay bx by' cx cy)))
  have ed := mul_fdiv (gs_dvd (g3_dd (cX1 ax ay bx by' cx cy) (cY1 ax ay bx by' cx cy) (2 * tri ax ay bx by' cx cy)))
  have sh := gs_shift ax ay (cX1 ax ay bx by' cx cy) (cY1 ax ay bx by' cx cy) (2 * tri ax ay bx by' cx cy)
  refine ⟨_, _, _, rfl, rfl, rfl, ?_, ?_, ?_, ?_⟩
  · unfold ctx cXn cYn cDn
    rw [sh]
    exact shift_fdiv hg (gs_dvd (g3_dd _ _ _)) (gs_dvd (g3_dx _ _ _))
  · unfold cty cXn cYn cDn
    rw [sh]
    exact shift_fdiv hg (gs_dvd (g3_dd _ _ _)) (gs_dvd (g3_dy _ _ _))
  · unfold ctd cXn cYn cDn
    rw [sh]
  · unfold cTop cBot
    generalize (gs (cX1 ax ay bx by' cx cy) (cY1 ax ay bx by' cx cy) (2 * tri ax ay bx by' cx cy)) = g at *
    generalize (cX1 ax ay bx by' cx cy).fdiv g = X at *
    generalize (cY1 ax ay bx by' cx cy).fdiv g = Y at *
    generalize hD : (2 * tri ax ay bx by' cx cy).fdiv g = D at *
    rw [← ex, ← ey, ← ed]
    have D0 : D ≠ 0 := fun z => hd (by rw [← ed, z, Int.mul_zero])
    have e1 : g * X * (g * X) + g * Y * (g * Y) = g * g * (X * X + Y * Y) := by grind
    have e2 : g * D * (g * D) = g * g * (D * D) := by grind
    rw [e1, e2]
    exact ⟨sq_pos D0, cfrac_scale (sq_pos hg), cfrac_scale (sq_pos hg)⟩
set_option pp.maxSteps 300 in
theorem ok_cirt {f fF : Addr} {fd fdF : FuncData} {k : Nat} (F : Fun K "circle_through" "circle_through" sCirT f fd)
    (GF : FnOk P w K mg base CX0 (k + 1) fF fdF ["top", "bottom"] spFrac) (gF : mg "fraction" = some (.ref fF)) (kF : PySem.W.keepIn K (.ref fF) = true) (bF : Binds K fdF ["top", "bottom"] []) (mgcd : mg "gcd" = some (.builtin "math.gcd")) : FnOk P w K mg base CX0 (k + 2) f fd ["a", "b", "c"] (spCirT K) := by
  refine F.ok scCirT (fun vs H Q E h => ?_) (fun cdv A outer s H vs Q E hr h => ?_)
  · obtain ⟨a, b, c, ax, ay, bx, by', cx, cy, rfl, _⟩ := h
    rfl
  · obtain ⟨a, b, c, ax, ay, bx, by', cx, cy, rfl, ha, hb, hc, six, t, q⟩ := h
    have nd := scCirT.nd
    have six1 := six.u1
    have six2 := six.v1
    have six3 := six.u2
    have six4 := six.v2
    refine ⟨_, (pss_cons (ps_asg (pv 0) (pg_tup (by rfl) (pgs_cons (pg_name (i := 3) nd rfl (.inl rfl)) (pgs_cons (pg_name (i := 4) nd rfl (.inl rfl)) pgs_nil)))) (pss_cons (ps_par (i := 5) (j := 6) (by rfl) nd rfl rfl (by decide) rfl rfl (pa_cons (pe_op op_sub (pe_ix ix_tup (pv 1) pe_int (fun _ _ => rfl)) (pv 3)) (pa_cons (pe_op op_sub (pe_ix ix_tup (pv 1) pe_int (fun _ _ => rfl)) (pv 4)) pa_nil)) (by rfl)) (pss_cons (ps_par (i := 7) (j := 8) (by rfl) nd rfl rfl (by decide) rfl rfl (pa_cons (pe_op op_sub (pe_ix ix_tup (pv 2) pe_int (fun _ _ => rfl)) (pv 3)) (pa_cons (pe_op op_sub (pe_ix ix_tup (pv 2) pe_int (fun _ _ => rfl)) (pv 4)) pa_nil)) (by rfl)) (pss_cons (ps_par (i := 9) (j := 10) (by rfl) nd rfl rfl (by decide) rfl rfl (pa_cons (pe_op op_add (pe_op op_mulW (pv 5) (pv 5)) (pe_op op_mulW (pv 6) (pv 6))) (pa_cons (pe_op op_add (pe_op op_mulW (pv 7) (pv 7)) (pe_op op_mulW (pv 8) (pv 8))) pa_nil)) (by rfl)) (pss_cons (ps_par3 (i := 11) (j := 12) (l := 13) (by rfl) nd rfl rfl rfl (by decide) (by decide) (by decide) rfl rfl rfl (pa_cons (pe_op op_sub (pe_op op_mulW (pv 9) (pv 8)) (pe_op op_mulW (pv 10) (pv 6))) (pa_cons (pe_op op_sub (pe_op op_mulW (pv 10) (pv 5)) (pe_op op_mulW (pv 9) (pv 7))) (pa_cons (pe_op op_mulW pe_int (pe_op op_sub (pe_op op_mulW (pv 5) (pv 8)) (pe_op op_mulW (pv 6) (pv 7)))) pa_nil))) (by rfl)) (pss_cons (ps_set (i := 14) nd rfl (.inl rfl) (pe_callBfun cr_gcd3 (by rfl) mgcd (pa_cons (pv 11) (pa_cons (pv 12) (pa_cons (pv 13) pa_nil))))) (C8.pss_cut (ps_if (pt_cmpR op_lt (pv 13) pe_int (nomark _)) (pss_one (ps_set (i := 14) nd rfl (.inl rfl) (pe_un un_neg (pv 14)))) pss_nil) (pss_cons (ps_par3 (i := 11) (j := 12) (l := 13) (by rfl) nd rfl rfl rfl (by decide) (by decide) (by decide) rfl rfl rfl (pa_cons (pe_op op_fdivE (pv 11) (pv 14)) (pa_cons (pe_op op_fdivE (pv 12) (pv 14)) (pa_cons (pe_op op_fdivE (pv 13) (pv 14)) pa_nil))) (by rfl)) (pss_one (ps_ret (pe_tup (pa_cons (pe_tup (pa_cons (pe_op op_add (pe_op op_mulW (pv 3) (pv 13)) (pv 11)) (pa_cons (pe_op op_add (pe_op op_mulW (pv 4) (pv 13)) (pv 12)) (pa_cons (pv 13) pa_nil)))) (pa_cons (pe_call GF hr (by rfl) gF kF bF .nil pass0 (pa_cons (pe_op op_add (pe_op op_mulW (pv 11) (pv 11)) (pe_op op_mulW (pv 12) (pv 12))) (pa_cons (pe_op op_mulW (pv 13) (pv 13)) pa_nil))) pa_nil))))))))))))), ?_⟩
    repeat array_get_dec
    refine ⟨fun σ' H' => σ' = [some (.ref a), some (.ref b), some (.ref c), some (.int ax), some (.int ay), some (.int (bx - ax)), some (.int (by' - ay)), some (.int (cx - ax)), some (.int (cy - ay)), some (.int (lz (bx - ax) (by' - ay))), some (.int (lz (cx - ax) (cy - ay))), some (.int (cX1 ax ay bx by' cx cy)), some (.int (cY1 ax ay bx by' cx cy)), some (.int (2 * tri ax ay bx by' cx cy)), some (.int (gs (cX1 ax ay bx by' cx cy) (cY1 ax ay bx by' cx cy) (2 * tri ax ay bx by' cx cy)))] ∧ H = H', ?_, ?_⟩
    · refine ⟨_, rfl, _, _, rfl, rfl, _, rfl, ite2 (fun c => ?_) fun c => ?_⟩
      · refine ⟨_, rfl, _, rfl, ?_, rfl⟩
        show [_, _, _, _, _, _, _, _, _, _, _, _, _, _, some (V.int (-((g3 (cX1 ax ay bx by' cx cy) (cY1 ax ay bx by' cx cy) (2 * tri ax ay bx by' cx cy) : Nat) : Int)))] = _
        unfold gs
        rw [if_pos (show 2 * tri ax ay bx by' cx cy < 0 from of_decide_eq_true c)]
        rfl
      · refine ⟨?_, rfl⟩
        show [_, _, _, _, _, _, _, _, _, _, _, _, _, _, some (V.int (((g3 (cX1 ax ay bx by' cx cy) (cY1 ax ay bx by' cx cy) (2 * tri ax ay bx by' cx cy) : Nat) : Int)))] = _
        unfold gs
        rw [if_neg (show ¬ 2 * tri ax ay bx by' cx cy < 0 from fun z => c (decide_eq_true z))]
        rfl
    · rintro _ _ ⟨rfl, rfl⟩
      have hd : 2 * tri ax ay bx by' cx cy ≠ 0 := by omega
      have c := gs_div (x := cX1 ax ay bx by' cx cy) (y := cY1 ax ay bx by' cx cy) hd (nb_up six.t2 (by decide))
      obtain ⟨X, Y, D, rfl, rfl, rfl, r1, r2, r3, r4, r5, r6⟩ := cir_is t
      have wX := nbd (b := gs (cX1 ax ay bx by' cx cy) (cY1 ax ay bx by' cx cy) (2 * tri ax ay bx by' cx cy)) six.x1
      have wY := nbd (b := gs (cX1 ax ay bx by' cx cy) (cY1 ax ay bx by' cx cy) (2 * tri ax ay bx by' cx cy)) six.y1
      have wD := nbd (b := gs (cX1 ax ay bx by' cx cy) (cY1 ax ay bx by' cx cy) (2 * tri ax ay bx by' cx cy)) six.t2
      have wx : ax.natAbs < 2 ^ 21 := by have := six.a.1; have := six.a.2.1; omega
      have wy : ay.natAbs < 2 ^ 21 := by have := six.a.2.2; omega
      refine ⟨_, rfl, _, rfl, _, _, rfl, rfl, c _, _, rfl, _, rfl, _, _, rfl, rfl, c _, _, rfl, _, rfl, _, _, rfl, rfl, c _, _, _, _, rfl, ?_⟩
      repeat array_get_dec
      refine ⟨three_line, fun p4 n4 => ?_⟩
      repeat array_get_dec
      refine ⟨r4, nb_up (wide_lt wD wD) (by decide), fun p5 H5 s5 n5 e5 => ⟨two_line, fun p n => ?_⟩⟩
      have s4 := Same.upd (o := .tup [.int (ax * (2 * tri ax ay bx by' cx cy).fdiv (gs (cX1 ax ay bx by' cx cy) (cY1 ax ay bx by' cx cy) (2 * tri ax ay bx by' cx cy)) + (cX1 ax ay bx by' cx cy).fdiv (gs (cX1 ax ay bx by' cx cy) (cY1 ax ay bx by' cx cy) (2 * tri ax ay bx by' cx cy))), .int (ay * (2 * tri ax ay bx by' cx cy).fdiv (gs (cX1 ax ay bx by' cx cy) (cY1 ax ay bx by' cx cy) (2 * tri ax ay bx by' cx cy)) + (cY1 ax ay bx by' cx cy).fdiv (gs (cX1 ax ay bx by' cx cy) (cY1 ax ay bx by' cx cy) (2 * tri ax ay bx by' cx cy))), .int ((2 * tri ax ay bx by' cx cy).fdiv (gs (cX1 ax ay bx by' cx cy) (cY1 ax ay bx by' cx cy) (2 * tri ax ay bx by' cx cy)))]) n4
      have S5 : Same H H5 := s4.trans s5
      refine q p _ (S5.trans (Same.upd n)) (S5.free n) ⟨p4, p5, upd_same, ?_, ?_⟩
      · rw [r1, r2, r3]
        exact (Same.upd n) _ _ (s5 _ _ upd_same)
      · rw [r5, r6]
        exact (Same.upd n) _ _ e5
/-- four sites -/
def sp4 (K : PySem.W.Frag) (ok : Int → Int → Int → Int → Int → Int → Int → Int → Prop) (v : Int → Int → Int → Int → Int → Int → Int → Int → V) : Sp := fun vs H Q _ => ∃ (a b c d : Addr) (ax ay bx by' cx cy dx dy : Int), vs = [.ref a, .ref b, .ref c, .ref d] ∧ Sit H a ax ay ∧ Sit H b bx by' ∧ Sit H c cx cy ∧ Sit H d dx dy ∧ Six ax ay bx by' cx cy ∧ Bd 1000000 dx dy ∧ ok ax ay bx by' cx cy dx dy ∧ ∀ H', Same H H' → Q (v ax ay bx by' cx cy dx dy) H'
theorem sg_small (n : Int) : -1 ≤ sg n ∧ sg n ≤ 1 := by
  unfold sg
  split
  · omega
  · split <;> omega
def lsd (ax ay bx by' cx cy dx dy : Int) : Int := sg (vol ax ay bx by' cx cy dx dy) * sg (tri ax ay bx by' cx cy)
theorem hov_is (ax ay bx by' cx cy dx dy : Int) : ((ax - dx) * (ax - dx) + (ay - dy) * (ay - dy)) * ((by' - dy) * (cx - dx) - (bx - dx) * (cy - dy)) + ((bx - dx) * (bx - dx) + (by' - dy) * (by' - dy)) * ((ax - dx) * (cy - dy) - (ay - dy) * (cx - dx)) + ((cx - dx) * (cx - dx) + (cy - dy) * (cy - dy)) * ((ay - dy) * (bx - dx) - (ax - dx) * (by' - dy)) = vol ax ay bx by' cx cy dx dy := by
  unfold vol lz
  grind
theorem ok_hov {f : Addr} {fd : FuncData} {k : Nat} (F : Fun K "height_over" "height_over" sHov f fd) : FnOk P w K mg base CX0 (k + 1) f fd ["a", "b", "c", "d"] (sp4 K (fun _ _ _ _ _ _ _ _ => True) fun ax ay bx by' cx cy dx dy => .int (vol ax ay bx by' cx cy dx dy)) := by
  refine F.ok scHov (fun vs H Q E h => ?_) (fun cdv A outer s H vs Q E hr h => ?_)
  · obtain ⟨a, b, c, d, ax, ay, bx, by', cx, cy, dx, dy, rfl, _⟩ := h
    rfl
  · obtain ⟨a, b, c, d, ax, ay, bx, by', cx, cy, dx, dy, rfl, ha, hb, hc, hd, six, dd, _, q⟩ := h
    have nd := scHov.nd
    have ua : (ax - dx).natAbs < 2 ^ 21 := df_bits ⟨dd.1, dd.2.1⟩ ⟨six.a.1, six.a.2.1⟩
    have va : (ay - dy).natAbs < 2 ^ 21 := df_bits dd.2.2 six.a.2.2
    have ub : (bx - dx).natAbs < 2 ^ 21 := df_bits ⟨dd.1, dd.2.1⟩ ⟨six.b.1, six.b.2.1⟩
    have vb : (by' - dy).natAbs < 2 ^ 21 := df_bits dd.2.2 six.b.2.2
    have uc : (cx - dx).natAbs < 2 ^ 21 := df_bits ⟨dd.1, dd.2.1⟩ ⟨six.c.1, six.c.2.1⟩
    have vc : (cy - dy).natAbs < 2 ^ 21 := df_bits dd.2.2 six.c.2.2
    have la : ((ax - dx) * (ax - dx) + (ay - dy) * (ay - dy)).natAbs < 2 ^ 43 := lz_bits ua va
    have lb : ((bx - dx) * (bx - dx) + (by' - dy) * (by' - dy)).natAbs < 2 ^ 43 := lz_bits ub vb
    have lc : ((cx - dx) * (cx - dx) + (cy - dy) * (cy - dy)).natAbs < 2 ^ 43 := lz_bits uc vc
    have q : Q (.int (vol ax ay bx by' cx cy dx dy)) H := q H (Same.refl H)
    rw [← hov_is] at q
    refine ⟨_, (pss_cons (ps_asg (pv 3) (pg_tup (by rfl) (pgs_cons (pg_name (i := 4) nd rfl (.inl rfl)) (pgs_cons (pg_name (i := 5) nd rfl (.inl rfl)) pgs_nil)))) (pss_cons (ps_par (i := 6) (j := 7) rfl nd rfl rfl (by decide) rfl rfl (pa_cons (pe_op op_sub (pe_ix ix_tup (pv 0) pe_int (fun _ _ => rfl)) (pv 4)) (pa_cons (pe_op op_sub (pe_ix ix_tup (pv 0) pe_int (fun _ _ => rfl)) (pv 5)) pa_nil)) rfl) (pss_cons (ps_par (i := 8) (j := 9) rfl nd rfl rfl (by decide) rfl rfl (pa_cons (pe_op op_sub (pe_ix ix_tup (pv 1) pe_int (fun _ _ => rfl)) (pv 4)) (pa_cons (pe_op op_sub (pe_ix ix_tup (pv 1) pe_int (fun _ _ => rfl)) (pv 5)) pa_nil)) rfl) (pss_cons (ps_par (i := 10) (j := 11) rfl nd rfl rfl (by decide) rfl rfl (pa_cons (pe_op op_sub (pe_ix ix_tup (pv 2) pe_int (fun _ _ => rfl)) (pv 4)) (pa_cons (pe_op op_sub (pe_ix ix_tup (pv 2) pe_int (fun _ _ => rfl)) (pv 5)) pa_nil)) rfl) (pss_one (ps_ret (pe_op op_add (pe_op op_add (pe_op op_mul (pe_op op_add (pe_op op_mul (pv 6) (pv 6)) (pe_op op_mul (pv 7) (pv 7))) (pe_op op_sub (pe_op op_mul (pv 9) (pv 10)) (pe_op op_mul (pv 8) (pv 11)))) (pe_op op_mul (pe_op op_add (pe_op op_mul (pv 8) (pv 8)) (pe_op op_mul (pv 9) (pv 9))) (pe_op op_sub (pe_op op_mul (pv 6) (pv 11)) (pe_op op_mul (pv 7) (pv 10))))) (pe_op op_mul (pe_op op_add (pe_op op_mul (pv 10) (pv 10)) (pe_op op_mul (pv 11) (pv 11))) (pe_op op_sub (pe_op op_mul (pv 7) (pv 8)) (pe_op op_mul (pv 6) (pv 9))))))))))), ?_⟩
    refine ⟨_, rfl, _, _, rfl, SqT.of hd, rfl, _, _, rfl, _, _, rfl, rfl, _, rfl, _, _, _, _, rfl, rfl, SqT.of ha, at0_ _ _, _, rfl, _, _, rfl, rfl, _, rfl, _, _, _, _, rfl, rfl, SqT.of ha, at1_ _ _, _, rfl, _, _, rfl, rfl, _, _, rfl, _, rfl, _, _, _, _, rfl, rfl, SqT.of hb, at0_ _ _, _, rfl, _, _, rfl, rfl, _, rfl, _, _, _, _, rfl, rfl, SqT.of hb, at1_ _ _, _, rfl, _, _, rfl, rfl, _, _, rfl, _, rfl, _, _, _, _, rfl, rfl, SqT.of hc, at0_ _ _, _, rfl, _, _, rfl, rfl, _, rfl, _, _, _, _, rfl, rfl, SqT.of hc, at1_ _ _, _, rfl, _, _, rfl, rfl, _, _, rfl, _, rfl, _, rfl, _, _, rfl, rfl, cmL (nb_up ua (by decide)), _, rfl, _, rfl, _, _, rfl, rfl, cmL (nb_up va (by decide)), _, _, rfl, rfl, _, rfl, _, rfl, _, _, rfl, rfl, cmL (nb_up vb (by decide)), _, rfl, _, rfl, _, _, rfl, rfl, cmL (nb_up ub (by decide)), _, _, rfl, rfl, _, _, rfl, rfl, cmL (nb_up la (by decide)), _, rfl, _, rfl, _, _, rfl, rfl, cmL (nb_up ub (by decide)), _, rfl, _, rfl, _, _, rfl, rfl, cmL (nb_up vb (by decide)), _, _, rfl, rfl, _, rfl, _, rfl, _, _, rfl, rfl, cmL (nb_up ua (by decide)), _, rfl, _, rfl, _, _, rfl, rfl, cmL (nb_up va (by decide)), _, _, rfl, rfl, _, _, rfl, rfl, cmL (nb_up lb (by decide)), _, _, rfl, rfl, _, rfl, _, rfl, _, _, rfl, rfl, cmL (nb_up uc (by decide)), _, rfl, _, rfl, _, _, rfl, rfl, cmL (nb_up vc (by decide)), _, _, rfl, rfl, _, rfl, _, rfl, _, _, rfl, rfl, cmL (nb_up va (by decide)), _, rfl, _, rfl, _, _, rfl, rfl, cmL (nb_up ua (by decide)), _, _, rfl, rfl, _, _, rfl, rfl, cmL (nb_up lc (by decide)), _, _, rfl, rfl, ?_⟩
    exact q
def spSpread : Sp := fun vs H Q _ => ∃ (p s : Addr) (x y d u v : Int), vs = [.ref p, .ref s] ∧ Pla H p x y d ∧ PlOk x y d ∧ Sit H s u v ∧ Bd 1000000 u v ∧ Q (.int (spread x y d u v)) H
theorem ok_spread {f : Addr} {fd : FuncData} {k : Nat} (F : Fun K "spread_square" "spread_square" sSpread f fd) : FnOk P w K mg base CX0 (k + 1) f fd ["place", "site"] spSpread := by
  refine F.ok scSpread (fun vs H Q E h => ?_) (fun cdv A outer s H vs Q E hr h => ?_)
  · obtain ⟨p, s, x, y, d, u, v, rfl, _⟩ := h
    rfl
  · obtain ⟨p, s, x, y, d, u, v, rfl, hp, po, hs, ds, q⟩ := h
    have pb := po.bits
    have ds1 := ds.1
    have ds2 := ds.2.1
    have ds3 := ds.2.2.1
    have ds4 := ds.2.2.2
    refine ⟨_, (pss_cons (ps_asg (pv 0) (pg_tup (by rfl) (pgs_cons (pg_name (i := 2) scSpread.nd rfl (.inl rfl)) (pgs_cons (pg_name (i := 3) scSpread.nd rfl (.inl rfl)) (pgs_cons (pg_name (i := 4) scSpread.nd rfl (.inl rfl)) pgs_nil))))) (pss_one (ps_ret (pe_op op_add (pe_op op_sq (pe_op op_sub (pv 2) (pe_op op_mul (pv 4) (pe_ix ix_tup (pv 1) pe_int (fun _ _ => rfl)))) pe_int) (pe_op op_sq (pe_op op_sub (pv 3) (pe_op op_mul (pv 4) (pe_ix ix_tup (pv 1) pe_int (fun _ _ => rfl)))) pe_int))))), ?_⟩
    refine ⟨_, rfl, _, _, rfl, SqT.of hp, rfl, _, _, rfl, _, _, rfl, _, _, rfl, rfl, ?_⟩
    exact ⟨_, rfl, _, rfl, _, rfl, _, _, _, _, rfl, rfl, SqT.of hs, at0_ _ _, _, _, rfl, rfl, cmR (by omega), _, _, rfl, rfl, _, _, rfl, rfl, ⟨rfl, nb_up (far_bits pb.1 pb.2.2 ⟨ds.1, ds.2.1⟩) (by decide)⟩, _, rfl, _, rfl, _, rfl, _, _, _, _, rfl, rfl, SqT.of hs, at1_ _ _, _, _, rfl, rfl, cmR (by omega), _, _, rfl, rfl, _, _, rfl, rfl, ⟨rfl, nb_up (far_bits pb.2.1 pb.2.2 ds.2.2) (by decide)⟩, _, _, rfl, rfl, q⟩
theorem tri_ne {t : Int} (h : t ≠ 0) : ¬ (V.int t = V.int 0) := fun z => h (V.int.inj z)
theorem ok_circle {f fA fT : Addr} {fd fdA fdT : FuncData} {k : Nat} (F : Fun K "circle" "circle" sCircle f fd)
    (GA : FnOk P w K mg base CX0 (k + 1) fA fdA ["a", "b", "c"] (sp3 K fun ax ay bx by' cx cy => .int (tri ax ay bx by' cx cy))) (gA : mg "turn_of_sites" = some (.ref fA)) (kA : PySem.W.keepIn K (.ref fA) = true) (bA : Binds K fdA ["a", "b", "c"] []) (GT : FnOk P w K mg base CX0 (k + 1) fT fdT ["a", "b", "c"] (spCirT K)) (gT : mg "circle_through" = some (.ref fT)) (kT : PySem.W.keepIn K (.ref fT) = true) (bT : Binds K fdT ["a", "b", "c"] []) : FnOk P w K mg base CX0 (k + 2) f fd ["a", "b", "c"] (spCirT K) := by
  refine F.ok scCircle (fun vs H Q E h => ?_) (fun cdv A outer s H vs Q E hr h => ?_)
  · obtain ⟨a, b, c, ax, ay, bx, by', cx, cy, rfl, _⟩ := h
    rfl
  · obtain ⟨a, b, c, ax, ay, bx, by', cx, cy, rfl, ha, hb, hc, six, t, q⟩ := h
    have nd := scCircle.nd
    refine ⟨_, (pss_cons (ps_set (i := 3) nd rfl (.inl rfl) (pe_call GA hr (by rfl) gA kA bA .nil pass0 (pa_cons (pv 0) (pa_cons (pv 1) (pa_cons (pv 2) pa_nil))))) (pss_cons (ps_if (pt_cmpR op_isN (pv 3) pe_non (nomark _)) pss_never pss_nil) (pss_cons (ps_if (pt_cmpR op_eq (pv 3) pe_int (nomark _)) (pss_one ps_never) pss_nil) (pss_one (ps_ret (pe_call GT hr (by rfl) gT kT bT .nil pass0 (pa_cons (pv 0) (pa_cons (pv 1) (pa_cons (pv 2) pa_nil))))))))), ?_⟩
    exact ⟨_, rfl, _, rfl, _, rfl, a, b, c, ax, ay, bx, by', cx, cy, rfl, ha, hb, hc, six.a, six.b, six.c, _, rfl, rfl, _, rfl, _, rfl, rfl, _, rfl, itf (tri_ne t) ⟨_, rfl, _, rfl, _, rfl, a, b, c, ax, ay, bx, by', cx, cy, rfl, ha, hb, hc, six, t, q⟩⟩
theorem ok_lside {f fA fC fH fS : Addr} {fd fdA fdC fdH fdS : FuncData} {k : Nat} (F : Fun K "lift_side" "lift_side" sLSide f fd)
    (GA : FnOk P w K mg base CX0 (k + 1) fA fdA ["a", "b", "c"] (sp3 K fun ax ay bx by' cx cy => .int (tri ax ay bx by' cx cy))) (gA : mg "turn_of_sites" = some (.ref fA)) (kA : PySem.W.keepIn K (.ref fA) = true) (bA : Binds K fdA ["a", "b", "c"] []) (GC : FnOk P w K mg base CX0 (k + 1) fC fdC ["value", "name"] spCheck) (gC : mg "check_site" = some (.ref fC)) (kC : PySem.W.keepIn K (.ref fC) = true) (bC : Binds K fdC ["value", "name"] []) (GH : FnOk P w K mg base CX0 (k + 1) fH fdH ["a", "b", "c", "d"] (sp4 K (fun _ _ _ _ _ _ _ _ => True) fun ax ay bx by' cx cy dx dy => .int (vol ax ay bx by' cx cy dx dy))) (gH : mg "height_over" = some (.ref fH)) (kH : PySem.W.keepIn K (.ref fH) = true) (bH : Binds K fdH ["a", "b", "c", "d"] []) (GS : FnOk P w K mg base CX0 (k + 1) fS fdS ["number"] spSign) (gS : mg "sign" = some (.ref fS)) (kS : PySem.W.keepIn K (.ref fS) = true) (bS : Binds K fdS ["number"] []) :
    FnOk P w K mg base CX0 (k + 2) f fd ["a", "b", "c", "d"] (sp4 K (fun ax ay bx by' cx cy _ _ => tri ax ay bx by' cx cy ≠ 0) fun ax ay bx by' cx cy dx dy => .int (lsd ax ay bx by' cx cy dx dy)) := by
  refine F.ok scLSide (fun vs H Q E h => ?_) (fun cdv A outer s H vs Q E hr h => ?_)
  · obtain ⟨a, b, c, d, ax, ay, bx, by', cx, cy, dx, dy, rfl, _⟩ := h
    rfl
  · obtain ⟨a, b, c, d, ax, ay, bx, by', cx, cy, dx, dy, rfl, ha, hb, hc, hd, six, dd, t, q⟩ := h
    have nd := scLSide.nd
    have z := sg_small (vol ax ay bx by' cx cy dx dy)
    refine ⟨_, (pss_cons (ps_set (i := 4) nd rfl (.inl rfl) (pe_call GA hr (by rfl) gA kA bA .nil pass0 (pa_cons (pv 0) (pa_cons (pv 1) (pa_cons (pv 2) pa_nil))))) (pss_cons (ps_if (pt_cmpR op_isN (pv 4) pe_non (nomark _)) pss_never pss_nil) (pss_cons (ps_expr (pe_call GC hr (by rfl) gC kC bC .nil pass0 (pa_cons (pv 3) (pa_cons pe_str pa_nil)))) (pss_cons (ps_if (pt_cmpR op_eq (pv 4) pe_int (nomark _)) (pss_one ps_never) pss_nil) (pss_one (ps_ret (pe_op op_mul (pe_call GS hr (by rfl) gS kS bS .nil pass0 (pa_cons (pe_call GH hr (by rfl) gH kH bH .nil pass0 (pa_cons (pv 0) (pa_cons (pv 1) (pa_cons (pv 2) (pa_cons (pv 3) pa_nil))))) pa_nil)) (pe_call GS hr (by rfl) gS kS bS .nil pass0 (pa_cons (pv 4) pa_nil))))))))), ?_⟩
    exact ⟨_, rfl, _, rfl, _, rfl, a, b, c, ax, ay, bx, by', cx, cy, rfl, ha, hb, hc, six.a, six.b, six.c, _, rfl, rfl, _, rfl, _, rfl, _, _, _, _, rfl, hd, dd, _, rfl, rfl, _, rfl, itf (tri_ne t) ⟨_, rfl, _, rfl, _, rfl, _, rfl, a, b, c, d, ax, ay, bx, by', cx, cy, dx, dy, rfl, ha, hb, hc, hd, six, dd, True.intro, fun H' s' => ⟨vol ax ay bx by' cx cy dx dy, rfl, _, rfl, tri ax ay bx by' cx cy, rfl, _, _, rfl, rfl, .inl ⟨by omega, by omega⟩, q _ s'⟩⟩⟩
theorem ok_inc {f fL : Addr} {fd fdL : FuncData} {k : Nat} (F : Fun K "in_circle" "in_circle" sInC f fd)
    (GL : FnOk P w K mg base CX0 (k + 1) fL fdL ["a", "b", "c", "d"] (sp4 K (fun ax ay bx by' cx cy _ _ => tri ax ay bx by' cx cy ≠ 0) fun ax ay bx by' cx cy dx dy => .int (lsd ax ay bx by' cx cy dx dy))) (gL : mg "lift_side" = some (.ref fL)) (kL : PySem.W.keepIn K (.ref fL) = true) (bL : Binds K fdL ["a", "b", "c", "d"] []) :
    FnOk P w K mg base CX0 (k + 2) f fd ["a", "b", "c", "d"] (sp4 K (fun ax ay bx by' cx cy _ _ => tri ax ay bx by' cx cy ≠ 0) fun ax ay bx by' cx cy dx dy => .int (-lsd ax ay bx by' cx cy dx dy)) := by
  refine F.ok scInC (fun vs H Q E h => ?_) (fun cdv A outer s H vs Q E hr h => ?_)
  · obtain ⟨a, b, c, d, ax, ay, bx, by', cx, cy, dx, dy, rfl, _⟩ := h
    rfl
  · obtain ⟨a, b, c, d, ax, ay, bx, by', cx, cy, dx, dy, rfl, ha, hb, hc, hd, six, dd, t, q⟩ := h
    refine ⟨_, pss_one (ps_ret (pe_un un_neg (pe_call GL hr (by rfl) gL kL bL .nil pass0 (pa_cons (pv 0) (pa_cons (pv 1) (pa_cons (pv 2) (pa_cons (pv 3) pa_nil))))))), ?_⟩
    exact ⟨_, rfl, _, rfl, _, rfl, _, rfl, a, b, c, d, ax, ay, bx, by', cx, cy, dx, dy, rfl, ha, hb, hc, hd, six, dd, t, fun H' s' => ⟨_, rfl, q _ s'⟩⟩
def spSquare (K : PySem.W.Frag) : Sp := fun vs H Q _ => ∃ (p s : Addr) (x y d u v : Int), vs = [.ref p, .ref s] ∧ Pla H p x y d ∧ PlOk x y d ∧ Sit H s u v ∧ Bd 1000000 u v ∧
  newRes H Q (.tup [.int (spread x y d u v / gcf (spread x y d u v) (d * d)), .int (d * d / gcf (spread x y d u v) (d * d))])
theorem ok_square {f fC fCp fSp fF : Addr} {fd fdC fdCp fdSp fdF : FuncData} {k : Nat} (F : Fun K "square" "square" sSquare f fd)
    (GC : FnOk P w K mg base CX0 (k + 1) fC fdC ["value", "name"] spCheck) (gC : mg "check_site" = some (.ref fC)) (kC : PySem.W.keepIn K (.ref fC) = true) (bC : Binds K fdC ["value", "name"] []) (GCp : FnOk P w K mg base CX0 (k + 1) fCp fdCp ["value", "name"] spCheckP) (gCp : mg "check_place" = some (.ref fCp)) (kCp : PySem.W.keepIn K (.ref fCp) = true) (bCp : Binds K fdCp ["value", "name"] []) (GSp : FnOk P w K mg base CX0 (k + 1) fSp fdSp ["place", "site"] spSpread) (gSp : mg "spread_square" = some (.ref fSp)) (kSp : PySem.W.keepIn K (.ref fSp) = true) (bSp : Binds K fdSp ["place", "site"] []) (GF : FnOk P w K mg base CX0 (k + 1) fF fdF ["top", "bottom"] spFrac) (gF : mg "fraction" = some (.ref fF)) (kF : PySem.W.keepIn K (.ref fF) = true) (bF : Binds K fdF ["top", "bottom"] []) :
    FnOk P w K mg base CX0 (k + 2) f fd ["place", "site"] (spSquare K) := by
  refine F.ok scSquare (fun vs H Q E h => ?_) (fun cdv A outer s H vs Q E hr h => ?_)
  · obtain ⟨p, s, x, y, d, u, v, rfl, _⟩ := h
    rfl
  · obtain ⟨p, s, x, y, d, u, v, rfl, hp, po, hs, ds, q⟩ := h
    refine ⟨_, (pss_cons (ps_expr (pe_call GCp hr (by rfl) gCp kCp bCp .nil pass0 (pa_cons (pv 0) (pa_cons pe_str pa_nil)))) (pss_cons (ps_expr (pe_call GC hr (by rfl) gC kC bC .nil pass0 (pa_cons (pv 1) (pa_cons pe_str pa_nil)))) (pss_one (ps_ret (pe_call GF hr (by rfl) gF kF bF .nil pass0 (pa_cons (pe_call GSp hr (by rfl) gSp kSp bSp .nil pass0 (pa_cons (pv 0) (pa_cons (pv 1) pa_nil))) (pa_cons (pe_op op_sq (pe_ix ix_tup (pv 0) pe_int (fun _ _ => rfl)) pe_int) pa_nil))))))), ?_⟩
    exact ⟨_, rfl, _, _, _, _, _, rfl, hp, po, _, rfl, _, _, _, _, rfl, hs, ds, _, rfl, _, rfl, p, s, x, y, d, u, v, rfl, hp, po, hs, ds, _, rfl, _, _, _, _, rfl, rfl, SqT.of hp, a32_ _ _ _, _, _, rfl, rfl, ⟨rfl, nb_up po.bits.2.2 (by decide)⟩, _, _, rfl, sq_pos (by have := po.d1; omega), nb_up (wide_lt po.bits.2.2 po.bits.2.2) (by decide), q⟩
def spNearer (K : PySem.W.Frag) : Sp := fun vs H Q _ => ∃ (p s t : Addr) (x y d u v u2 v2 : Int), vs = [.ref p, .ref s, .ref t] ∧ Pla H p x y d ∧ PlOk x y d ∧ Sit H s u v ∧ Bd 1000000 u v ∧ Sit H t u2 v2 ∧ Bd 1000000 u2 v2 ∧
  Q (.int (sg (spread x y d u v - spread x y d u2 v2))) H
theorem ok_nearer {f fC fCp fSp fS : Addr} {fd fdC fdCp fdSp fdS : FuncData} {k : Nat} (F : Fun K "nearer" "nearer" sNearer f fd)
    (GC : FnOk P w K mg base CX0 (k + 1) fC fdC ["value", "name"] spCheck) (gC : mg "check_site" = some (.ref fC)) (kC : PySem.W.keepIn K (.ref fC) = true) (bC : Binds K fdC ["value", "name"] []) (GCp : FnOk P w K mg base CX0 (k + 1) fCp fdCp ["value", "name"] spCheckP) (gCp : mg "check_place" = some (.ref fCp)) (kCp : PySem.W.keepIn K (.ref fCp) = true) (bCp : Binds K fdCp ["value", "name"] []) (GSp : FnOk P w K mg base CX0 (k + 1) fSp fdSp ["place", "site"] spSpread) (gSp : mg "spread_square" = some (.ref fSp)) (kSp : PySem.W.keepIn K (.ref fSp) = true) (bSp : Binds K fdSp ["place", "site"] []) (GS : FnOk P w K mg base CX0 (k + 1) fS fdS ["number"] spSign) (gS : mg "sign" = some (.ref fS)) (kS : PySem.W.keepIn K (.ref fS) = true) (bS : Binds K fdS ["number"] []) :
    FnOk P w K mg base CX0 (k + 2) f fd ["place", "a", "b"] (spNearer K) := by
  refine F.ok scNearer (fun vs H Q E h => ?_) (fun cdv A outer s H vs Q E hr h => ?_)
  · obtain ⟨p, s, t, x, y, d, u, v, u2, v2, rfl, _⟩ := h
    rfl
  · obtain ⟨p, s, t, x, y, d, u, v, u2, v2, rfl, hp, po, hs, ds, ht, dt, q⟩ := h
    refine ⟨_, (pss_cons (ps_expr (pe_call GCp hr (by rfl) gCp kCp bCp .nil pass0 (pa_cons (pv 0) (pa_cons pe_str pa_nil)))) (pss_cons (ps_expr (pe_call GC hr (by rfl) gC kC bC .nil pass0 (pa_cons (pv 1) (pa_cons pe_str pa_nil)))) (pss_cons (ps_expr (pe_call GC hr (by rfl) gC kC bC .nil pass0 (pa_cons (pv 2) (pa_cons pe_str pa_nil)))) (pss_one (ps_ret (pe_call GS hr (by rfl) gS kS bS .nil pass0 (pa_cons (pe_op op_sub (pe_call GSp hr (by rfl) gSp kSp bSp .nil pass0 (pa_cons (pv 0) (pa_cons (pv 1) pa_nil))) (pe_call GSp hr (by rfl) gSp kSp bSp .nil pass0 (pa_cons (pv 0) (pa_cons (pv 2) pa_nil)))) pa_nil))))))), ?_⟩
    exact ⟨_, rfl, _, _, _, _, _, rfl, hp, po, _, rfl, _, _, _, _, rfl, hs, ds, _, rfl, _, _, _, _, rfl, ht, dt, _, rfl, _, rfl, p, s, x, y, d, u, v, rfl, hp, po, hs, ds, _, rfl, _, rfl, p, t, x, y, d, u2, v2, rfl, hp, po, ht, dt, _, _, rfl, rfl, _, rfl, q⟩
end
/-! ### what raises NoCircle -/
abbrev sInit : Stmt := match topS 7 with
  | .ClassDef _ _ _ body _ _ _ _ _ _ _ => body.getD 0 (.Pass ⟨0, 0, 0, 0⟩)
  | s => s
theorem scInit : FnScope ["self"] ["self"] (defScope sInit) := ⟨rfl, rfl, rfl, by decide +kernel, rfl, by decide +kernel, by decide +kernel⟩
section
variable {P : Program} {w : World} {K : PySem.W.Frag} {mg : Str → Option Value} {base : Heap}
theorem ok_init {f : Addr} {fd : FuncData} {k : Nat} (F : Fun K "__init__" "NoCircle.__init__" sInit f fd) : FnOk P w K mg base CX0 (k + 1) f fd ["self"] spPass := by
  refine F.ok scInit (fun vs H Q E h => ?_) (fun cdv A outer s H vs Q E hr h => ?_)
  · obtain ⟨a, rfl, _⟩ := h
    rfl
  · obtain ⟨a, rfl, q⟩ := h
    exact ⟨_, pss_one ps_pass, q⟩
/-- three sites in a row: NoCircle -/
def spRow3 (C : Addr) : Sp := fun vs H _ E => ∃ (a b c : Addr) (ax ay bx by' cx cy : Int), vs = [.ref a, .ref b, .ref c] ∧ Sit H a ax ay ∧ Sit H b bx by' ∧ Sit H c cx cy ∧ Six ax ay bx by' cx cy ∧ tri ax ay bx by' cx cy = 0 ∧ E (.ref C) none H
def spRow4 (C : Addr) : Sp := fun vs H _ E => ∃ (a b c d : Addr) (ax ay bx by' cx cy dx dy : Int), vs = [.ref a, .ref b, .ref c, .ref d] ∧ Sit H a ax ay ∧ Sit H b bx by' ∧ Sit H c cx cy ∧ Sit H d dx dy ∧ Six ax ay bx by' cx cy ∧ Bd 1000000 dx dy ∧ tri ax ay bx by' cx cy = 0 ∧ E (.ref C) none H
theorem ok_circleX {f fA fI C : Addr} {fd fdA fdI : FuncData} {k : Nat} (F : Fun K "circle" "circle" sCircle f fd)
    (GA : FnOk P w K mg base CX0 (k + 2) fA fdA ["a", "b", "c"] (sp3 K fun ax ay bx by' cx cy => .int (tri ax ay bx by' cx cy))) (gA : mg "turn_of_sites" = some (.ref fA)) (kA : PySem.W.keepIn K (.ref fA) = true) (bA : Binds K fdA ["a", "b", "c"] []) (T : PassC K C fI) (GI : FnOk P w K mg base CX0 (k + 1) fI fdI ["self"] spPass) (bI : Binds K fdI ["self"] []) (gN : mg "NoCircle" = some (.ref C)) : FnOk P w K mg base (L2.CX P w) (k + 3) f fd ["a", "b", "c"] (spRow3 C) := by
  refine F.okX scCircle (fun vs H Q E h => ?_) (fun cdv A outer s H vs Q E hr h => ?_)
  · obtain ⟨a, b, c, ax, ay, bx, by', cx, cy, rfl, _⟩ := h
    rfl
  · obtain ⟨a, b, c, ax, ay, bx, by', cx, cy, rfl, ha, hb, hc, six, t, q⟩ := h
    have nd := scCircle.nd
    refine ⟨_, (pss_cons (ps_set (i := 3) nd rfl (.inl rfl) (pe_call GA (hr.mono (by omega)) (by rfl) gA kA bA .nil pass0 (pa_cons (pv 0) (pa_cons (pv 1) (pa_cons (pv 2) pa_nil))))) (pss_cons (ps_if (pt_cmpR op_isN (pv 3) pe_non (nomark _)) pss_never pss_nil) (pss_cons (ps_if (pt_cmpR op_eq (pv 3) pe_int (nomark _)) (pss_one (ps_raise rfl (takes_of (E := E) rfl rfl rfl rfl) (pmk_pass T GI hr bI pass0 (by rfl) gN))) pss_nil) pss_never))), ?_⟩
    exact ⟨_, rfl, _, rfl, _, rfl, a, b, c, ax, ay, bx, by', cx, cy, rfl, ha, hb, hc, six.a, six.b, six.c, _, rfl, rfl, _, rfl, _, rfl, rfl, _, rfl, itt (congrArg V.int t) q⟩
theorem ok_lsideX {f fA fC fI C : Addr} {fd fdA fdC fdI : FuncData} {k : Nat} (F : Fun K "lift_side" "lift_side" sLSide f fd)
    (GA : FnOk P w K mg base CX0 (k + 2) fA fdA ["a", "b", "c"] (sp3 K fun ax ay bx by' cx cy => .int (tri ax ay bx by' cx cy))) (gA : mg "turn_of_sites" = some (.ref fA)) (kA : PySem.W.keepIn K (.ref fA) = true) (bA : Binds K fdA ["a", "b", "c"] []) (GC : FnOk P w K mg base CX0 (k + 2) fC fdC ["value", "name"] spCheck) (gC : mg "check_site" = some (.ref fC)) (kC : PySem.W.keepIn K (.ref fC) = true) (bC : Binds K fdC ["value", "name"] []) (T : PassC K C fI) (GI : FnOk P w K mg base CX0 (k + 1) fI fdI ["self"] spPass) (bI : Binds K fdI ["self"] []) (gN : mg "NoCircle" = some (.ref C)) : FnOk P w K mg base (L2.CX P w) (k + 3) f fd ["a", "b", "c", "d"] (spRow4 C) := by
  refine F.okX scLSide (fun vs H Q E h => ?_) (fun cdv A outer s H vs Q E hr h => ?_)
  · obtain ⟨a, b, c, d, ax, ay, bx, by', cx, cy, dx, dy, rfl, _⟩ := h
    rfl
  · obtain ⟨a, b, c, d, ax, ay, bx, by', cx, cy, dx, dy, rfl, ha, hb, hc, hd, six, dd, t, q⟩ := h
    have nd := scLSide.nd
    refine ⟨_, (pss_cons (ps_set (i := 4) nd rfl (.inl rfl) (pe_call GA (hr.mono (by omega)) (by rfl) gA kA bA .nil pass0 (pa_cons (pv 0) (pa_cons (pv 1) (pa_cons (pv 2) pa_nil))))) (pss_cons (ps_if (pt_cmpR op_isN (pv 4) pe_non (nomark _)) pss_never pss_nil) (pss_cons (ps_expr (pe_call GC (hr.mono (by omega)) (by rfl) gC kC bC .nil pass0 (pa_cons (pv 3) (pa_cons pe_str pa_nil)))) (pss_cons (ps_if (pt_cmpR op_eq (pv 4) pe_int (nomark _)) (pss_one (ps_raise rfl (takes_of (E := E) rfl rfl rfl rfl) (pmk_pass T GI hr bI pass0 (by rfl) gN))) pss_nil) pss_never)))), ?_⟩
    exact ⟨_, rfl, _, rfl, _, rfl, a, b, c, ax, ay, bx, by', cx, cy, rfl, ha, hb, hc, six.a, six.b, six.c, _, rfl, rfl, _, rfl, _, rfl, _, _, _, _, rfl, hd, dd, _, rfl, rfl, _, rfl, itt (congrArg V.int t) q⟩
theorem ok_incX {f fL C : Addr} {fd fdL : FuncData} {k : Nat} (F : Fun K "in_circle" "in_circle" sInC f fd) (GL : FnOk P w K mg base (L2.CX P w) (k) fL fdL ["a", "b", "c", "d"] (spRow4 C)) (gL : mg "lift_side" = some (.ref fL)) (kL : PySem.W.keepIn K (.ref fL) = true) (bL : Binds K fdL ["a", "b", "c", "d"] []) : FnOk P w K mg base (L2.CX P w) (k + 1) f fd ["a", "b", "c", "d"] (spRow4 C) := by
  refine F.okX scInC (fun vs H Q E h => ?_) (fun cdv A outer s H vs Q E hr h => ?_)
  · obtain ⟨a, b, c, d, ax, ay, bx, by', cx, cy, dx, dy, rfl, _⟩ := h
    rfl
  · obtain ⟨a, b, c, d, ax, ay, bx, by', cx, cy, dx, dy, rfl, ha, hb, hc, hd, six, dd, t, q⟩ := h
    refine ⟨_, pss_one (ps_ret (pe_un un_neg (pe_call GL hr (by rfl) gL kL bL .nil (passes_call (takes_of (E := E) rfl rfl rfl rfl) fun _ _ _ _ h => h) (pa_cons (pv 0) (pa_cons (pv 1) (pa_cons (pv 2) (pa_cons (pv 3) pa_nil))))))), ?_⟩
    exact ⟨_, rfl, _, rfl, _, rfl, _, rfl, a, b, c, d, ax, ay, bx, by', cx, cy, dx, dy, rfl, ha, hb, hc, hd, six, dd, t, q⟩
end
/-! ### values that are no sites -/
section
variable {P : Program} {w : World} {K : PySem.W.Frag} {mg : Str → Option Value} {base : Heap}
/-- of the kind int: a number or a bool -/
inductive IntK (K : PySem.W.Frag) (H : Hp) : V → Prop where
  | int (n : Int) : IntK K H (.int n)
  | bl (b : Bool) : IntK K H (.bl b)
/-- of another kind -/
def NoInt (K : PySem.W.Frag) (H : Hp) (x : V) : Prop := ∃ t, TyX K H x t ∧ PySem.W.kitOne K t (.type "int") = some false
theorem IntK.ty {K : PySem.W.Frag} {H : Hp} {x : V} (h : IntK K H x) : ∃ t, TyX K H x t ∧ PySem.W.kitOne K t (.type "int") = some true := by
  cases h with
  | int n => exact ⟨_, .base (.int n), kit_ty (by decide +kernel)⟩
  | bl b => exact ⟨_, .base (.bl b), kit_ty (by decide +kernel)⟩
/-- what is no site -/
inductive Odd (K : PySem.W.Frag) (H : Hp) : V → Prop where
  | tup {x : V} {t : Value} (h : TyX K H x t) (e : PySem.W.kitOne K t (.type "tuple") = some false) : Odd K H x
  | len {t : Addr} {xs : List V} (h : SqT K H t xs) (ht : TyX K H (.ref t) (.type "tuple")) (l : xs.length ≠ 2) : Odd K H (.ref t)
  | u0 {t : Addr} {u v : V} (h : SqT K H t [u, v]) (ht : TyX K H (.ref t) (.type "tuple")) (c : NoInt K H u) : Odd K H (.ref t)
  | v0 {t : Addr} {u v : V} (h : SqT K H t [u, v]) (ht : TyX K H (.ref t) (.type "tuple")) (c : IntK K H u) (d : NoInt K H v) : Odd K H (.ref t)
  | u1 {t : Addr} {b : Bool} {v : V} (h : SqT K H t [.bl b, v]) (ht : TyX K H (.ref t) (.type "tuple")) (d : IntK K H v) : Odd K H (.ref t)
  | v1 {t : Addr} {n : Int} {b : Bool} (h : SqT K H t [.int n, .bl b]) (ht : TyX K H (.ref t) (.type "tuple")) : Odd K H (.ref t)
  | far {t : Addr} {n m : Int} (h : SqT K H t [.int n, .int m]) (ht : TyX K H (.ref t) (.type "tuple")) (d : ¬ (-1000000 ≤ n ∧ n ≤ 1000000 ∧ -1000000 ≤ m ∧ m ≤ 1000000)) : Odd K H (.ref t)
/-- x is True, x is False, of a number or a bool -/
theorem op_isG {X : Cx} : OpR X (compareOp .Is) (fun x y H Q => ∃ c, y = .bl c ∧ ((∃ n : Int, x = .int n ∧ Q (.bl false) H) ∨ ∃ b, x = .bl b ∧ Q (.bl (decide (b = c))) H)) := by
  intro pins s σ H x y v u Q I rx ry h
  obtain ⟨c, rfl, h⟩ := h
  rcases h with ⟨n, rfl, q⟩ | ⟨b, rfl, q⟩
  · exact op_isIB pins s σ H _ _ v u Q I rx ry ⟨n, c, rfl, rfl, q⟩
  · exact op_is_bl pins s σ H _ _ v u Q I rx ry ⟨b, c, rfl, rfl, q⟩
theorem tyTup {K : PySem.W.Frag} {H : Hp} {x : V} {t : Value} (h : TyX K H x t) (P : Bool → Prop) (p : ∀ b, P b) (e : ∃ b, PySem.W.kitOne K t (.type "tuple") = some b) : ∃ b, PySem.W.kitOne K t (.type "tuple") = some b ∧ P b := e.elim fun b e => ⟨b, e, p b⟩
theorem kBI (K : PySem.W.Frag) : PySem.W.kitOne K (.type "bool") (.type "int") = some true := kit_ty (by decide +kernel)
theorem nonT {K : PySem.W.Frag} {H : Hp} : TyX K H .non (.type "NoneType") := .base .non
theorem kNT (K : PySem.W.Frag) : PySem.W.kitOne K (.type "NoneType") (.type "tuple") = some false := kit_ty (by decide +kernel)
def spNoSite (K : PySem.W.Frag) : Sp := fun vs H Q _ => ∃ x, vs = [x] ∧ Odd K H x ∧ Q (.bl false) H
theorem ok_nosite {f : Addr} {fd : FuncData} {k : Nat} (F : Fun K "is_site" "is_site" sIsSite f fd) (misinstance : mg "isinstance" = none) (mtuple : mg "tuple" = none) (mint : mg "int" = none) (mlen : mg "len" = none) : FnOk P w K mg base CX0 (k + 1) f fd ["value"] (spNoSite K) := by
  refine F.ok scIsSite (fun vs H Q E h => ?_) (fun cdv A outer s H vs Q E hr h => ?_)
  · obtain ⟨x, rfl, _⟩ := h
    rfl
  · obtain ⟨x, rfl, hx, q⟩ := h
    have nd := scIsSite.nd
    refine ⟨_, (pss_cons (ps_if (PW.pt (pw_or (pt_not (pt_val (pe_callB call_isi (by rfl) misinstance (by decide +kernel) (pa_cons (pv 0) (pa_cons (pe_bltn (v := .ty "tuple") (by rfl) mtuple (by decide +kernel) rfl) pa_nil))))) (pw_or1 (pt_cmpR op_ne (pe_callB call_len_seq (by rfl) mlen (by decide +kernel) (pa_cons (pv 0) pa_nil)) pe_int (nomark _))))) (pss_one (ps_ret pe_bl)) pss_nil) (pss_cons (ps_asg (pv 0) (pg_tup (by rfl) (pgs_cons (pg_name (i := 1) nd rfl (.inl rfl)) (pgs_cons (pg_name (i := 2) nd rfl (.inl rfl)) pgs_nil)))) (pss_cons (ps_if (PW.pt (pw_or (pt_not (pt_val (pe_callB call_isi (by rfl) misinstance (by decide +kernel) (pa_cons (pv 1) (pa_cons (pe_bltn (v := .ty "int") (by rfl) mint (by decide +kernel) rfl) pa_nil))))) (pw_or1 (pt_not (pt_val (pe_callB call_isi (by rfl) misinstance (by decide +kernel) (pa_cons (pv 2) (pa_cons (pe_bltn (v := .ty "int") (by rfl) mint (by decide +kernel) rfl) pa_nil)))))))) (pss_one (ps_ret pe_bl)) pss_nil) (pss_cons (ps_if (PW.pt (pw_or (pt_cmpR op_isG (pv 1) pe_bl (nomark _)) (pw_or (pt_cmpR op_isG (pv 1) pe_bl (nomark _)) (pw_or (pt_cmpR op_isG (pv 2) pe_bl (nomark _)) (pw_or1 (pt_cmpR op_isG (pv 2) pe_bl (nomark _))))))) (pss_one (ps_ret pe_bl)) pss_nil) (pss_cons (ps_if (PW.pt (pw_or (pt_cmpR op_gt (pv 1) pe_int (nomark _)) (pw_or (pt_cmpR op_lt (pv 1) pe_neg (nomark _)) (pw_or (pt_cmpR op_gt (pv 2) pe_int (nomark _)) (pw_or1 (pt_cmpR op_lt (pv 2) pe_neg (nomark _))))))) (pss_one (ps_ret pe_bl)) pss_nil) (pss_one (ps_ret pe_bl))))))), ?_⟩
    cases hx with
    | tup ht e => exact ⟨_, rfl, _, _, _, _, _, rfl, .ty "tuple", ht, e, _, rfl, q⟩
    | @len t xs h ht l =>
      refine ⟨_, rfl, _, _, _, _, _, rfl, .ty "tuple", ht, kTT K, _, rfl, _, rfl, _, _, rfl, .inr h, rfl, _, rfl, ?_⟩
      have e : decide (V.int (xs.length : Nat) = V.int 2) = false := decide_eq_false fun e => l (by injection e with e; omega)
      show if (!decide (V.int (xs.length : Nat) = V.int 2)) = true then Q (.bl false) H else _
      rw [e]
      exact q
    | u0 h ht c =>
      obtain ⟨_, hc, ec⟩ := c
      exact ⟨_, rfl, _, _, _, _, _, rfl, .ty "tuple", ht, kTT K, _, rfl, _, rfl, _, _, rfl, .inr h, rfl, _, rfl, _, rfl, _, _, rfl, h, rfl, _, _, rfl, _, _, rfl, rfl, _, rfl, _, _, _, _, _, rfl, .ty "int", hc, ec, _, rfl, q⟩
    | v0 h ht c d =>
      obtain ⟨_, hu, eu⟩ := c.ty
      obtain ⟨_, hv, ev⟩ := d
      exact ⟨_, rfl, _, _, _, _, _, rfl, .ty "tuple", ht, kTT K, _, rfl, _, rfl, _, _, rfl, .inr h, rfl, _, rfl, _, rfl, _, _, rfl, h, rfl, _, _, rfl, _, _, rfl, rfl, _, rfl, _, _, _, _, _, rfl, .ty "int", hu, eu, _, rfl, _, rfl, _, _, _, _, _, rfl, .ty "int", hv, ev, _, rfl, q⟩
    | @u1 t b v h ht d =>
      obtain ⟨_, hv, ev⟩ := d.ty
      cases b with
      | true => exact ⟨_, rfl, _, _, _, _, _, rfl, .ty "tuple", ht, kTT K, _, rfl, _, rfl, _, _, rfl, .inr h, rfl, _, rfl, _, rfl, _, _, rfl, h, rfl, _, _, rfl, _, _, rfl, rfl, _, rfl, _, _, _, _, _, rfl, .ty "int", .base (.bl _), kBI K, _, rfl, _, rfl, _, _, _, _, _, rfl, .ty "int", hv, ev, _, rfl, _, rfl, _, rfl, .inr ⟨_, rfl, _, rfl, itt (by decide) q⟩⟩
      | false => exact ⟨_, rfl, _, _, _, _, _, rfl, .ty "tuple", ht, kTT K, _, rfl, _, rfl, _, _, rfl, .inr h, rfl, _, rfl, _, rfl, _, _, rfl, h, rfl, _, _, rfl, _, _, rfl, rfl, _, rfl, _, _, _, _, _, rfl, .ty "int", .base (.bl _), kBI K, _, rfl, _, rfl, _, _, _, _, _, rfl, .ty "int", hv, ev, _, rfl, _, rfl, _, rfl, .inr ⟨_, rfl, _, rfl, itf (by decide) ⟨_, rfl, _, rfl, .inr ⟨_, rfl, _, rfl, itt (by decide) q⟩⟩⟩⟩
    | @v1 t n b h ht =>
      cases b with
      | true => exact ⟨_, rfl, _, _, _, _, _, rfl, .ty "tuple", ht, kTT K, _, rfl, _, rfl, _, _, rfl, .inr h, rfl, _, rfl, _, rfl, _, _, rfl, h, rfl, _, _, rfl, _, _, rfl, rfl, _, rfl, _, _, _, _, _, rfl, .ty "int", .base (.int _), kII K, _, rfl, _, rfl, _, _, _, _, _, rfl, .ty "int", .base (.bl _), kBI K, _, rfl, _, rfl, _, rfl, .inl ⟨_, rfl, _, rfl, _, rfl, _, rfl, .inl ⟨_, rfl, _, rfl, _, rfl, _, rfl, .inr ⟨_, rfl, _, rfl, itt (by decide) q⟩⟩⟩⟩
      | false => exact ⟨_, rfl, _, _, _, _, _, rfl, .ty "tuple", ht, kTT K, _, rfl, _, rfl, _, _, rfl, .inr h, rfl, _, rfl, _, rfl, _, _, rfl, h, rfl, _, _, rfl, _, _, rfl, rfl, _, rfl, _, _, _, _, _, rfl, .ty "int", .base (.int _), kII K, _, rfl, _, rfl, _, _, _, _, _, rfl, .ty "int", .base (.bl _), kBI K, _, rfl, _, rfl, _, rfl, .inl ⟨_, rfl, _, rfl, _, rfl, _, rfl, .inl ⟨_, rfl, _, rfl, _, rfl, _, rfl, .inr ⟨_, rfl, _, rfl, itf (by decide) ⟨_, rfl, _, rfl, .inr ⟨_, rfl, _, rfl, itt (by decide) q⟩⟩⟩⟩⟩⟩
    | @far t n m h ht d => exact ⟨_, rfl, _, _, _, _, _, rfl, .ty "tuple", ht, kTT K, _, rfl, _, rfl, _, _, rfl, .inr h, rfl, _, rfl, _, rfl, _, _, rfl, h, rfl, _, _, rfl, _, _, rfl, rfl, _, rfl, _, _, _, _, _, rfl, .ty "int", .base (.int _), kII K, _, rfl, _, rfl, _, _, _, _, _, rfl, .ty "int", .base (.int _), kII K, _, rfl, _, rfl, _, rfl, .inl ⟨_, rfl, _, rfl, _, rfl, _, rfl, .inl ⟨_, rfl, _, rfl, _, rfl, _, rfl, .inl ⟨_, rfl, _, rfl, _, rfl, _, rfl, .inl ⟨_, rfl, _, rfl, _, rfl, _, _, rfl, rfl, _, rfl, ite2 (fun _ => q) fun h1 => ⟨_, rfl, _, _, rfl, rfl, _, rfl, ite2 (fun _ => q) fun h2 => ⟨_, rfl, _, _, rfl, rfl, _, rfl, ite2 (fun _ => q) fun h3 => ⟨_, rfl, _, _, rfl, rfl, _, rfl, ite2 (fun _ => q) fun h4 => absurd ⟨by simp at h2; omega, by simp at h1; omega, by simp at h4; omega, by simp at h3; omega⟩ d⟩⟩⟩⟩⟩⟩⟩⟩
end
abbrev sThree : Stmt := topS 26
theorem scThree : FnScope ["a", "b", "c"] ["a", "b", "c"] (defScope sThree) := ⟨rfl, rfl, rfl, by decide +kernel, rfl, by decide +kernel, by decide +kernel⟩
section
variable {P : Program} {w : World} {K : PySem.W.Frag} {mg : Str → Option Value} {base : Heap}
theorem Odd.ty {K : PySem.W.Frag} {H : Hp} {x : V} (h : Odd K H x) : ∃ t b, TyX K H x t ∧ PySem.W.kitOne K t (.type "tuple") = some b := by
  cases h with
  | tup ht e => exact ⟨_, _, ht, e⟩
  | len h ht l => exact ⟨_, _, ht, kTT K⟩
  | u0 h ht => exact ⟨_, _, ht, kTT K⟩
  | v0 h ht => exact ⟨_, _, ht, kTT K⟩
  | u1 h ht => exact ⟨_, _, ht, kTT K⟩
  | v1 h ht => exact ⟨_, _, ht, kTT K⟩
  | far h ht => exact ⟨_, _, ht, kTT K⟩
/-- of three values one is no site: the first such one's name -/
inductive Rf3 (K : PySem.W.Frag) (H : Hp) : V → V → V → Str → Prop where
  | a {x : V} (h : Odd K H x) : Rf3 K H x .non .non "a"
  | b {p : Addr} {ax ay : Int} {y : V} (ha : Sit H p ax ay) (da : Bd 1000000 ax ay) (h : Odd K H y) : Rf3 K H (.ref p) y .non "b"
  | c {p q : Addr} {ax ay bx by' : Int} {z : V} (ha : Sit H p ax ay) (da : Bd 1000000 ax ay) (hb : Sit H q bx by') (db : Bd 1000000 bx by') (h : Odd K H z) : Rf3 K H (.ref p) (.ref q) z "c"
def spTosX (K : PySem.W.Frag) : Sp := fun vs H Q _ => ∃ x y z n, vs = [x, y, z] ∧ Rf3 K H x y z n ∧ Q .non H
theorem ok_tosX {f : Addr} {fd : FuncData} {k : Nat} (F : Fun K "turn_of_sites" "turn_of_sites" sToS f fd) (misinstance : mg "isinstance" = none) (mtuple : mg "tuple" = none) (mint : mg "int" = none) (mlen : mg "len" = none) : FnOk P w K mg base CX0 (k + 1) f fd ["a", "b", "c"] (spTosX K) := by
  refine F.ok scToS (fun vs H Q E h => ?_) (fun cdv A outer s H vs Q E hr h => ?_)
  · obtain ⟨x, y, z, n, rfl, _⟩ := h
    rfl
  · obtain ⟨x, y, z, n, rfl, hx, q⟩ := h
    have nd := scToS.nd
    refine ⟨_, (pss_cons (ps_if (PW.pt (pw_or (pt_not (pt_val (pe_callB call_isi (by rfl) misinstance (by decide +kernel) (pa_cons (pv 0) (pa_cons (pe_bltn (v := .ty "tuple") (by rfl) mtuple (by decide +kernel) rfl) pa_nil))))) (pw_or (pt_not (pt_val (pe_callB call_isi (by rfl) misinstance (by decide +kernel) (pa_cons (pv 1) (pa_cons (pe_bltn (v := .ty "tuple") (by rfl) mtuple (by decide +kernel) rfl) pa_nil))))) (pw_or1 (pt_not (pt_val (pe_callB call_isi (by rfl) misinstance (by decide +kernel) (pa_cons (pv 2) (pa_cons (pe_bltn (v := .ty "tuple") (by rfl) mtuple (by decide +kernel) rfl) pa_nil))))))))) (pss_one (ps_ret pe_non)) pss_nil) (pss_cons (ps_if (PW.pt (pw_or (pt_cmpR op_ne (pe_callB call_len_seq (by rfl) mlen (by decide +kernel) (pa_cons (pv 0) pa_nil)) pe_int (nomark _)) (pw_or (pt_cmpR op_ne (pe_callB call_len_seq (by rfl) mlen (by decide +kernel) (pa_cons (pv 1) pa_nil)) pe_int (nomark _)) (pw_or1 (pt_cmpR op_ne (pe_callB call_len_seq (by rfl) mlen (by decide +kernel) (pa_cons (pv 2) pa_nil)) pe_int (nomark _)))))) (pss_one (ps_ret pe_non)) pss_nil) (pss_cons (ps_asg (pv 0) (pg_tup (by rfl) (pgs_cons (pg_name (i := 3) nd rfl (.inl rfl)) (pgs_cons (pg_name (i := 4) nd rfl (.inl rfl)) pgs_nil)))) (pss_cons (ps_asg (pv 1) (pg_tup (by rfl) (pgs_cons (pg_name (i := 5) nd rfl (.inl rfl)) (pgs_cons (pg_name (i := 6) nd rfl (.inl rfl)) pgs_nil)))) (pss_cons (ps_asg (pv 2) (pg_tup (by rfl) (pgs_cons (pg_name (i := 7) nd rfl (.inl rfl)) (pgs_cons (pg_name (i := 8) nd rfl (.inl rfl)) pgs_nil)))) (pss_cons (ps_if (PW.pt (pw_or (pt_not (pt_val (pe_callB call_isi (by rfl) misinstance (by decide +kernel) (pa_cons (pv 3) (pa_cons (pe_bltn (v := .ty "int") (by rfl) mint (by decide +kernel) rfl) pa_nil))))) (pw_or (pt_not (pt_val (pe_callB call_isi (by rfl) misinstance (by decide +kernel) (pa_cons (pv 5) (pa_cons (pe_bltn (v := .ty "int") (by rfl) mint (by decide +kernel) rfl) pa_nil))))) (pw_or1 (pt_not (pt_val (pe_callB call_isi (by rfl) misinstance (by decide +kernel) (pa_cons (pv 7) (pa_cons (pe_bltn (v := .ty "int") (by rfl) mint (by decide +kernel) rfl) pa_nil))))))))) (pss_one (ps_ret pe_non)) pss_nil) (pss_cons (ps_if (PW.pt (pw_or (pt_not (pt_val (pe_callB call_isi (by rfl) misinstance (by decide +kernel) (pa_cons (pv 4) (pa_cons (pe_bltn (v := .ty "int") (by rfl) mint (by decide +kernel) rfl) pa_nil))))) (pw_or (pt_not (pt_val (pe_callB call_isi (by rfl) misinstance (by decide +kernel) (pa_cons (pv 6) (pa_cons (pe_bltn (v := .ty "int") (by rfl) mint (by decide +kernel) rfl) pa_nil))))) (pw_or1 (pt_not (pt_val (pe_callB call_isi (by rfl) misinstance (by decide +kernel) (pa_cons (pv 8) (pa_cons (pe_bltn (v := .ty "int") (by rfl) mint (by decide +kernel) rfl) pa_nil))))))))) (pss_one (ps_ret pe_non)) pss_nil) (pss_cons (ps_if (PW.pt (pw_or (pt_cmpR op_isG (pv 3) pe_bl (nomark _)) (pw_or (pt_cmpR op_isG (pv 3) pe_bl (nomark _)) (pw_or (pt_cmpR op_isG (pv 5) pe_bl (nomark _)) (pw_or (pt_cmpR op_isG (pv 5) pe_bl (nomark _)) (pw_or (pt_cmpR op_isG (pv 7) pe_bl (nomark _)) (pw_or1 (pt_cmpR op_isG (pv 7) pe_bl (nomark _))))))))) (pss_one (ps_ret pe_non)) pss_nil) (pss_cons (ps_if (PW.pt (pw_or (pt_cmpR op_isG (pv 4) pe_bl (nomark _)) (pw_or (pt_cmpR op_isG (pv 4) pe_bl (nomark _)) (pw_or (pt_cmpR op_isG (pv 6) pe_bl (nomark _)) (pw_or (pt_cmpR op_isG (pv 6) pe_bl (nomark _)) (pw_or (pt_cmpR op_isG (pv 8) pe_bl (nomark _)) (pw_or1 (pt_cmpR op_isG (pv 8) pe_bl (nomark _))))))))) (pss_one (ps_ret pe_non)) pss_nil) (pss_cons (ps_if (PW.pt (pw_or (pt_cmpR op_gt (pv 3) pe_int (nomark _)) (pw_or (pt_cmpR op_lt (pv 3) pe_neg (nomark _)) (pw_or (pt_cmpR op_gt (pv 5) pe_int (nomark _)) (pw_or1 (pt_cmpR op_lt (pv 5) pe_neg (nomark _))))))) (pss_one (ps_ret pe_non)) pss_nil) (pss_cons (ps_if (PW.pt (pw_or (pt_cmpR op_gt (pv 4) pe_int (nomark _)) (pw_or (pt_cmpR op_lt (pv 4) pe_neg (nomark _)) (pw_or (pt_cmpR op_gt (pv 6) pe_int (nomark _)) (pw_or1 (pt_cmpR op_lt (pv 6) pe_neg (nomark _))))))) (pss_one (ps_ret pe_non)) pss_nil) (pss_cons (ps_if (PW.pt (pw_or (pt_cmpR op_gt (pv 7) pe_int (nomark _)) (pw_or (pt_cmpR op_lt (pv 7) pe_neg (nomark _)) (pw_or (pt_cmpR op_gt (pv 8) pe_int (nomark _)) (pw_or1 (pt_cmpR op_lt (pv 8) pe_neg (nomark _))))))) (pss_one (ps_ret pe_non)) pss_nil) pss_never)))))))))))), ?_⟩
    cases hx with
    | a h =>
      obtain ⟨t, b, ht, e⟩ := h.ty
      cases b with
      | false => exact ⟨_, rfl, _, _, _, _, _, rfl, .ty "tuple", ht, e, _, rfl, q⟩
      | true => exact ⟨_, rfl, _, _, _, _, _, rfl, .ty "tuple", ht, e, _, rfl, _, rfl, _, _, _, _, _, rfl, .ty "tuple", nonT, kNT K, _, rfl, q⟩
    | b ha da h =>
      obtain ⟨t, b, ht, e⟩ := h.ty
      cases b with
      | false => exact ⟨_, rfl, _, _, _, _, _, rfl, .ty "tuple", .base (.tup ha), kTT K, _, rfl, _, rfl, _, _, _, _, _, rfl, .ty "tuple", ht, e, _, rfl, q⟩
      | true => exact ⟨_, rfl, _, _, _, _, _, rfl, .ty "tuple", .base (.tup ha), kTT K, _, rfl, _, rfl, _, _, _, _, _, rfl, .ty "tuple", ht, e, _, rfl, _, rfl, _, _, _, _, _, rfl, .ty "tuple", nonT, kNT K, _, rfl, q⟩
    | @c p0 q0 ax ay bx by' z0 ha da hb db hx =>
      obtain ⟨a1, a2, a3, a4⟩ := da
      obtain ⟨b1, b2, b3, b4⟩ := db
      cases hx with
      | tup ht e => exact ⟨_, rfl, _, _, _, _, _, rfl, .ty "tuple", .base (.tup ha), kTT K, _, rfl, _, rfl, _, _, _, _, _, rfl, .ty "tuple", .base (.tup hb), kTT K, _, rfl, _, rfl, _, _, _, _, _, rfl, .ty "tuple", ht, e, _, rfl, q⟩
      | @len t xs h ht l =>
        refine ⟨_, rfl, _, _, _, _, _, rfl, .ty "tuple", .base (.tup ha), kTT K, _, rfl, _, rfl, _, _, _, _, _, rfl, .ty "tuple", .base (.tup hb), kTT K, _, rfl, _, rfl, _, _, _, _, _, rfl, .ty "tuple", ht, kTT K, _, rfl, _, rfl, _, _, rfl, .inr (SqT.of ha), rfl, _, rfl, _, rfl, _, _, rfl, .inr (SqT.of hb), rfl, _, rfl, _, rfl, _, _, rfl, .inr h, rfl, _, rfl, ?_⟩
        have e : decide (V.int (xs.length : Nat) = V.int 2) = false := decide_eq_false fun e => l (by injection e with e; omega)
        show if (!decide (V.int (xs.length : Nat) = V.int 2)) = true then Q .non H else _
        rw [e]
        exact q
      | u0 h ht c =>
        obtain ⟨_, hc, ec⟩ := c
        exact ⟨_, rfl, _, _, _, _, _, rfl, .ty "tuple", .base (.tup ha), kTT K, _, rfl, _, rfl, _, _, _, _, _, rfl, .ty "tuple", .base (.tup hb), kTT K, _, rfl, _, rfl, _, _, _, _, _, rfl, .ty "tuple", ht, kTT K, _, rfl, _, rfl, _, _, rfl, .inr (SqT.of ha), rfl, _, rfl, _, rfl, _, _, rfl, .inr (SqT.of hb), rfl, _, rfl, _, rfl, _, _, rfl, .inr h, rfl, _, rfl, _, rfl, _, _, rfl, SqT.of ha, rfl, _, _, rfl, _, _, rfl, rfl, _, rfl, _, _, rfl, SqT.of hb, rfl, _, _, rfl, _, _, rfl, rfl, _, rfl, _, _, rfl, h, rfl, _, _, rfl, _, _, rfl, rfl, _, rfl, _, _, _, _, _, rfl, .ty "int", .base (.int _), kII K, _, rfl, _, rfl, _, _, _, _, _, rfl, .ty "int", .base (.int _), kII K, _, rfl, _, rfl, _, _, _, _, _, rfl, .ty "int", hc, ec, _, rfl, q⟩
      | v0 h ht c d =>
        obtain ⟨_, hu, eu⟩ := c.ty
        obtain ⟨_, hv, ev⟩ := d
        exact ⟨_, rfl, _, _, _, _, _, rfl, .ty "tuple", .base (.tup ha), kTT K, _, rfl, _, rfl, _, _, _, _, _, rfl, .ty "tuple", .base (.tup hb), kTT K, _, rfl, _, rfl, _, _, _, _, _, rfl, .ty "tuple", ht, kTT K, _, rfl, _, rfl, _, _, rfl, .inr (SqT.of ha), rfl, _, rfl, _, rfl, _, _, rfl, .inr (SqT.of hb), rfl, _, rfl, _, rfl, _, _, rfl, .inr h, rfl, _, rfl, _, rfl, _, _, rfl, SqT.of ha, rfl, _, _, rfl, _, _, rfl, rfl, _, rfl, _, _, rfl, SqT.of hb, rfl, _, _, rfl, _, _, rfl, rfl, _, rfl, _, _, rfl, h, rfl, _, _, rfl, _, _, rfl, rfl, _, rfl, _, _, _, _, _, rfl, .ty "int", .base (.int _), kII K, _, rfl, _, rfl, _, _, _, _, _, rfl, .ty "int", .base (.int _), kII K, _, rfl, _, rfl, _, _, _, _, _, rfl, .ty "int", hu, eu, _, rfl, _, rfl, _, _, _, _, _, rfl, .ty "int", .base (.int _), kII K, _, rfl, _, rfl, _, _, _, _, _, rfl, .ty "int", .base (.int _), kII K, _, rfl, _, rfl, _, _, _, _, _, rfl, .ty "int", hv, ev, _, rfl, q⟩
      | @u1 t b v h ht d =>
        obtain ⟨_, hv, ev⟩ := d.ty
        cases b with
        | true => exact ⟨_, rfl, _, _, _, _, _, rfl, .ty "tuple", .base (.tup ha), kTT K, _, rfl, _, rfl, _, _, _, _, _, rfl, .ty "tuple", .base (.tup hb), kTT K, _, rfl, _, rfl, _, _, _, _, _, rfl, .ty "tuple", ht, kTT K, _, rfl, _, rfl, _, _, rfl, .inr (SqT.of ha), rfl, _, rfl, _, rfl, _, _, rfl, .inr (SqT.of hb), rfl, _, rfl, _, rfl, _, _, rfl, .inr h, rfl, _, rfl, _, rfl, _, _, rfl, SqT.of ha, rfl, _, _, rfl, _, _, rfl, rfl, _, rfl, _, _, rfl, SqT.of hb, rfl, _, _, rfl, _, _, rfl, rfl, _, rfl, _, _, rfl, h, rfl, _, _, rfl, _, _, rfl, rfl, _, rfl, _, _, _, _, _, rfl, .ty "int", .base (.int _), kII K, _, rfl, _, rfl, _, _, _, _, _, rfl, .ty "int", .base (.int _), kII K, _, rfl, _, rfl, _, _, _, _, _, rfl, .ty "int", .base (.bl _), kBI K, _, rfl, _, rfl, _, _, _, _, _, rfl, .ty "int", .base (.int _), kII K, _, rfl, _, rfl, _, _, _, _, _, rfl, .ty "int", .base (.int _), kII K, _, rfl, _, rfl, _, _, _, _, _, rfl, .ty "int", hv, ev, _, rfl, _, rfl, _, rfl, .inl ⟨_, rfl, _, rfl, _, rfl, _, rfl, .inl ⟨_, rfl, _, rfl, _, rfl, _, rfl, .inl ⟨_, rfl, _, rfl, _, rfl, _, rfl, .inl ⟨_, rfl, _, rfl, _, rfl, _, rfl, .inr ⟨_, rfl, _, rfl, itt (by decide) q⟩⟩⟩⟩⟩⟩
        | false => exact ⟨_, rfl, _, _, _, _, _, rfl, .ty "tuple", .base (.tup ha), kTT K, _, rfl, _, rfl, _, _, _, _, _, rfl, .ty "tuple", .base (.tup hb), kTT K, _, rfl, _, rfl, _, _, _, _, _, rfl, .ty "tuple", ht, kTT K, _, rfl, _, rfl, _, _, rfl, .inr (SqT.of ha), rfl, _, rfl, _, rfl, _, _, rfl, .inr (SqT.of hb), rfl, _, rfl, _, rfl, _, _, rfl, .inr h, rfl, _, rfl, _, rfl, _, _, rfl, SqT.of ha, rfl, _, _, rfl, _, _, rfl, rfl, _, rfl, _, _, rfl, SqT.of hb, rfl, _, _, rfl, _, _, rfl, rfl, _, rfl, _, _, rfl, h, rfl, _, _, rfl, _, _, rfl, rfl, _, rfl, _, _, _, _, _, rfl, .ty "int", .base (.int _), kII K, _, rfl, _, rfl, _, _, _, _, _, rfl, .ty "int", .base (.int _), kII K, _, rfl, _, rfl, _, _, _, _, _, rfl, .ty "int", .base (.bl _), kBI K, _, rfl, _, rfl, _, _, _, _, _, rfl, .ty "int", .base (.int _), kII K, _, rfl, _, rfl, _, _, _, _, _, rfl, .ty "int", .base (.int _), kII K, _, rfl, _, rfl, _, _, _, _, _, rfl, .ty "int", hv, ev, _, rfl, _, rfl, _, rfl, .inl ⟨_, rfl, _, rfl, _, rfl, _, rfl, .inl ⟨_, rfl, _, rfl, _, rfl, _, rfl, .inl ⟨_, rfl, _, rfl, _, rfl, _, rfl, .inl ⟨_, rfl, _, rfl, _, rfl, _, rfl, .inr ⟨_, rfl, _, rfl, itf (by decide) ⟨_, rfl, _, rfl, .inr ⟨_, rfl, _, rfl, itt (by decide) q⟩⟩⟩⟩⟩⟩⟩⟩
      | @v1 t n b h ht =>
        cases b with
        | true => exact ⟨_, rfl, _, _, _, _, _, rfl, .ty "tuple", .base (.tup ha), kTT K, _, rfl, _, rfl, _, _, _, _, _, rfl, .ty "tuple", .base (.tup hb), kTT K, _, rfl, _, rfl, _, _, _, _, _, rfl, .ty "tuple", ht, kTT K, _, rfl, _, rfl, _, _, rfl, .inr (SqT.of ha), rfl, _, rfl, _, rfl, _, _, rfl, .inr (SqT.of hb), rfl, _, rfl, _, rfl, _, _, rfl, .inr h, rfl, _, rfl, _, rfl, _, _, rfl, SqT.of ha, rfl, _, _, rfl, _, _, rfl, rfl, _, rfl, _, _, rfl, SqT.of hb, rfl, _, _, rfl, _, _, rfl, rfl, _, rfl, _, _, rfl, h, rfl, _, _, rfl, _, _, rfl, rfl, _, rfl, _, _, _, _, _, rfl, .ty "int", .base (.int _), kII K, _, rfl, _, rfl, _, _, _, _, _, rfl, .ty "int", .base (.int _), kII K, _, rfl, _, rfl, _, _, _, _, _, rfl, .ty "int", .base (.int _), kII K, _, rfl, _, rfl, _, _, _, _, _, rfl, .ty "int", .base (.int _), kII K, _, rfl, _, rfl, _, _, _, _, _, rfl, .ty "int", .base (.int _), kII K, _, rfl, _, rfl, _, _, _, _, _, rfl, .ty "int", .base (.bl _), kBI K, _, rfl, _, rfl, _, rfl, .inl ⟨_, rfl, _, rfl, _, rfl, _, rfl, .inl ⟨_, rfl, _, rfl, _, rfl, _, rfl, .inl ⟨_, rfl, _, rfl, _, rfl, _, rfl, .inl ⟨_, rfl, _, rfl, _, rfl, _, rfl, .inl ⟨_, rfl, _, rfl, _, rfl, _, rfl, .inl ⟨_, rfl, _, rfl, _, rfl, _, rfl, .inl ⟨_, rfl, _, rfl, _, rfl, _, rfl, .inl ⟨_, rfl, _, rfl, _, rfl, _, rfl, .inl ⟨_, rfl, _, rfl, _, rfl, _, rfl, .inl ⟨_, rfl, _, rfl, _, rfl, _, rfl, .inr ⟨_, rfl, _, rfl, itt (by decide) q⟩⟩⟩⟩⟩⟩⟩⟩⟩⟩⟩⟩
        | false => exact ⟨_, rfl, _, _, _, _, _, rfl, .ty "tuple", .base (.tup ha), kTT K, _, rfl, _, rfl, _, _, _, _, _, rfl, .ty "tuple", .base (.tup hb), kTT K, _, rfl, _, rfl, _, _, _, _, _, rfl, .ty "tuple", ht, kTT K, _, rfl, _, rfl, _, _, rfl, .inr (SqT.of ha), rfl, _, rfl, _, rfl, _, _, rfl, .inr (SqT.of hb), rfl, _, rfl, _, rfl, _, _, rfl, .inr h, rfl, _, rfl, _, rfl, _, _, rfl, SqT.of ha, rfl, _, _, rfl, _, _, rfl, rfl, _, rfl, _, _, rfl, SqT.of hb, rfl, _, _, rfl, _, _, rfl, rfl, _, rfl, _, _, rfl, h, rfl, _, _, rfl, _, _, rfl, rfl, _, rfl, _, _, _, _, _, rfl, .ty "int", .base (.int _), kII K, _, rfl, _, rfl, _, _, _, _, _, rfl, .ty "int", .base (.int _), kII K, _, rfl, _, rfl, _, _, _, _, _, rfl, .ty "int", .base (.int _), kII K, _, rfl, _, rfl, _, _, _, _, _, rfl, .ty "int", .base (.int _), kII K, _, rfl, _, rfl, _, _, _, _, _, rfl, .ty "int", .base (.int _), kII K, _, rfl, _, rfl, _, _, _, _, _, rfl, .ty "int", .base (.bl _), kBI K, _, rfl, _, rfl, _, rfl, .inl ⟨_, rfl, _, rfl, _, rfl, _, rfl, .inl ⟨_, rfl, _, rfl, _, rfl, _, rfl, .inl ⟨_, rfl, _, rfl, _, rfl, _, rfl, .inl ⟨_, rfl, _, rfl, _, rfl, _, rfl, .inl ⟨_, rfl, _, rfl, _, rfl, _, rfl, .inl ⟨_, rfl, _, rfl, _, rfl, _, rfl, .inl ⟨_, rfl, _, rfl, _, rfl, _, rfl, .inl ⟨_, rfl, _, rfl, _, rfl, _, rfl, .inl ⟨_, rfl, _, rfl, _, rfl, _, rfl, .inl ⟨_, rfl, _, rfl, _, rfl, _, rfl, .inr ⟨_, rfl, _, rfl, itf (by decide) ⟨_, rfl, _, rfl, .inr ⟨_, rfl, _, rfl, itt (by decide) q⟩⟩⟩⟩⟩⟩⟩⟩⟩⟩⟩⟩⟩⟩
      | @far t n m h ht d => exact ⟨_, rfl, _, _, _, _, _, rfl, .ty "tuple", .base (.tup ha), kTT K, _, rfl, _, rfl, _, _, _, _, _, rfl, .ty "tuple", .base (.tup hb), kTT K, _, rfl, _, rfl, _, _, _, _, _, rfl, .ty "tuple", ht, kTT K, _, rfl, _, rfl, _, _, rfl, .inr (SqT.of ha), rfl, _, rfl, _, rfl, _, _, rfl, .inr (SqT.of hb), rfl, _, rfl, _, rfl, _, _, rfl, .inr h, rfl, _, rfl, _, rfl, _, _, rfl, SqT.of ha, rfl, _, _, rfl, _, _, rfl, rfl, _, rfl, _, _, rfl, SqT.of hb, rfl, _, _, rfl, _, _, rfl, rfl, _, rfl, _, _, rfl, h, rfl, _, _, rfl, _, _, rfl, rfl, _, rfl, _, _, _, _, _, rfl, .ty "int", .base (.int _), kII K, _, rfl, _, rfl, _, _, _, _, _, rfl, .ty "int", .base (.int _), kII K, _, rfl, _, rfl, _, _, _, _, _, rfl, .ty "int", .base (.int _), kII K, _, rfl, _, rfl, _, _, _, _, _, rfl, .ty "int", .base (.int _), kII K, _, rfl, _, rfl, _, _, _, _, _, rfl, .ty "int", .base (.int _), kII K, _, rfl, _, rfl, _, _, _, _, _, rfl, .ty "int", .base (.int _), kII K, _, rfl, _, rfl, _, rfl, .inl ⟨_, rfl, _, rfl, _, rfl, _, rfl, .inl ⟨_, rfl, _, rfl, _, rfl, _, rfl, .inl ⟨_, rfl, _, rfl, _, rfl, _, rfl, .inl ⟨_, rfl, _, rfl, _, rfl, _, rfl, .inl ⟨_, rfl, _, rfl, _, rfl, _, rfl, .inl ⟨_, rfl, _, rfl, _, rfl, _, rfl, .inl ⟨_, rfl, _, rfl, _, rfl, _, rfl, .inl ⟨_, rfl, _, rfl, _, rfl, _, rfl, .inl ⟨_, rfl, _, rfl, _, rfl, _, rfl, .inl ⟨_, rfl, _, rfl, _, rfl, _, rfl, .inl ⟨_, rfl, _, rfl, _, rfl, _, rfl, .inl ⟨_, rfl, _, rfl, _, rfl, _, _, rfl, rfl, _, rfl, itf (by omega) ⟨_, rfl, _, _, rfl, rfl, _, rfl, itf (by omega) ⟨_, rfl, _, _, rfl, rfl, _, rfl, itf (by omega) ⟨_, rfl, _, _, rfl, rfl, _, rfl, itf (by omega) ⟨_, rfl, _, _, rfl, rfl, _, rfl, itf (by omega) ⟨_, rfl, _, _, rfl, rfl, _, rfl, itf (by omega) ⟨_, rfl, _, _, rfl, rfl, _, rfl, itf (by omega) ⟨_, rfl, _, _, rfl, rfl, _, rfl, itf (by omega) ⟨_, rfl, _, _, rfl, rfl, _, rfl, ite2 (fun _ => q) fun h1 => ⟨_, rfl, _, _, rfl, rfl, _, rfl, ite2 (fun _ => q) fun h2 => ⟨_, rfl, _, _, rfl, rfl, _, rfl, ite2 (fun _ => q) fun h3 => ⟨_, rfl, _, _, rfl, rfl, _, rfl, ite2 (fun _ => q) fun h4 => absurd ⟨by simp at h2; omega, by simp at h1; omega, by simp at h4; omega, by simp at h3; omega⟩ d⟩⟩⟩⟩⟩⟩⟩⟩⟩⟩⟩⟩⟩⟩⟩⟩⟩⟩⟩⟩⟩⟩⟩⟩
/-- InvalidBound(z) is raised, all else stands -/
def RaisesB (IB : Addr) (z : Str) (H : Hp) (E : XK) : Prop := ∀ d, H d = none → E (.ref IB) (some d) (upd H d (.xd [("argument", .str z)]))
theorem FnOk.both {CX : CXT} {k : Nat} {f : Addr} {fd : FuncData} {ps : List Str} {sp sp' : Sp} (F : FnOk P w K mg base CX k f fd ps sp) (G : FnOk P w K mg base CX k f fd ps sp') : FnOk P w K mg base CX k f fd ps (fun vs H Q E => sp vs H Q E ∨ sp' vs H Q E) :=
  ⟨fun vs H Q E h => h.elim (F.len vs H Q E) (G.len vs H Q E), fun A outer s H args us vs Q E hr he hb hv h => h.elim (F.run A outer s H args us vs Q E hr he hb hv) (G.run A outer s H args us vs Q E hr he hb hv)⟩
abbrev sInitB : Stmt := match topS 5 with
  | .ClassDef _ _ _ body _ _ _ _ _ _ _ => body.getD 0 (.Pass ⟨0, 0, 0, 0⟩)
  | s => s
theorem scInitB : FnScope ["self", "argument"] ["self", "argument"] (defScope sInitB) := ⟨rfl, rfl, rfl, by decide +kernel, rfl, by decide +kernel, by decide +kernel⟩
theorem ok_initB {f : Addr} {fd : FuncData} {k : Nat} (F : Fun K "__init__" "InvalidBound.__init__" sInitB f fd) : FnOk P w K mg base CX0 (k + 1) f fd ["self", "argument"] (spField K "argument") := by
  refine F.ok scInitB (fun vs H Q E h => ?_) (fun cdv A outer s H vs Q E hr h => ?_)
  · obtain ⟨a, C, y, rfl, _⟩ := h
    rfl
  · obtain ⟨a, C, y, rfl, T, ht, ha, q⟩ := h
    exact ⟨_, pss_one (ps_field (pv 0) (pv 1)), _, rfl, _, rfl, a, C, rfl, T, ht, ha, fun dx n ne => q dx n ne⟩
/-- a site, or what is none: InvalidBound with the name -/
def spCheckG (K : PySem.W.Frag) (IB : Addr) : Sp := fun vs H Q E => ∃ (x : V) (z : Str), vs = [x, .str z] ∧ ((∃ (t : Addr) (a b : Int), x = .ref t ∧ Sit H t a b ∧ Bd 1000000 a b ∧ Q .non H) ∨ (Odd K H x ∧ RaisesB IB z H E))
theorem ok_checkG {f fS : Addr} {fd fdS : FuncData} {fI IB : Addr} {fdI : FuncData} {k : Nat} (F : Fun K "check_site" "check_site" sCheck f fd)
    (GS : FnOk P w K mg base CX0 (k + 2) fS fdS ["value"] (fun vs H Q E => spIsSite vs H Q E ∨ spNoSite K vs H Q E)) (gS : mg "is_site" = some (.ref fS)) (kS : PySem.W.keepIn K (.ref fS) = true) (bS : Binds K fdS ["value"] []) (T : PassC K IB fI) (TF : FieldC K IB) (ht : PySem.W.takerIn K IB "argument" = some none) (GI : FnOk P w K mg base CX0 (k + 1) fI fdI ["self", "argument"] (spField K "argument")) (bI : Binds K fdI ["self", "argument"] []) (gIB : mg "InvalidBound" = some (.ref IB)) : FnOk P w K mg base (L2.CX P w) (k + 3) f fd ["value", "name"] (spCheckG K IB) := by
  refine F.okX scCheck (fun vs H Q E h => ?_) (fun cdv A outer s H vs Q E hr h => ?_)
  · obtain ⟨x, z, rfl, _⟩ := h
    rfl
  · obtain ⟨x, z, rfl, h⟩ := h
    refine ⟨_, pss_one (ps_if (pt_not (pt_val (pe_call GS (hr.mono (by omega)) (by rfl) gS kS bS .nil pass0 (pa_cons (pv 0) pa_nil)))) (pss_one (ps_raise rfl (takes_of (E := E) rfl rfl rfl rfl) (pmk_field T TF ht GI (hr.mono (by omega)) bI pass0 (by rfl) gIB (pv 1)))) pss_nil), ?_⟩
    rcases h with ⟨t, a, b, rfl, hs, d, q⟩ | ⟨hx, q⟩
    · exact ⟨_, rfl, .inl ⟨t, a, b, rfl, hs, d, _, rfl, q⟩⟩
    · exact ⟨_, rfl, .inr ⟨_, rfl, hx, _, rfl, _, rfl, fun d n => q d n⟩⟩
def spThree (K : PySem.W.Frag) (IB : Addr) : Sp := fun vs H _ E => ∃ x y z n, vs = [x, y, z] ∧ Rf3 K H x y z n ∧ RaisesB IB n H E
theorem ok_threeX {f fC IB : Addr} {fd fdC : FuncData} {k : Nat} (F : Fun K "check_three" "check_three" sThree f fd) (GC : FnOk P w K mg base (L2.CX P w) (k) fC fdC ["value", "name"] (spCheckG K IB)) (gC : mg "check_site" = some (.ref fC)) (kC : PySem.W.keepIn K (.ref fC) = true) (bC : Binds K fdC ["value", "name"] []) : FnOk P w K mg base (L2.CX P w) (k + 1) f fd ["a", "b", "c"] (spThree K IB) := by
  refine F.okX scThree (fun vs H Q E h => ?_) (fun cdv A outer s H vs Q E hr h => ?_)
  · obtain ⟨x, y, z, n, rfl, _⟩ := h
    rfl
  · obtain ⟨x, y, z, n, rfl, hx, q⟩ := h
    refine ⟨_, (pss_cons (ps_expr (pe_call GC hr (by rfl) gC kC bC .nil (passes_call (takes_of (E := E) rfl rfl rfl rfl) fun _ _ _ _ h => h) (pa_cons (pv 0) (pa_cons pe_str pa_nil)))) (pss_cons (ps_expr (pe_call GC hr (by rfl) gC kC bC .nil (passes_call (takes_of (E := E) rfl rfl rfl rfl) fun _ _ _ _ h => h) (pa_cons (pv 1) (pa_cons pe_str pa_nil)))) (pss_one (ps_expr (pe_call GC hr (by rfl) gC kC bC .nil (passes_call (takes_of (E := E) rfl rfl rfl rfl) fun _ _ _ _ h => h) (pa_cons (pv 2) (pa_cons pe_str pa_nil))))))), ?_⟩
    cases hx with
    | a h => exact ⟨_, rfl, _, _, rfl, .inr ⟨h, q⟩⟩
    | b ha da h => exact ⟨_, rfl, _, _, rfl, .inl ⟨_, _, _, rfl, ha, da, _, rfl, _, _, rfl, .inr ⟨h, q⟩⟩⟩
    | c ha da hb db h => exact ⟨_, rfl, _, _, rfl, .inl ⟨_, _, _, rfl, ha, da, _, rfl, _, _, rfl, .inl ⟨_, _, _, rfl, hb, db, _, rfl, _, _, rfl, .inr ⟨h, q⟩⟩⟩⟩
theorem ok_btw3 {f fA fK IB : Addr} {fd fdA fdK : FuncData} {k : Nat} (F : Fun K "is_between" "is_between" sBtw f fd) (GA : FnOk P w K mg base CX0 (k) fA fdA ["a", "b", "c"] (spTosX K)) (gA : mg "turn_of_sites" = some (.ref fA)) (kA : PySem.W.keepIn K (.ref fA) = true) (bA : Binds K fdA ["a", "b", "c"] []) (GK : FnOk P w K mg base (L2.CX P w) (k) fK fdK ["a", "b", "c"] (spThree K IB)) (gK : mg "check_three" = some (.ref fK)) (kK : PySem.W.keepIn K (.ref fK) = true) (bK : Binds K fdK ["a", "b", "c"] []) : FnOk P w K mg base (L2.CX P w) (k + 1) f fd ["a", "b", "c"] (spThree K IB) := by
  refine F.okX scBtw (fun vs H Q E h => ?_) (fun cdv A outer s H vs Q E hr h => ?_)
  · obtain ⟨x, y, z, n, rfl, _⟩ := h
    rfl
  · obtain ⟨x, y, z, n, rfl, hx, q⟩ := h
    have nd := scBtw.nd
    refine ⟨_, (pss_cons (ps_set (i := 3) nd rfl (.inl rfl) (pe_call GA (hr.mono (by omega)) (by rfl) gA kA bA .nil pass0 (pa_cons (pv 0) (pa_cons (pv 1) (pa_cons (pv 2) pa_nil))))) (pss_cons (ps_if (pt_cmpR op_isN (pv 3) pe_non (nomark _)) (pss_one (ps_expr (pe_call GK hr (by rfl) gK kK bK .nil (passes_call (takes_of (E := E) rfl rfl rfl rfl) fun _ _ _ _ h => h) (pa_cons (pv 0) (pa_cons (pv 1) (pa_cons (pv 2) pa_nil)))))) pss_nil) pss_never)), ?_⟩
    exact ⟨_, rfl, _, rfl, _, rfl, x, y, z, n, rfl, hx, _, rfl, rfl, _, rfl, _, rfl, _, rfl, _, rfl, x, y, z, n, rfl, hx, q⟩
theorem ok_circle3 {f fA fK IB : Addr} {fd fdA fdK : FuncData} {k : Nat} (F : Fun K "circle" "circle" sCircle f fd) (GA : FnOk P w K mg base CX0 (k) fA fdA ["a", "b", "c"] (spTosX K)) (gA : mg "turn_of_sites" = some (.ref fA)) (kA : PySem.W.keepIn K (.ref fA) = true) (bA : Binds K fdA ["a", "b", "c"] []) (GK : FnOk P w K mg base (L2.CX P w) (k) fK fdK ["a", "b", "c"] (spThree K IB)) (gK : mg "check_three" = some (.ref fK)) (kK : PySem.W.keepIn K (.ref fK) = true) (bK : Binds K fdK ["a", "b", "c"] []) : FnOk P w K mg base (L2.CX P w) (k + 1) f fd ["a", "b", "c"] (spThree K IB) := by
  refine F.okX scCircle (fun vs H Q E h => ?_) (fun cdv A outer s H vs Q E hr h => ?_)
  · obtain ⟨x, y, z, n, rfl, _⟩ := h
    rfl
  · obtain ⟨x, y, z, n, rfl, hx, q⟩ := h
    have nd := scCircle.nd
    refine ⟨_, (pss_cons (ps_set (i := 3) nd rfl (.inl rfl) (pe_call GA (hr.mono (by omega)) (by rfl) gA kA bA .nil pass0 (pa_cons (pv 0) (pa_cons (pv 1) (pa_cons (pv 2) pa_nil))))) (pss_cons (ps_if (pt_cmpR op_isN (pv 3) pe_non (nomark _)) (pss_one (ps_expr (pe_call GK hr (by rfl) gK kK bK .nil (passes_call (takes_of (E := E) rfl rfl rfl rfl) fun _ _ _ _ h => h) (pa_cons (pv 0) (pa_cons (pv 1) (pa_cons (pv 2) pa_nil)))))) pss_nil) pss_never)), ?_⟩
    exact ⟨_, rfl, _, rfl, _, rfl, x, y, z, n, rfl, hx, _, rfl, rfl, _, rfl, _, rfl, _, rfl, _, rfl, x, y, z, n, rfl, hx, q⟩
def spFour (K : PySem.W.Frag) (IB : Addr) : Sp := fun vs H _ E => ∃ x y z v n, vs = [x, y, z, v] ∧ Rf3 K H x y z n ∧ RaisesB IB n H E
theorem ok_lside3 {f fA fK IB : Addr} {fd fdA fdK : FuncData} {k : Nat} (F : Fun K "lift_side" "lift_side" sLSide f fd) (GA : FnOk P w K mg base CX0 (k) fA fdA ["a", "b", "c"] (spTosX K)) (gA : mg "turn_of_sites" = some (.ref fA)) (kA : PySem.W.keepIn K (.ref fA) = true) (bA : Binds K fdA ["a", "b", "c"] []) (GK : FnOk P w K mg base (L2.CX P w) (k) fK fdK ["a", "b", "c"] (spThree K IB)) (gK : mg "check_three" = some (.ref fK)) (kK : PySem.W.keepIn K (.ref fK) = true) (bK : Binds K fdK ["a", "b", "c"] []) : FnOk P w K mg base (L2.CX P w) (k + 1) f fd ["a", "b", "c", "d"] (spFour K IB) := by
  refine F.okX scLSide (fun vs H Q E h => ?_) (fun cdv A outer s H vs Q E hr h => ?_)
  · obtain ⟨x, y, z, v, n, rfl, _⟩ := h
    rfl
  · obtain ⟨x, y, z, v, n, rfl, hx, q⟩ := h
    have nd := scLSide.nd
    refine ⟨_, (pss_cons (ps_set (i := 4) nd rfl (.inl rfl) (pe_call GA (hr.mono (by omega)) (by rfl) gA kA bA .nil pass0 (pa_cons (pv 0) (pa_cons (pv 1) (pa_cons (pv 2) pa_nil))))) (pss_cons (ps_if (pt_cmpR op_isN (pv 4) pe_non (nomark _)) (pss_one (ps_expr (pe_call GK hr (by rfl) gK kK bK .nil (passes_call (takes_of (E := E) rfl rfl rfl rfl) fun _ _ _ _ h => h) (pa_cons (pv 0) (pa_cons (pv 1) (pa_cons (pv 2) pa_nil)))))) pss_nil) pss_never)), ?_⟩
    exact ⟨_, rfl, _, rfl, _, rfl, x, y, z, n, rfl, hx, _, rfl, rfl, _, rfl, _, rfl, _, rfl, _, rfl, x, y, z, n, rfl, hx, q⟩
/-- three sites, and what is none -/
def spFourD (K : PySem.W.Frag) (IB : Addr) : Sp := fun vs H _ E => ∃ (a b c : Addr) (ax ay bx by' cx cy : Int) (v : V), vs = [.ref a, .ref b, .ref c, v] ∧ Sit H a ax ay ∧ Sit H b bx by' ∧ Sit H c cx cy ∧ Bd 1000000 ax ay ∧ Bd 1000000 bx by' ∧ Bd 1000000 cx cy ∧ Odd K H v ∧ RaisesB IB "d" H E
theorem ok_lsideD {f fA fC IB : Addr} {fd fdA fdC : FuncData} {k : Nat} (F : Fun K "lift_side" "lift_side" sLSide f fd) (GA : FnOk P w K mg base CX0 (k) fA fdA ["a", "b", "c"] (sp3 K fun ax ay bx by' cx cy => .int (tri ax ay bx by' cx cy))) (gA : mg "turn_of_sites" = some (.ref fA)) (kA : PySem.W.keepIn K (.ref fA) = true) (bA : Binds K fdA ["a", "b", "c"] []) (GC : FnOk P w K mg base (L2.CX P w) (k) fC fdC ["value", "name"] (spCheckG K IB)) (gC : mg "check_site" = some (.ref fC)) (kC : PySem.W.keepIn K (.ref fC) = true) (bC : Binds K fdC ["value", "name"] []) : FnOk P w K mg base (L2.CX P w) (k + 1) f fd ["a", "b", "c", "d"] (spFourD K IB) := by
  refine F.okX scLSide (fun vs H Q E h => ?_) (fun cdv A outer s H vs Q E hr h => ?_)
  · obtain ⟨a, b, c, ax, ay, bx, by', cx, cy, v, rfl, _⟩ := h
    rfl
  · obtain ⟨a, b, c, ax, ay, bx, by', cx, cy, v, rfl, ha, hb, hc, da, db, dc, h, q⟩ := h
    have nd := scLSide.nd
    refine ⟨_, (pss_cons (ps_set (i := 4) nd rfl (.inl rfl) (pe_call GA (hr.mono (by omega)) (by rfl) gA kA bA .nil pass0 (pa_cons (pv 0) (pa_cons (pv 1) (pa_cons (pv 2) pa_nil))))) (pss_cons (ps_if (pt_cmpR op_isN (pv 4) pe_non (nomark _)) pss_never pss_nil) (pss_cons (ps_expr (pe_call GC hr (by rfl) gC kC bC .nil (passes_call (takes_of (E := E) rfl rfl rfl rfl) fun _ _ _ _ h => h) (pa_cons (pv 3) (pa_cons pe_str pa_nil)))) pss_never))), ?_⟩
    exact ⟨_, rfl, _, rfl, _, rfl, a, b, c, ax, ay, bx, by', cx, cy, rfl, ha, hb, hc, da, db, dc, _, rfl, rfl, _, rfl, _, rfl, _, _, rfl, .inr ⟨h, q⟩⟩
theorem ok_inc3 {f fL IB : Addr} {fd fdL : FuncData} {k : Nat} (F : Fun K "in_circle" "in_circle" sInC f fd) (GL : FnOk P w K mg base (L2.CX P w) (k) fL fdL ["a", "b", "c", "d"] (spFour K IB)) (gL : mg "lift_side" = some (.ref fL)) (kL : PySem.W.keepIn K (.ref fL) = true) (bL : Binds K fdL ["a", "b", "c", "d"] []) : FnOk P w K mg base (L2.CX P w) (k + 1) f fd ["a", "b", "c", "d"] (spFour K IB) := by
  refine F.okX scInC (fun vs H Q E h => ?_) (fun cdv A outer s H vs Q E hr h => ?_)
  · obtain ⟨x, y, z, v, n, rfl, _⟩ := h
    rfl
  · obtain ⟨x, y, z, v, n, rfl, hx, q⟩ := h
    refine ⟨_, pss_one (ps_ret (pe_un un_neg (pe_call GL hr (by rfl) gL kL bL .nil (passes_call (takes_of (E := E) rfl rfl rfl rfl) fun _ _ _ _ h => h) (pa_cons (pv 0) (pa_cons (pv 1) (pa_cons (pv 2) (pa_cons (pv 3) pa_nil))))))), ?_⟩
    exact ⟨_, rfl, _, rfl, _, rfl, _, rfl, x, y, z, v, n, rfl, hx, q⟩
theorem ok_incD {f fL IB : Addr} {fd fdL : FuncData} {k : Nat} (F : Fun K "in_circle" "in_circle" sInC f fd) (GL : FnOk P w K mg base (L2.CX P w) (k) fL fdL ["a", "b", "c", "d"] (spFourD K IB)) (gL : mg "lift_side" = some (.ref fL)) (kL : PySem.W.keepIn K (.ref fL) = true) (bL : Binds K fdL ["a", "b", "c", "d"] []) : FnOk P w K mg base (L2.CX P w) (k + 1) f fd ["a", "b", "c", "d"] (spFourD K IB) := by
  refine F.okX scInC (fun vs H Q E h => ?_) (fun cdv A outer s H vs Q E hr h => ?_)
  · obtain ⟨a, b, c, ax, ay, bx, by', cx, cy, v, rfl, _⟩ := h
    rfl
  · obtain ⟨a, b, c, ax, ay, bx, by', cx, cy, v, rfl, ha, hb, hc, da, db, dc, h, q⟩ := h
    refine ⟨_, pss_one (ps_ret (pe_un un_neg (pe_call GL hr (by rfl) gL kL bL .nil (passes_call (takes_of (E := E) rfl rfl rfl rfl) fun _ _ _ _ h => h) (pa_cons (pv 0) (pa_cons (pv 1) (pa_cons (pv 2) (pa_cons (pv 3) pa_nil))))))), ?_⟩
    exact ⟨_, rfl, _, rfl, _, rfl, _, rfl, a, b, c, ax, ay, bx, by', cx, cy, v, rfl, ha, hb, hc, da, db, dc, h, q⟩
/-- side: one is no site, or the first two are alike -/
inductive RfS (K : PySem.W.Frag) (H : Hp) : V → V → V → Str → Prop where
  | a {x : V} (h : Odd K H x) : RfS K H x .non .non "a"
  | b {p : Addr} {ax ay : Int} {y : V} (ha : Sit H p ax ay) (da : Bd 1000000 ax ay) (h : Odd K H y) : RfS K H (.ref p) y .non "b"
  | c {p q : Addr} {ax ay bx by' : Int} {z : V} (ha : Sit H p ax ay) (da : Bd 1000000 ax ay) (hb : Sit H q bx by') (db : Bd 1000000 bx by') (ne : ¬ (ax = bx ∧ ay = by')) (h : Odd K H z) : RfS K H (.ref p) (.ref q) z "c"
  | e {p : Addr} {ax ay : Int} {z : V} (ha : Sit H p ax ay) (da : Bd 1000000 ax ay) (h : Odd K H z) : RfS K H (.ref p) (.ref p) z "b"
theorem RfS.rf {H : Hp} {x y z : V} {n : Str} (h : RfS K H x y z n) : ∃ n', Rf3 K H x y z n' := by
  cases h with
  | a h => exact ⟨_, .a h⟩
  | b ha da h => exact ⟨_, .b ha da h⟩
  | c ha da hb db _ h => exact ⟨_, .c ha da hb db h⟩
  | e ha da h => exact ⟨_, .c ha da ha da h⟩
def spSideR (K : PySem.W.Frag) (IB : Addr) : Sp := fun vs H _ E => ∃ x y z n, vs = [x, y, z] ∧ RfS K H x y z n ∧ RaisesB IB n H E
theorem ok_sideR {f fA fC : Addr} {fd fdA fdC : FuncData} {fI IB : Addr} {fdI : FuncData} {k : Nat} (F : Fun K "side" "side" sSide f fd) (GA : FnOk P w K mg base CX0 (k + 2) fA fdA ["a", "b", "c"] (spTosX K)) (gA : mg "turn_of_sites" = some (.ref fA)) (kA : PySem.W.keepIn K (.ref fA) = true) (bA : Binds K fdA ["a", "b", "c"] []) (GC : FnOk P w K mg base (L2.CX P w) (k + 2) fC fdC ["value", "name"] (spCheckG K IB)) (gC : mg "check_site" = some (.ref fC)) (kC : PySem.W.keepIn K (.ref fC) = true) (bC : Binds K fdC ["value", "name"] []) (T : PassC K IB fI) (TF : FieldC K IB) (ht : PySem.W.takerIn K IB "argument" = some none) (GI : FnOk P w K mg base CX0 (k + 1) fI fdI ["self", "argument"] (spField K "argument")) (bI : Binds K fdI ["self", "argument"] []) (gIB : mg "InvalidBound" = some (.ref IB)) : FnOk P w K mg base (L2.CX P w) (k + 3) f fd ["a", "b", "c"] (spSideR K IB) := by
  refine F.okX scSide (fun vs H Q E h => ?_) (fun cdv A outer s H vs Q E hr h => ?_)
  · obtain ⟨x, y, z, n, rfl, _⟩ := h
    rfl
  · obtain ⟨x, y, z, n, rfl, hx, q⟩ := h
    have nd := scSide.nd
    obtain ⟨m, hm⟩ := hx.rf
    refine ⟨_, (pss_cons (ps_set (i := 3) nd rfl (.inl rfl) (pe_call GA (hr.mono (by omega)) (by rfl) gA kA bA .nil pass0 (pa_cons (pv 0) (pa_cons (pv 1) (pa_cons (pv 2) pa_nil))))) (pss_cons (ps_if (pt_cmpR op_isN (pv 3) pe_non (nomark _)) (pss_cons (ps_expr (pe_call GC hr (by rfl) gC kC bC .nil (passes_call (takes_of (E := E) rfl rfl rfl rfl) fun _ _ _ _ h => h) (pa_cons (pv 0) (pa_cons pe_str pa_nil)))) (pss_cons (ps_expr (pe_call GC hr (by rfl) gC kC bC .nil (passes_call (takes_of (E := E) rfl rfl rfl rfl) fun _ _ _ _ h => h) (pa_cons (pv 1) (pa_cons pe_str pa_nil)))) (pss_one (ps_if (pt_cmpR (op_neD hr.units) (pv 0) (pv 1) (nomark _)) (pss_one (ps_expr (pe_call GC hr (by rfl) gC kC bC .nil (passes_call (takes_of (E := E) rfl rfl rfl rfl) fun _ _ _ _ h => h) (pa_cons (pv 2) (pa_cons pe_str pa_nil))))) pss_nil)))) pss_never)
      (pss_cons (ps_if (pt_cmpR (op_eqD hr.units) (pv 0) (pv 1) (nomark _)) (pss_one (ps_raise rfl (takes_of (E := E) rfl rfl rfl rfl) (pmk_field T TF ht GI (hr.mono (by omega)) bI pass0 (by rfl) gIB pe_str))) pss_nil) pss_never))), ?_⟩
    refine ⟨_, rfl, _, rfl, _, rfl, x, y, z, m, rfl, hm, _, rfl, rfl, _, rfl, ?_⟩
    cases hx with
    | a h => exact ⟨_, rfl, _, _, rfl, .inr ⟨h, q⟩⟩
    | b ha da h => exact ⟨_, rfl, _, _, rfl, .inl ⟨_, _, _, rfl, ha, da, _, rfl, _, _, rfl, .inr ⟨h, q⟩⟩⟩
    | c ha da hb db ne h =>
      refine ⟨_, rfl, _, _, rfl, .inl ⟨_, _, _, rfl, ha, da, _, rfl, _, _, rfl, .inl ⟨_, _, _, rfl, hb, db, _, rfl, _, rfl, _, _, dpSit ha, dpSit hb, rfl, rfl, _, rfl, ?_⟩⟩⟩
      rw [eqv_sit, decide_eq_false ne]
      exact ⟨_, rfl, _, _, rfl, .inr ⟨h, q⟩⟩
    | @e p ax ay z ha da h =>
      refine ⟨_, rfl, _, _, rfl, .inl ⟨_, _, _, rfl, ha, da, _, rfl, _, _, rfl, .inl ⟨_, _, _, rfl, ha, da, _, rfl, _, rfl, _, _, dpSit ha, dpSit ha, rfl, rfl, _, rfl, ?_⟩⟩⟩
      rw [eqv_sit, decide_eq_true ⟨rfl, rfl⟩]
      refine ⟨_, rfl, _, rfl, _, _, dpSit ha, dpSit ha, rfl, rfl, _, rfl, ?_⟩
      rw [eqv_sit, decide_eq_true ⟨rfl, rfl⟩]
      exact fun d n => q d n
end
section
variable {P : Program} {w : World} {K : PySem.W.Frag} {mg : Str → Option Value} {base : Heap}
/-! ### values that are no places -/
inductive OddP (K : PySem.W.Frag) (H : Hp) : V → Prop where
  | tup {x : V} {t : Value} (h : TyX K H x t) (e : PySem.W.kitOne K t (.type "tuple") = some false) : OddP K H x
  | len {t : Addr} {xs : List V} (h : SqT K H t xs) (ht : TyX K H (.ref t) (.type "tuple")) (l : xs.length ≠ 3) : OddP K H (.ref t)
  | a {t : Addr} {x y d : V} (h : SqT K H t [x, y, d]) (ht : TyX K H (.ref t) (.type "tuple")) (c : NoInt K H x) : OddP K H (.ref t)
  | b {t : Addr} {x y d : V} (h : SqT K H t [x, y, d]) (ht : TyX K H (.ref t) (.type "tuple")) (cx : IntK K H x) (c : NoInt K H y) : OddP K H (.ref t)
  | c {t : Addr} {x y d : V} (h : SqT K H t [x, y, d]) (ht : TyX K H (.ref t) (.type "tuple")) (cx : IntK K H x) (cy : IntK K H y) (c : NoInt K H d) : OddP K H (.ref t)
  | bx {t : Addr} {z : Bool} {y d : Int} (h : SqT K H t [.bl z, .int y, .int d]) (ht : TyX K H (.ref t) (.type "tuple")) : OddP K H (.ref t)
  | by' {t : Addr} {z : Bool} {x d : Int} (h : SqT K H t [.int x, .bl z, .int d]) (ht : TyX K H (.ref t) (.type "tuple")) : OddP K H (.ref t)
  | bd {t : Addr} {x y : Int} (h : SqT K H t [.int x, .int y, .bl true]) (ht : TyX K H (.ref t) (.type "tuple")) : OddP K H (.ref t)
  | num {t : Addr} {x y d : Int} (h : SqT K H t [.int x, .int y, .int d]) (ht : TyX K H (.ref t) (.type "tuple")) (n : ¬ (-(10 ^ 30) < x ∧ x < 10 ^ 30 ∧ -(10 ^ 30) < y ∧ y < 10 ^ 30 ∧ 1 ≤ d ∧ d < 10 ^ 30 ∧ g3 x y d = 1)) : OddP K H (.ref t)
def spNoPl (K : PySem.W.Frag) : Sp := fun vs H Q _ => ∃ x, vs = [x] ∧ OddP K H x ∧ Q (.bl false) H
set_option pp.maxSteps 300 in
theorem ok_nopl {f : Addr} {fd : FuncData} {k : Nat} (F : Fun K "is_place" "is_place" sIsPl f fd)
    (misinstance : mg "isinstance" = none) (mtuple : mg "tuple" = none) (mint : mg "int" = none) (mlen : mg "len" = none) (mgcd : mg "gcd" = some (.builtin "math.gcd")) : FnOk P w K mg base CX0 (k + 1) f fd ["value"] (spNoPl K) := by
  refine F.ok scIsPl (fun vs H Q E h => ?_) (fun cdv A outer s H vs Q E hr h => ?_)
  · obtain ⟨x, rfl, _⟩ := h
    rfl
  · obtain ⟨x, rfl, hx, q⟩ := h
    have nd := scIsPl.nd
    refine ⟨_, (pss_cons (ps_if (PW.pt (pw_or (pt_not (pt_val (pe_callB call_isi (by rfl) misinstance (by decide +kernel) (pa_cons (pv 0) (pa_cons (pe_bltn (v := .ty "tuple") (by rfl) mtuple (by decide +kernel) rfl) pa_nil))))) (pw_or1 (pt_cmpR op_ne (pe_callB call_len_seq (by rfl) mlen (by decide +kernel) (pa_cons (pv 0) pa_nil)) pe_int (nomark _))))) (pss_one (ps_ret pe_bl)) pss_nil) (pss_cons (ps_asg (pv 0) (pg_tup (by rfl) (pgs_cons (pg_name (i := 1) nd rfl (.inl rfl)) (pgs_cons (pg_name (i := 2) nd rfl (.inl rfl)) (pgs_cons (pg_name (i := 3) nd rfl (.inl rfl)) pgs_nil))))) (pss_cons (ps_if (PW.pt (pw_or (pt_not (pt_val (pe_callB call_isi (by rfl) misinstance (by decide +kernel) (pa_cons (pv 1) (pa_cons (pe_bltn (v := .ty "int") (by rfl) mint (by decide +kernel) rfl) pa_nil))))) (pw_or (pt_not (pt_val (pe_callB call_isi (by rfl) misinstance (by decide +kernel) (pa_cons (pv 2) (pa_cons (pe_bltn (v := .ty "int") (by rfl) mint (by decide +kernel) rfl) pa_nil))))) (pw_or1 (pt_not (pt_val (pe_callB call_isi (by rfl) misinstance (by decide +kernel) (pa_cons (pv 3) (pa_cons (pe_bltn (v := .ty "int") (by rfl) mint (by decide +kernel) rfl) pa_nil))))))))) (pss_one (ps_ret pe_bl)) pss_nil) (pss_cons (ps_if (PW.pt (pw_or (pt_cmpR op_isG (pv 1) pe_bl (nomark _)) (pw_or (pt_cmpR op_isG (pv 1) pe_bl (nomark _)) (pw_or (pt_cmpR op_isG (pv 2) pe_bl (nomark _)) (pw_or (pt_cmpR op_isG (pv 2) pe_bl (nomark _)) (pw_or (pt_cmpR op_isG (pv 3) pe_bl (nomark _)) (pw_or1 (pt_cmpR op_lt (pv 3) pe_int (nomark _))))))))) (pss_one (ps_ret pe_bl)) pss_nil) (pss_cons (ps_if (PW.pt (pw_or (pt_not (pt_chain op_lt op_lt (pe_un un_neg (pe_op op_pow pe_int pe_int)) (pv 1) (pe_op op_pow pe_int pe_int))) (pw_or (pt_not (pt_chain op_lt op_lt (pe_un un_neg (pe_op op_pow pe_int pe_int)) (pv 2) (pe_op op_pow pe_int pe_int))) (pw_or1 (pt_cmpR op_ge (pv 3) (pe_op op_pow pe_int pe_int) (nomark _)))))) (pss_one (ps_ret pe_bl)) pss_nil) (pss_one (ps_ret (pe_or (pe_cmpR op_eq (pv 3) pe_int (nomark _)) (pe_one (pe_cmpR op_eq (pe_callBfun cr_gcd3 (by rfl) mgcd (pa_cons (pv 1) (pa_cons (pv 2) (pa_cons (pv 3) pa_nil)))) pe_int (nomark _))))))))))), ?_⟩
    cases hx with
    | tup ht e => exact ⟨_, rfl, _, _, _, _, _, rfl, .ty "tuple", ht, e, _, rfl, q⟩
    | @len t xs h ht l =>
      refine ⟨_, rfl, _, _, _, _, _, rfl, .ty "tuple", ht, kTT K, _, rfl, _, rfl, _, _, rfl, .inr h, rfl, _, rfl, ?_⟩
      have e : decide (V.int (xs.length : Nat) = V.int 3) = false := decide_eq_false fun e => l (by injection e with e; omega)
      show if (!decide (V.int (xs.length : Nat) = V.int 3)) = true then Q (.bl false) H else _
      rw [e]
      exact q
    | a h ht c =>
      obtain ⟨_, hc, ec⟩ := c
      exact ⟨_, rfl, _, _, _, _, _, rfl, .ty "tuple", ht, kTT K, _, rfl, _, rfl, _, _, rfl, .inr h, rfl, _, rfl, _, rfl, _, _, rfl, h, rfl, _, _, rfl, _, _, rfl, _, _, rfl, rfl, _, rfl, _, _, _, _, _, rfl, .ty "int", hc, ec, _, rfl, q⟩
    | b h ht cx c =>
      obtain ⟨_, hx, ex⟩ := cx.ty
      obtain ⟨_, hc, ec⟩ := c
      exact ⟨_, rfl, _, _, _, _, _, rfl, .ty "tuple", ht, kTT K, _, rfl, _, rfl, _, _, rfl, .inr h, rfl, _, rfl, _, rfl, _, _, rfl, h, rfl, _, _, rfl, _, _, rfl, _, _, rfl, rfl, _, rfl, _, _, _, _, _, rfl, .ty "int", hx, ex, _, rfl, _, rfl, _, _, _, _, _, rfl, .ty "int", hc, ec, _, rfl, q⟩
    | c h ht cx cy c =>
      obtain ⟨_, hx, ex⟩ := cx.ty
      obtain ⟨_, hy, ey⟩ := cy.ty
      obtain ⟨_, hc, ec⟩ := c
      exact ⟨_, rfl, _, _, _, _, _, rfl, .ty "tuple", ht, kTT K, _, rfl, _, rfl, _, _, rfl, .inr h, rfl, _, rfl, _, rfl, _, _, rfl, h, rfl, _, _, rfl, _, _, rfl, _, _, rfl, rfl, _, rfl, _, _, _, _, _, rfl, .ty "int", hx, ex, _, rfl, _, rfl, _, _, _, _, _, rfl, .ty "int", hy, ey, _, rfl, _, rfl, _, _, _, _, _, rfl, .ty "int", hc, ec, _, rfl, q⟩
    | @bx t z y d h ht =>
      refine ⟨_, rfl, _, _, _, _, _, rfl, .ty "tuple", ht, kTT K, _, rfl, _, rfl, _, _, rfl, .inr h, rfl, _, rfl, _, rfl, _, _, rfl, h, rfl, _, _, rfl, _, _, rfl, _, _, rfl, rfl, _, rfl, _, _, _, _, _, rfl, .ty "int", .base (.bl _), kBI K, _, rfl, _, rfl, _, _, _, _, _, rfl, .ty "int", .base (.int _), kII K, _, rfl, _, rfl, _, _, _, _, _, rfl, .ty "int", .base (.int _), kII K, _, rfl, ?_⟩
      cases z
      · repeat (first | refine Or.inl ⟨_, rfl, ?_⟩ | refine Or.inr ⟨_, rfl, ?_⟩ | array_get_dec)
        exact q
      · repeat (first | refine Or.inl ⟨_, rfl, ?_⟩ | refine Or.inr ⟨_, rfl, ?_⟩ | array_get_dec)
        exact q
    | @by' t z x d h ht =>
      refine ⟨_, rfl, _, _, _, _, _, rfl, .ty "tuple", ht, kTT K, _, rfl, _, rfl, _, _, rfl, .inr h, rfl, _, rfl, _, rfl, _, _, rfl, h, rfl, _, _, rfl, _, _, rfl, _, _, rfl, rfl, _, rfl, _, _, _, _, _, rfl, .ty "int", .base (.int _), kII K, _, rfl, _, rfl, _, _, _, _, _, rfl, .ty "int", .base (.bl _), kBI K, _, rfl, _, rfl, _, _, _, _, _, rfl, .ty "int", .base (.int _), kII K, _, rfl, ?_⟩
      cases z
      · repeat (first | refine Or.inl ⟨_, rfl, ?_⟩ | refine Or.inr ⟨_, rfl, ?_⟩ | array_get_dec)
        exact q
      · repeat (first | refine Or.inl ⟨_, rfl, ?_⟩ | refine Or.inr ⟨_, rfl, ?_⟩ | array_get_dec)
        exact q
    | @bd t x y h ht =>
      refine ⟨_, rfl, _, _, _, _, _, rfl, .ty "tuple", ht, kTT K, _, rfl, _, rfl, _, _, rfl, .inr h, rfl, _, rfl, _, rfl, _, _, rfl, h, rfl, _, _, rfl, _, _, rfl, _, _, rfl, rfl, _, rfl, _, _, _, _, _, rfl, .ty "int", .base (.int _), kII K, _, rfl, _, rfl, _, _, _, _, _, rfl, .ty "int", .base (.int _), kII K, _, rfl, _, rfl, _, _, _, _, _, rfl, .ty "int", .base (.bl _), kBI K, _, rfl, ?_⟩
      repeat (first | refine Or.inl ⟨_, rfl, ?_⟩ | refine Or.inr ⟨_, rfl, ?_⟩ | array_get_dec)
      exact q
    | @num t x y d h ht n =>
      refine ⟨_, rfl, _, _, _, _, _, rfl, .ty "tuple", ht, kTT K, _, rfl, _, rfl, _, _, rfl, .inr h, rfl, _, rfl, _, rfl, _, _, rfl, h, rfl, _, _, rfl, _, _, rfl, _, _, rfl, rfl, _, rfl, _, _, _, _, _, rfl, .ty "int", .base (.int _), kII K, _, rfl, _, rfl, _, _, _, _, _, rfl, .ty "int", .base (.int _), kII K, _, rfl, _, rfl, _, _, _, _, _, rfl, .ty "int", .base (.int _), kII K, _, rfl, ?_⟩
      repeat (first | refine Or.inl ⟨_, rfl, ?_⟩ | refine Or.inr ⟨_, rfl, ?_⟩ | array_get_dec)
      refine w_ifd (fun _ => q) fun n1 => ?_
      repeat (first | refine Or.inl ⟨_, rfl, ?_⟩ | refine Or.inr ⟨_, rfl, ?_⟩ | array_get_dec)
      refine w_ifd (p := -(10 ^ 30) < x) (fun n2 => ?_) fun n2 => ⟨_, rfl, q⟩
      repeat (first | refine Or.inl ⟨_, rfl, ?_⟩ | refine Or.inr ⟨_, rfl, ?_⟩ | array_get_dec)
      refine w_ifnd (p := x < 10 ^ 30) (fun n3 => ?_) fun n3 => q
      repeat (first | refine Or.inl ⟨_, rfl, ?_⟩ | refine Or.inr ⟨_, rfl, ?_⟩ | array_get_dec)
      refine w_ifd (p := -(10 ^ 30) < y) (fun n4 => ?_) fun n4 => ⟨_, rfl, q⟩
      repeat (first | refine Or.inl ⟨_, rfl, ?_⟩ | refine Or.inr ⟨_, rfl, ?_⟩ | array_get_dec)
      refine w_ifnd (p := y < 10 ^ 30) (fun n5 => ?_) fun n5 => q
      repeat (first | refine Or.inl ⟨_, rfl, ?_⟩ | refine Or.inr ⟨_, rfl, ?_⟩ | array_get_dec)
      refine w_ifd (p := 10 ^ 30 ≤ d) (fun _ => q) fun n6 => ?_
      have n7 : g3 x y d ≠ 1 := fun g => n ⟨n2, n3, n4, n5, Int.not_lt.mp n1, Int.not_le.mp n6, g⟩
      refine ⟨_, rfl, rfl, _, rfl, w_ifd (fun e => ?_) fun e => ?_⟩
      · have e : d = 1 := V.int.inj e
        subst e
        exact absurd (Nat.gcd_one_right _) n7
      · refine ⟨_, rfl, _, rfl, _, rfl, _, _, _, rfl, rfl, ?_⟩
        show Q (.bl (decide (V.int ((g3 x y d : Nat) : Int) = V.int 1))) H
        rw [decide_eq_false (fun e => n7 (by injection e with e; omega))]
        exact q
/-- a place, or what is none: InvalidBound with the name -/
def spCheckPG (K : PySem.W.Frag) (IB : Addr) : Sp := fun vs H Q E => ∃ (x : V) (z : Str), vs = [x, .str z] ∧ ((∃ (t : Addr) (a b d : Int), x = .ref t ∧ Pla H t a b d ∧ PlOk a b d ∧ Q .non H) ∨ (OddP K H x ∧ RaisesB IB z H E))
theorem ok_checkPG {f fS : Addr} {fd fdS : FuncData} {fI IB : Addr} {fdI : FuncData} {k : Nat} (F : Fun K "check_place" "check_place" sCheckP f fd)
    (GS : FnOk P w K mg base CX0 (k + 2) fS fdS ["value"] (fun vs H Q E => spIsPl vs H Q E ∨ spNoPl K vs H Q E)) (gS : mg "is_place" = some (.ref fS)) (kS : PySem.W.keepIn K (.ref fS) = true) (bS : Binds K fdS ["value"] []) (T : PassC K IB fI) (TF : FieldC K IB) (ht : PySem.W.takerIn K IB "argument" = some none) (GI : FnOk P w K mg base CX0 (k + 1) fI fdI ["self", "argument"] (spField K "argument")) (bI : Binds K fdI ["self", "argument"] []) (gIB : mg "InvalidBound" = some (.ref IB)) : FnOk P w K mg base (L2.CX P w) (k + 3) f fd ["value", "name"] (spCheckPG K IB) := by
  refine F.okX scCheckP (fun vs H Q E h => ?_) (fun cdv A outer s H vs Q E hr h => ?_)
  · obtain ⟨x, z, rfl, _⟩ := h
    rfl
  · obtain ⟨x, z, rfl, h⟩ := h
    refine ⟨_, pss_one (ps_if (pt_not (pt_val (pe_call GS (hr.mono (by omega)) (by rfl) gS kS bS .nil pass0 (pa_cons (pv 0) pa_nil)))) (pss_one (ps_raise rfl (takes_of (E := E) rfl rfl rfl rfl) (pmk_field T TF ht GI (hr.mono (by omega)) bI pass0 (by rfl) gIB (pv 1)))) pss_nil), ?_⟩
    rcases h with ⟨t, a, b, d, rfl, hs, p, q⟩ | ⟨hx, q⟩
    · exact ⟨_, rfl, .inl ⟨t, a, b, d, rfl, hs, p, _, rfl, q⟩⟩
    · exact ⟨_, rfl, .inr ⟨_, rfl, hx, _, rfl, _, rfl, fun d n => q d n⟩⟩
/-- nearer: no place, or one of the others is no site -/
inductive RfN (K : PySem.W.Frag) (H : Hp) : V → V → V → Str → Prop where
  | p {x y z : V} (h : OddP K H x) : RfN K H x y z "place"
  | a {p : Addr} {x y d : Int} {u v : V} (hp : Pla H p x y d) (po : PlOk x y d) (h : Odd K H u) : RfN K H (.ref p) u v "a"
  | b {p q : Addr} {x y d ax ay : Int} {v : V} (hp : Pla H p x y d) (po : PlOk x y d) (ha : Sit H q ax ay) (da : Bd 1000000 ax ay) (h : Odd K H v) : RfN K H (.ref p) (.ref q) v "b"
def spNearR (K : PySem.W.Frag) (IB : Addr) : Sp := fun vs H _ E => ∃ x y z n, vs = [x, y, z] ∧ RfN K H x y z n ∧ RaisesB IB n H E
theorem ok_nearR {f fP fC IB : Addr} {fd fdP fdC : FuncData} {k : Nat} (F : Fun K "nearer" "nearer" sNearer f fd) (GP : FnOk P w K mg base (L2.CX P w) (k) fP fdP ["value", "name"] (spCheckPG K IB)) (gP : mg "check_place" = some (.ref fP)) (kP : PySem.W.keepIn K (.ref fP) = true) (bP : Binds K fdP ["value", "name"] []) (GC : FnOk P w K mg base (L2.CX P w) (k) fC fdC ["value", "name"] (spCheckG K IB)) (gC : mg "check_site" = some (.ref fC)) (kC : PySem.W.keepIn K (.ref fC) = true) (bC : Binds K fdC ["value", "name"] []) : FnOk P w K mg base (L2.CX P w) (k + 1) f fd ["place", "a", "b"] (spNearR K IB) := by
  refine F.okX scNearer (fun vs H Q E h => ?_) (fun cdv A outer s H vs Q E hr h => ?_)
  · obtain ⟨x, y, z, n, rfl, _⟩ := h
    rfl
  · obtain ⟨x, y, z, n, rfl, hx, q⟩ := h
    refine ⟨_, (pss_cons (ps_expr (pe_call GP hr (by rfl) gP kP bP .nil (passes_call (takes_of (E := E) rfl rfl rfl rfl) fun _ _ _ _ h => h) (pa_cons (pv 0) (pa_cons pe_str pa_nil)))) (pss_cons (ps_expr (pe_call GC hr (by rfl) gC kC bC .nil (passes_call (takes_of (E := E) rfl rfl rfl rfl) fun _ _ _ _ h => h) (pa_cons (pv 1) (pa_cons pe_str pa_nil)))) (pss_cons (ps_expr (pe_call GC hr (by rfl) gC kC bC .nil (passes_call (takes_of (E := E) rfl rfl rfl rfl) fun _ _ _ _ h => h) (pa_cons (pv 2) (pa_cons pe_str pa_nil)))) pss_never))), ?_⟩
    cases hx with
    | p h => exact ⟨_, rfl, _, _, rfl, .inr ⟨h, q⟩⟩
    | a hp po h => exact ⟨_, rfl, _, _, rfl, .inl ⟨_, _, _, _, rfl, hp, po, _, rfl, _, _, rfl, .inr ⟨h, q⟩⟩⟩
    | b hp po ha da h => exact ⟨_, rfl, _, _, rfl, .inl ⟨_, _, _, _, rfl, hp, po, _, rfl, _, _, rfl, .inl ⟨_, _, _, rfl, ha, da, _, rfl, _, _, rfl, .inr ⟨h, q⟩⟩⟩⟩
/-- square: no place, or no site -/
inductive RfQ (K : PySem.W.Frag) (H : Hp) : V → V → Str → Prop where
  | p {x y : V} (h : OddP K H x) : RfQ K H x y "place"
  | s {p : Addr} {x y d : Int} {u : V} (hp : Pla H p x y d) (po : PlOk x y d) (h : Odd K H u) : RfQ K H (.ref p) u "site"
def spSquareR (K : PySem.W.Frag) (IB : Addr) : Sp := fun vs H _ E => ∃ x y n, vs = [x, y] ∧ RfQ K H x y n ∧ RaisesB IB n H E
theorem ok_squareR {f fP fC IB : Addr} {fd fdP fdC : FuncData} {k : Nat} (F : Fun K "square" "square" sSquare f fd) (GP : FnOk P w K mg base (L2.CX P w) (k) fP fdP ["value", "name"] (spCheckPG K IB)) (gP : mg "check_place" = some (.ref fP)) (kP : PySem.W.keepIn K (.ref fP) = true) (bP : Binds K fdP ["value", "name"] []) (GC : FnOk P w K mg base (L2.CX P w) (k) fC fdC ["value", "name"] (spCheckG K IB)) (gC : mg "check_site" = some (.ref fC)) (kC : PySem.W.keepIn K (.ref fC) = true) (bC : Binds K fdC ["value", "name"] []) : FnOk P w K mg base (L2.CX P w) (k + 1) f fd ["place", "site"] (spSquareR K IB) := by
  refine F.okX scSquare (fun vs H Q E h => ?_) (fun cdv A outer s H vs Q E hr h => ?_)
  · obtain ⟨x, y, n, rfl, _⟩ := h
    rfl
  · obtain ⟨x, y, n, rfl, hx, q⟩ := h
    refine ⟨_, (pss_cons (ps_expr (pe_call GP hr (by rfl) gP kP bP .nil (passes_call (takes_of (E := E) rfl rfl rfl rfl) fun _ _ _ _ h => h) (pa_cons (pv 0) (pa_cons pe_str pa_nil)))) (pss_cons (ps_expr (pe_call GC hr (by rfl) gC kC bC .nil (passes_call (takes_of (E := E) rfl rfl rfl rfl) fun _ _ _ _ h => h) (pa_cons (pv 1) (pa_cons pe_str pa_nil)))) pss_never)), ?_⟩
    cases hx with
    | p h => exact ⟨_, rfl, _, _, rfl, .inr ⟨h, q⟩⟩
    | s hp po h => exact ⟨_, rfl, _, _, rfl, .inl ⟨_, _, _, _, rfl, hp, po, _, rfl, _, _, rfl, .inr ⟨h, q⟩⟩⟩
end
/-! ### _law_raised, _law_all_raise -/
abbrev sRais : Stmt := topS 37
abbrev sAllR : Stmt := topS 38
theorem scRais : FnScope ["_law_call_here", "_law_found", "_law_e"] ["_law_call_here"] (defScope sRais) := ⟨rfl, rfl, rfl, by decide +kernel, rfl, by decide +kernel, by decide +kernel⟩
abbrev nAllR : List Str := ["_law_calls", "_law_due", "_law_call_here"]
theorem scAllR : FnScope nAllR ["_law_calls", "_law_due"] (defScope sAllR) := ⟨rfl, rfl, rfl, by decide +kernel, rfl, by decide +kernel, by decide +kernel⟩
section
variable {P : Program} {w : World} {K : PySem.W.Frag} {mg : Str → Option Value} {base : Heap}
def spRaised (P : Program) (w : World) (K : PySem.W.Frag) (mg : Str → Option Value) (base : Heap) (IB NC : Addr) (k : Nat) : Sp := fun vs H Q _ => ∃ f due, vs = [.ref f] ∧ Raiser P w K mg base IB NC k f H due ∧ ∀ H', Same H H' → Q (.str due) H'
theorem ok_raised {f IB NC CE : Addr} {fd : FuncData} {k : Nat} (F : Fun K "_law_raised" "_law_raised" sRais f fd) (mIB : mg "InvalidBound" = some (.ref IB)) (mNC : mg "NoCircle" = some (.ref NC)) (mCE : mg "CellError" = some (.ref CE))
    (T : XfC K IB) (hno : PySem.W.findIn K (.ref IB) "argument" = some none) (e1 : PySem.W.exmOne K (.ref IB) (.ref IB) = some true) (e2 : PySem.W.exmOne K (.ref NC) (.ref IB) = some false) (e3 : PySem.W.exmOne K (.ref NC) (.ref NC) = some true) :
    FnOk P w K mg base CX0 (k + 1) f fd ["_law_call_here"] (spRaised P w K mg base IB NC k) := by
  refine F.ok scRais (fun vs H Q E h => ?_) (fun cdv A outer s H vs Q E hr h => ?_)
  · obtain ⟨g, due, rfl, _⟩ := h
    rfl
  · obtain ⟨g, due, rfl, rs, q⟩ := h
    have nd := scRais.nd
    refine ⟨_, pss_cons (ps_set (i := 1) nd rfl (.inl rfl) pe_non) (pss_cons (ps_try_meets (X := (cxOf CX0 P w K mg base ["_law_call_here", "_law_found", "_law_e"] "_law_raised" (defScope sRais) f cdv A outer s H E).nox)
      (tb := fun W D σ H1 => ∃ (E : XK) (f : Addr) (fd : FuncData) (tl : XK → Hp → VK → Prop), (∀ cls d H', E cls d H' → W cls d σ H') ∧ σ[0]? = some (some (.ref f)) ∧ H1 f = some (LamO f { cls := .type "function", data := .func fd }) ∧ KCall P w K mg base k f tl ∧ tl E H1 (fun v H' => D.nx σ H'))
      (l := [(.ref IB, some 2, fun a cls d D σ H1 => tXf a cls d IB "argument" (tVar 2) σ H1 fun x H2 => gName 1 x σ H2 D.nx), (.ref NC, none, fun a cls d D σ H1 => gName 1 (.str "circle") σ H1 D.nx), (.ref CE, none, fun a cls d D σ H1 => gName 1 (.str "another") σ H1 D.nx)])
      rfl rfl nd (fun W pn xe tk => ?_) (.named ⟨by rfl, by decide, .inl mIB⟩ rfl rfl (fun a oe cls d pn hz hf => ?_) (.plain ⟨by rfl, by decide, .inl mNC⟩ (fun a oe cls d pn hz hf => ?_) (.plain ⟨by rfl, by decide, .inl mCE⟩ (fun a oe cls d pn hz hf => ?_) .nil)))) (pss_one (ps_ret (pv 1)))), ?_⟩
    · exact pss_one (ps_expr (pe_callT tk hr rfl (.inl rfl)))
    · exact pss_one (ps_set (i := 1) nd rfl (.inl rfl) (pe_xf (X := (cxOf CX0 P w K mg base ["_law_call_here", "_law_found", "_law_e"] "_law_raised" (defScope sRais) f cdv A outer s H E).nox) T hno hz hf (pv 2)))
    · exact pss_one (ps_set (i := 1) nd rfl (.inl rfl) pe_str)
    · exact pss_one (ps_set (i := 1) nd rfl (.inl rfl) pe_str)
    · obtain ⟨gd, tl, hg, kc, h⟩ := rs
      refine ⟨fun cls d H' => Same H H' ∧ ErrIs IB NC due cls d H', g, gd, tl, fun cls d H' z => ?_, rfl, hg, kc, ?_⟩
      · obtain ⟨sm, z⟩ := z
        rcases z with ⟨rfl, dd, rfl, hd⟩ | ⟨rfl, rfl⟩
        · exact ⟨true, e1, fun _ a na => ⟨_, rfl, rfl, rfl, dd, _, _, rfl, hd, rfl, _, rfl, q _ sm⟩, fun z => nomatch z⟩
        · exact ⟨false, e2, fun z => (nomatch z), fun _ => ⟨true, e3, fun _ a na => ⟨_, rfl, q _ sm⟩, fun z => nomatch z⟩⟩
      · exact h H (Same.refl H) _ _ fun cls d H' s1 z => ⟨s1, z⟩
def spAllR (P : Program) (w : World) (K : PySem.W.Frag) (mg : Str → Option Value) (base : Heap) (IB NC : Addr) (k : Nat) : Sp := fun vs H Q _ => ∃ (l : Addr) (fs : List Addr) (due : Str), vs = [.ref l, .str due] ∧ SqL K H l (fs.map V.ref) ∧ (∀ f ∈ fs, Raiser P w K mg base IB NC k f H due) ∧ ∀ H', Same H H' → Q (.bl true) H'
theorem ok_allr {f fR IB NC : Addr} {fd fdR : FuncData} {k : Nat} (F : Fun K "_law_all_raise" "_law_all_raise" sAllR f fd)
    (GR : FnOk P w K mg base CX0 (k + 1) fR fdR ["_law_call_here"] (spRaised P w K mg base IB NC k)) (gR : mg "_law_raised" = some (.ref fR)) (kR : PySem.W.keepIn K (.ref fR) = true) (bR : Binds K fdR ["_law_call_here"] []) :
    FnOk P w K mg base CX0 (k + 2) f fd ["_law_calls", "_law_due"] (spAllR P w K mg base IB NC k) := by
  refine F.ok scAllR (fun vs H Q E h => ?_) (fun cdv A outer s H vs Q E hr h => ?_)
  · obtain ⟨l, fs, due, rfl, _⟩ := h
    rfl
  · obtain ⟨l, fs, due, rfl, hl, rs, q⟩ := h
    have nd := scAllR.nd
    refine ⟨_, pss_one (ps_ret (pe_cmpR (op_eqD hr.units) (pe_lc (own := [("_law_call_here", 2)]) (g := gName 2) (tt := tTest (tOp rNe (tCall (spRaised P w K mg base IB NC k) [] E0 (tCons (tVar 2) tNil)) (tVar 1))) (te := tC (.int 1)) rfl nd (pi_list (pv 0))
      (blkOk_by (own := [("_law_call_here", 2)]) (N := nAllR) (sc := defScope sAllR) (by decide +kernel)) (fun _ _ _ _ _ => by exact pg_name (i := 2) nd rfl (.inl rfl))
      (fun _ _ _ _ _ => pts_one (by exact pt_cmpR op_ne (pe_call GR hr (by rfl) gR kR bR .nil pass0 (pa_cons (pv 2) pa_nil)) (pv 1) (nomark _))) (fun _ _ _ _ _ => by exact pe_int)) (pe_lst pa_nil) (nomark _))), ?_⟩
    refine ⟨_, rfl, l, rfl, ⟨_, hl⟩, fun D nD => ?_⟩
    refine lc_list (K := K) (a := l) (xs := fs.map V.ref) (fun i Hc => Same H Hc ∧ Hc D = some (.lst [])) ⟨Same.upd nD, upd_same⟩ (fun i Hc _ z => z.1.seq hl) ?_ ?_
    · rintro i x Hc hx ⟨sm, eD⟩
      obtain ⟨g, hg, rfl⟩ := List.mem_map.mp (List.mem_of_getElem? hx)
      refine ⟨rfl, _, rfl, g, due, rfl, (rs g hg).same sm, fun H' s' => ⟨_, rfl, rfl, _, rfl, ?_⟩⟩
      show if (!decide (V.str due = V.str due)) = true then _ else _
      rw [decide_eq_true rfl]
      exact ⟨sm.trans s', s' _ _ eD⟩
    · rintro Hc ⟨sm, eD⟩
      refine ⟨by show 0 ≤ sizeLine; decide, fun L nL => ?_⟩
      have e2 : (upd Hc L (.lst [])) D = some (.lst []) := (Same.upd nL) _ _ eD
      exact ⟨.list [], .list [], .lst (SqL.of e2) .nil, .lst (SqL.of upd_same) .nil, rfl, rfl, q _ (sm.trans (Same.upd nL))⟩
end
open LamX
/-! ### _law_sites_right -/
abbrev sSitesR : Stmt := topS 39
abbrev nSites : List Str := ["_law_deep", "_law_odds", "_law_calls", "_law_a", "_law_b", "_law_c", "_law_odd"]
theorem scSitesR : FnScope nSites ["_law_deep"] (defScope sSitesR) := ⟨rfl, rfl, rfl, by decide +kernel, rfl, by decide +kernel, by decide +kernel⟩
section
variable {P : Program} {w : World} {K : PySem.W.Frag} {mg : Str → Option Value} {base : Heap}
theorem NoInt.ext {H H' : Hp} {x : V} (e : ExtN H H') (h : NoInt K H x) : NoInt K H' x := let ⟨t, a, b⟩ := h; ⟨t, TyX.ext e a, b⟩
theorem IntK.ext {H H' : Hp} {x : V} (h : IntK K H x) : IntK K H' x := by
  cases h with
  | int n => exact .int n
  | bl b => exact .bl b
theorem Odd.ext {H H' : Hp} {x : V} (h : Odd K H x) (e : ExtN H H') : Odd K H' x := by
  cases h with
  | tup a b => exact .tup (TyX.ext e a) b
  | len a b c => exact .len (SqT.ext e a) (TyX.ext e b) c
  | u0 a b c => exact .u0 (SqT.ext e a) (TyX.ext e b) (c.ext e)
  | v0 a b c d => exact .v0 (SqT.ext e a) (TyX.ext e b) c.ext (d.ext e)
  | u1 a b d => exact .u1 (SqT.ext e a) (TyX.ext e b) d.ext
  | v1 a b => exact .v1 (SqT.ext e a) (TyX.ext e b)
  | far a b d => exact .far (SqT.ext e a) (TyX.ext e b) d
theorem Odd.same {H H' : Hp} {x : V} (h : Odd K H x) (e : Same H H') : Odd K H' x := h.ext (ExtN.same e)
theorem Sit.ext {H H' : Hp} {t : Addr} {x y : Int} (h : Sit H t x y) (e : ExtN H H') : Sit H' t x y := e _ _ h fun ps z => nomatch z
theorem nonOdd {H : Hp} : Odd K H .non := .tup nonT (kNT K)
theorem plO1 : PlOk 0 0 1 := ⟨by decide, by decide, by decide, by decide, by decide, by decide, by decide⟩
def spSitesR (T : List (Addr × Str)) : Sp := fun vs H Q _ => ∃ (t : Addr) (x : V), vs = [.ref t] ∧ H t = some (.tup [x]) ∧ Tabs T H ∧ ∀ H', ExtN H H' → Tabs T H' → Q (.bl true) H'
set_option maxHeartbeats 4000000
theorem ok_sitesr {f fSd fBt fCi fIc fLs fNe fSq fRa fAl IB NC cS PS : Addr} {fdSd fdBt fdCi fdIc fdLs fdNe fdSq fdRa fdAl : FuncData} {kV doc pm ct oc : Value} {an od : Option Addr} {osl : Array (Option Value)} {T : List (Addr × Str)}
    (lk : K.lookup f = some ⟨oc, od, .func (PySem.W.fnOf "_law_sites_right" "_law_sites_right" (defArgs sSitesR) (defBody sSitesR) (defScope sSitesR) .none kV doc pm an (.ref cS) ct), osl⟩) (hcd : PySem.W.codeIn K (.ref cS) "_law_sites_right" = true) (TB : TabB base mg cS PS)
    (hmT0 : (PS, (envOfC "_law_sites_right" (defScope sSitesR) 0 0 (.ref cS)).qual ++ "<lambda>") ∈ T) (huT0 : ∀ p ∈ T, p.1 = PS → p.2 = (envOfC "_law_sites_right" (defScope sSitesR) 0 0 (.ref cS)).qual ++ "<lambda>")
    (GSd : FnOk P w K mg base (L2.CX P w) 8 fSd fdSd ["a", "b", "c"] (spSideR K IB)) (gSd : mg "side" = some (.ref fSd)) (kSd : PySem.W.keepIn K (.ref fSd) = true) (bSd : Binds K fdSd ["a", "b", "c"] [])
    (GBt : FnOk P w K mg base (L2.CX P w) 8 fBt fdBt ["a", "b", "c"] (spThree K IB)) (gBt : mg "is_between" = some (.ref fBt)) (kBt : PySem.W.keepIn K (.ref fBt) = true) (bBt : Binds K fdBt ["a", "b", "c"] [])
    (GCi : FnOk P w K mg base (L2.CX P w) 8 fCi fdCi ["a", "b", "c"] (spThree K IB)) (gCi : mg "circle" = some (.ref fCi)) (kCi : PySem.W.keepIn K (.ref fCi) = true) (bCi : Binds K fdCi ["a", "b", "c"] [])
    (GIc : FnOk P w K mg base (L2.CX P w) 8 fIc fdIc ["a", "b", "c", "d"] (spFour K IB)) (gIc : mg "in_circle" = some (.ref fIc)) (kIc : PySem.W.keepIn K (.ref fIc) = true) (bIc : Binds K fdIc ["a", "b", "c", "d"] [])
    (GLs : FnOk P w K mg base (L2.CX P w) 8 fLs fdLs ["a", "b", "c", "d"] (spFour K IB)) (gLs : mg "lift_side" = some (.ref fLs)) (kLs : PySem.W.keepIn K (.ref fLs) = true) (bLs : Binds K fdLs ["a", "b", "c", "d"] [])
    (GNe : FnOk P w K mg base (L2.CX P w) 8 fNe fdNe ["place", "a", "b"] (spNearR K IB)) (gNe : mg "nearer" = some (.ref fNe)) (kNe : PySem.W.keepIn K (.ref fNe) = true) (bNe : Binds K fdNe ["place", "a", "b"] [])
    (GSq : FnOk P w K mg base (L2.CX P w) 8 fSq fdSq ["place", "site"] (spSquareR K IB)) (gSq : mg "square" = some (.ref fSq)) (kSq : PySem.W.keepIn K (.ref fSq) = true) (bSq : Binds K fdSq ["place", "site"] [])
    (GCiR : FnOk P w K mg base (L2.CX P w) 8 fCi fdCi ["a", "b", "c"] (spRow3 NC))
    (GIcR : FnOk P w K mg base (L2.CX P w) 8 fIc fdIc ["a", "b", "c", "d"] (spRow4 NC))
    (GLsR : FnOk P w K mg base (L2.CX P w) 8 fLs fdLs ["a", "b", "c", "d"] (spRow4 NC))
    (GIcD : FnOk P w K mg base (L2.CX P w) 8 fIc fdIc ["a", "b", "c", "d"] (spFourD K IB))
    (GLsD : FnOk P w K mg base (L2.CX P w) 8 fLs fdLs ["a", "b", "c", "d"] (spFourD K IB))
    (GBv : FnOk P w K mg base CX0 8 fBt fdBt ["a", "b", "c"] (sp3 K fun ax ay bx by' cx cy => .bl (ons ax ay bx by' cx cy)))
    (GRa : FnOk P w K mg base CX0 10 fRa fdRa ["_law_call_here"] (spRaised P w K mg base IB NC 9)) (gRa : mg "_law_raised" = some (.ref fRa)) (kRa : PySem.W.keepIn K (.ref fRa) = true) (bRa : Binds K fdRa ["_law_call_here"] [])
    (GAl : FnOk P w K mg base CX0 11 fAl fdAl ["_law_calls", "_law_due"] (spAllR P w K mg base IB NC 9)) (gAl : mg "_law_all_raise" = some (.ref fAl)) (kAl : PySem.W.keepIn K (.ref fAl) = true) (bAl : Binds K fdAl ["_law_calls", "_law_due"] []) :
    FnOk P w K mg base CX0 12 f (PySem.W.fnOf "_law_sites_right" "_law_sites_right" (defArgs sSitesR) (defBody sSitesR) (defScope sSitesR) .none kV doc pm an (.ref cS) ct) ["_law_deep"] (spSitesR T) := by
  refine fn_of lk hcd scSitesR (fun vs H Q E h => ?_) (fun A outer s0 H vs Q E hr h => ?_)
  · obtain ⟨t, x, rfl, _⟩ := h
    rfl
  · obtain ⟨td, xd, rfl, hD, tb, q⟩ := h
    have nd := scSitesR.nd
    let XY := cxOf CX0 P w K mg base nSites "_law_sites_right" (defScope sSitesR) f (.ref cS) A outer s0 H E
    let XX := XY.nox
    have hqq : XX.env.qual = (envOfC "_law_sites_right" (defScope sSitesR) 0 0 (.ref cS)).qual := rfl
    have hmT : (PS, XX.env.qual ++ "<lambda>") ∈ T := by
      rw [hqq]
      exact hmT0
    have huT : ∀ p ∈ T, p.1 = PS → p.2 = XX.env.qual ++ "<lambda>" := by
      rw [hqq]
      exact huT0
    have da : Bd 1000000 0 0 := ⟨by decide, by decide, by decide, by decide⟩
    have db : Bd 1000000 4 0 := ⟨by decide, by decide, by decide, by decide⟩
    have dc : Bd 1000000 1 3 := ⟨by decide, by decide, by decide, by decide⟩
    refine ⟨_, PSs.nox (X := XY) (pss_cons (ps_asg (pe_tupG (pa_cons (pe_tupG (pa_cons pe_int (pa_cons pe_int pa_nil))) (pa_cons (pe_tupG (pa_cons pe_int (pa_cons pe_int pa_nil))) (pa_cons (pe_tupG (pa_cons pe_int (pa_cons pe_int pa_nil))) pa_nil)))) (pg_tup (by rfl) (pgs_cons (pg_name (i := 3) nd rfl (.inr rfl)) (pgs_cons (pg_name (i := 4) nd rfl (.inr rfl)) (pgs_cons (pg_name (i := 5) nd rfl (.inr rfl)) pgs_nil))))) (pss_cons (ps_set (i := 1) nd rfl (.inl rfl) (pe_lstG (pa_cons pe_non (pa_cons pe_int (pa_cons pe_str (pa_cons (pe_lstG (pa_cons pe_int (pa_cons pe_int pa_nil))) (pa_cons (pe_tupG (pa_cons pe_int pa_nil)) (pa_cons (pe_tupG (pa_cons pe_int (pa_cons pe_int (pa_cons pe_int pa_nil)))) (pa_cons (pe_tupG (pa_cons pe_int (pa_cons pe_non pa_nil))) (pa_cons (pe_tupG (pa_cons pe_bl (pa_cons pe_int pa_nil))) (pa_cons (pe_tupG (pa_cons pe_int (pa_cons pe_bl pa_nil))) pa_nil))))))))))) (pss_cons (ps_set (i := 1) nd rfl (.inl rfl) (pe_op op_catG (pv 1) (pe_lstG (pa_cons (pe_tupG (pa_cons (pe_op op_add (pe_op op_pow pe_int pe_int) pe_int) (pa_cons pe_int pa_nil))) (pa_cons (pe_tupG (pa_cons pe_int (pa_cons (pe_op op_sub (pe_un un_neg (pe_op op_pow pe_int pe_int)) pe_int) pa_nil))) pa_nil))))) (pss_cons (ps_for PassesOwn.never rfl (pi_list (pe_op op_catG (pv 1) (pe_lstG (pa_cons pe_dicG (pa_cons (pe_tupG (pa_cons pe_str (pa_cons pe_int pa_nil))) (pa_cons (pe_tupG (pa_cons (pe_tupG (pa_cons pe_int pa_nil)) (pa_cons pe_int pa_nil))) (pa_cons (pv 0) (pa_cons (pe_tupG (pa_cons (pv 0) (pa_cons pe_int pa_nil))) (pa_cons (pe_tupG (pa_cons pe_int (pa_cons (pv 0) pa_nil))) pa_nil))))))))) (pg_name (i := 6) nd rfl (.inr rfl)) (pss_cons (ps_set (i := 2) nd rfl (.inl rfl) (pe_lstG (pa_cons (pe_lamN (X := XX) (T := T) TB rfl hmT huT (lamP_by (by show lamPB nSites (defScope sSitesR) _ = true; decide +kernel)) rfl) (pa_cons (pe_lamD (X := XX) (T := T) TB rfl hmT huT (lamP_by (by show lamPB nSites (defScope sSitesR) _ = true; decide +kernel)) rfl rfl pe_int) pa_nil)))) (pss_cons (ps_set (i := 2) nd rfl (.inl rfl) (pe_op op_catG (pv 2) (pe_lstG (pa_cons (pe_lamN (X := XX) (T := T) TB rfl hmT huT (lamP_by (by show lamPB nSites (defScope sSitesR) _ = true; decide +kernel)) rfl) (pa_cons (pe_lamD (X := XX) (T := T) TB rfl hmT huT (lamP_by (by show lamPB nSites (defScope sSitesR) _ = true; decide +kernel)) rfl rfl pe_int) pa_nil))))) (pss_cons (ps_set (i := 2) nd rfl (.inl rfl) (pe_op op_catG (pv 2) (pe_lstG (pa_cons (pe_lamN (X := XX) (T := T) TB rfl hmT huT (lamP_by (by show lamPB nSites (defScope sSitesR) _ = true; decide +kernel)) rfl) (pa_cons (pe_lamD (X := XX) (T := T) TB rfl hmT huT (lamP_by (by show lamPB nSites (defScope sSitesR) _ = true; decide +kernel)) rfl rfl pe_int) pa_nil))))) (pss_cons (ps_if (pt_not (pt_val (pe_lend (X := XX) GAl hr (by rfl) gAl kAl bAl .nil (fun _ => rfl) (pa_cons (pv 2) (pa_cons pe_str pa_nil))))) (pss_one (ps_ret pe_bl)) pss_nil) (pss_cons (ps_set (i := 2) nd rfl (.inl rfl) (pe_lstG (pa_cons (pe_lamN (X := XX) (T := T) TB rfl hmT huT (lamP_by (by show lamPB nSites (defScope sSitesR) _ = true; decide +kernel)) rfl) (pa_cons (pe_lamD (X := XX) (T := T) TB rfl hmT huT (lamP_by (by show lamPB nSites (defScope sSitesR) _ = true; decide +kernel)) rfl rfl pe_int) pa_nil)))) (pss_cons (ps_set (i := 2) nd rfl (.inl rfl) (pe_op op_catG (pv 2) (pe_lstG (pa_cons (pe_lamD (X := XX) (T := T) TB rfl hmT huT (lamP_by (by show lamPB nSites (defScope sSitesR) _ = true; decide +kernel)) rfl rfl pe_int) pa_nil)))) (pss_cons (ps_set (i := 2) nd rfl (.inl rfl) (pe_op op_catG (pv 2) (pe_lstG (pa_cons (pe_lamN (X := XX) (T := T) TB rfl hmT huT (lamP_by (by show lamPB nSites (defScope sSitesR) _ = true; decide +kernel)) rfl) (pa_cons (pe_lamD (X := XX) (T := T) TB rfl hmT huT (lamP_by (by show lamPB nSites (defScope sSitesR) _ = true; decide +kernel)) rfl rfl pe_int) pa_nil))))) (pss_cons (ps_if (pt_not (pt_val (pe_lend (X := XX) GAl hr (by rfl) gAl kAl bAl .nil (fun _ => rfl) (pa_cons (pe_op op_catG (pv 2) (pe_lstG (pa_cons (pe_lamN (X := XX) (T := T) TB rfl hmT huT (lamP_by (by show lamPB nSites (defScope sSitesR) _ = true; decide +kernel)) rfl) pa_nil))) (pa_cons pe_str pa_nil))))) (pss_one (ps_ret pe_bl)) pss_nil) (pss_cons (ps_set (i := 2) nd rfl (.inl rfl) (pe_lstG (pa_cons (pe_lamN (X := XX) (T := T) TB rfl hmT huT (lamP_by (by show lamPB nSites (defScope sSitesR) _ = true; decide +kernel)) rfl) (pa_cons (pe_lamD (X := XX) (T := T) TB rfl hmT huT (lamP_by (by show lamPB nSites (defScope sSitesR) _ = true; decide +kernel)) rfl rfl pe_int) (pa_cons (pe_lamD (X := XX) (T := T) TB rfl hmT huT (lamP_by (by show lamPB nSites (defScope sSitesR) _ = true; decide +kernel)) rfl rfl pe_int) pa_nil))))) (pss_cons (ps_set (i := 2) nd rfl (.inl rfl) (pe_op op_catG (pv 2) (pe_lstG (pa_cons (pe_lamN (X := XX) (T := T) TB rfl hmT huT (lamP_by (by show lamPB nSites (defScope sSitesR) _ = true; decide +kernel)) rfl) (pa_cons (pe_lamD (X := XX) (T := T) TB rfl hmT huT (lamP_by (by show lamPB nSites (defScope sSitesR) _ = true; decide +kernel)) rfl rfl pe_int) pa_nil))))) (pss_cons (ps_if (pt_not (pt_val (pe_lend (X := XX) GAl hr (by rfl) gAl kAl bAl .nil (fun _ => rfl) (pa_cons (pv 2) (pa_cons pe_str pa_nil))))) (pss_one (ps_ret pe_bl)) pss_nil) (pss_cons (ps_set (i := 2) nd rfl (.inl rfl) (pe_lstG (pa_cons (pe_lamN (X := XX) (T := T) TB rfl hmT huT (lamP_by (by show lamPB nSites (defScope sSitesR) _ = true; decide +kernel)) rfl) (pa_cons (pe_lamD (X := XX) (T := T) TB rfl hmT huT (lamP_by (by show lamPB nSites (defScope sSitesR) _ = true; decide +kernel)) rfl rfl pe_int) pa_nil)))) (pss_one (ps_if (PW.pt (pw_or (pt_not (pt_val (pe_lend (X := XX) GAl hr (by rfl) gAl kAl bAl .nil (fun _ => rfl) (pa_cons (pv 2) (pa_cons pe_str pa_nil))))) (pw_or1 (pt_cmpR op_ne (pe_lend (X := XX) GRa (hr.mono (by omega)) (by rfl) gRa kRa bRa .nil (fun _ => rfl) (pa_cons (pe_lamN (X := XX) (T := T) TB rfl hmT huT (lamP_by (by show lamPB nSites (defScope sSitesR) _ = true; decide +kernel)) rfl) pa_nil)) pe_str (nomark _))))) (pss_one (ps_ret pe_bl)) pss_nil))))))))))))))) (pss_cons (ps_set (i := 2) nd rfl (.inl rfl) (pe_lstG (pa_cons (pe_lamN (X := XX) (T := T) TB rfl hmT huT (lamP_by (by show lamPB nSites (defScope sSitesR) _ = true; decide +kernel)) rfl) (pa_cons (pe_lamD (X := XX) (T := T) TB rfl hmT huT (lamP_by (by show lamPB nSites (defScope sSitesR) _ = true; decide +kernel)) rfl rfl pe_int) (pa_cons (pe_lamD (X := XX) (T := T) TB rfl hmT huT (lamP_by (by show lamPB nSites (defScope sSitesR) _ = true; decide +kernel)) rfl rfl pe_int) pa_nil))))) (pss_cons (ps_if (pt_not (pt_val (pe_lend (X := XX) GAl hr (by rfl) gAl kAl bAl .nil (fun _ => rfl) (pa_cons (pe_op op_catG (pv 2) (pe_lstG (pa_cons (pe_lamN (X := XX) (T := T) TB rfl hmT huT (lamP_by (by show lamPB nSites (defScope sSitesR) _ = true; decide +kernel)) rfl) pa_nil))) (pa_cons pe_str pa_nil))))) (pss_one (ps_ret pe_bl)) pss_nil) (pss_cons (ps_if (pt_not (pt_cmpR op_eq (pe_lend (X := XX) GRa (hr.mono (by omega)) (by rfl) gRa kRa bRa .nil (fun _ => rfl) (pa_cons (pe_lamN (X := XX) (T := T) TB rfl hmT huT (lamP_by (by show lamPB nSites (defScope sSitesR) _ = true; decide +kernel)) rfl) pa_nil)) pe_str (nomark _))) (pss_one (ps_ret pe_bl)) pss_nil) (pss_cons (ps_if (pt_not (pt_cmpR op_is_bl (pe_call GBv (hr.mono (by omega)) (by rfl) gBt kBt bBt .nil pass0 (pa_cons (pv 3) (pa_cons (pv 3) (pa_cons (pv 3) pa_nil)))) pe_bl (nomark _))) (pss_one (ps_ret pe_bl)) pss_nil) (pss_one (ps_ret (pe_cmpR op_is_bl (pe_call GBv (hr.mono (by omega)) (by rfl) gBt kBt bBt .nil pass0 (pa_cons (pv 3) (pa_cons (pv 3) (pa_cons (pv 4) pa_nil)))) pe_bl (nomark _)))))))))))), ?_⟩
    refine ⟨by show 2 ≤ sizeLine; decide, fun pa A1 ya1 na1 epa => ?_⟩
    replace tb := TabsExt tb ya1
    refine ⟨by show 2 ≤ sizeLine; decide, fun pb A2 ya2 na2 epb => ?_⟩
    replace tb := TabsExt tb ya2
    refine ⟨by show 2 ≤ sizeLine; decide, fun pc A3 ya3 na3 epc => ?_⟩
    replace tb := TabsExt tb ya3
    refine ⟨by show 3 ≤ sizeLine; decide, fun pt A4 ya4 na4 ept => ?_⟩
    replace tb := TabsExt tb ya4
    refine ⟨_, _, rfl, SqT.of ept, rfl, _, _, rfl, _, _, rfl, _, _, rfl, rfl, ?_⟩
    refine ⟨by show 2 ≤ sizeLine; decide, fun p4 A5 ya5 na5 ep4 => ?_⟩
    replace tb := TabsExt tb ya5
    refine ⟨by show 1 ≤ sizeLine; decide, fun p5 A6 ya6 na6 ep5 => ?_⟩
    replace tb := TabsExt tb ya6
    refine ⟨by show 3 ≤ sizeLine; decide, fun p6 A7 ya7 na7 ep6 => ?_⟩
    replace tb := TabsExt tb ya7
    refine ⟨by show 2 ≤ sizeLine; decide, fun p7 A8 ya8 na8 ep7 => ?_⟩
    replace tb := TabsExt tb ya8
    refine ⟨by show 2 ≤ sizeLine; decide, fun p8 A9 ya9 na9 ep8 => ?_⟩
    replace tb := TabsExt tb ya9
    refine ⟨by show 2 ≤ sizeLine; decide, fun p9 A10 ya10 na10 ep9 => ?_⟩
    replace tb := TabsExt tb ya10
    refine ⟨by show 9 ≤ sizeLine; decide, fun lo1 A11 ya11 na11 elo1 => ?_⟩
    replace tb := TabsExt tb ya11
    refine ⟨_, rfl, _, _, rfl, rfl, ⟨by decide, by decide, by decide⟩, _, _, rfl, rfl, ?_⟩
    refine ⟨by show 2 ≤ sizeLine; decide, fun p10 A12 ya12 na12 ep10 => ?_⟩
    replace tb := TabsExt tb ya12
    refine ⟨_, _, rfl, rfl, ⟨by decide, by decide, by decide⟩, _, rfl, _, _, rfl, rfl, ?_⟩
    refine ⟨by show 2 ≤ sizeLine; decide, fun p11 A13 ya13 na13 ep11 => ?_⟩
    replace tb := TabsExt tb ya13
    refine ⟨by show 2 ≤ sizeLine; decide, fun lo2 A14 ya14 na14 elo2 => ?_⟩
    replace tb := TabsExt tb ya14
    refine ⟨_, _, _, _, rfl, rfl, ((((ExtN.same ya12).trans (ExtN.same ya13)).trans (ExtN.same ya14)) _ _ elo1 (fun ps z => nomatch z)), elo2, by show 11 ≤ sizeLine; decide, fun lo3 A15 ya15 na15 elo3 => ?_⟩
    replace tb := TabsExt tb ya15
    refine ⟨_, rfl, ?_⟩
    refine fun p12 A16 ya16 na16 ep12 => ?_
    replace tb := TabsExt tb ya16
    refine ⟨by show 2 ≤ sizeLine; decide, fun p13 A17 ya17 na17 ep13 => ?_⟩
    replace tb := TabsExt tb ya17
    refine ⟨by show 1 ≤ sizeLine; decide, fun p14i A18 ya18 na18 ep14i => ?_⟩
    replace tb := TabsExt tb ya18
    refine ⟨by show 2 ≤ sizeLine; decide, fun p14 A19 ya19 na19 ep14 => ?_⟩
    replace tb := TabsExt tb ya19
    refine ⟨_, rfl, _, rfl, ?_⟩
    refine ⟨by show 2 ≤ sizeLine; decide, fun p16 A20 ya20 na20 ep16 => ?_⟩
    replace tb := TabsExt tb ya20
    refine ⟨_, rfl, ?_⟩
    refine ⟨by show 2 ≤ sizeLine; decide, fun p17 A21 ya21 na21 ep17 => ?_⟩
    replace tb := TabsExt tb ya21
    refine ⟨by show 6 ≤ sizeLine; decide, fun lo4 A22 ya22 na22 elo4 => ?_⟩
    replace tb := TabsExt tb ya22
    refine ⟨_, _, _, _, rfl, rfl, ((((((((ExtN.same ya16).trans (ExtN.same ya17)).trans (ExtN.same ya18)).trans (ExtN.same ya19)).trans (ExtN.same ya20)).trans (ExtN.same ya21)).trans (ExtN.same ya22)) _ _ elo3 (fun ps z => nomatch z)), elo4, by show 17 ≤ sizeLine; decide, fun lo5 Zb yb nb elo5 => ?_⟩
    replace tb := TabsExt tb yb
    have hpa := (((((((((((((((((((((((ExtN.same ya2).trans (ExtN.same ya3)).trans (ExtN.same ya4)).trans (ExtN.same ya5)).trans (ExtN.same ya6)).trans (ExtN.same ya7)).trans (ExtN.same ya8)).trans (ExtN.same ya9)).trans (ExtN.same ya10)).trans (ExtN.same ya11)).trans (ExtN.same ya12)).trans (ExtN.same ya13)).trans (ExtN.same ya14)).trans (ExtN.same ya15)).trans (ExtN.same ya16)).trans (ExtN.same ya17)).trans (ExtN.same ya18)).trans (ExtN.same ya19)).trans (ExtN.same ya20)).trans (ExtN.same ya21)).trans (ExtN.same ya22)).trans (ExtN.same yb)) _ _ epa (fun ps z => nomatch z))
    have hpb := ((((((((((((((((((((((ExtN.same ya3).trans (ExtN.same ya4)).trans (ExtN.same ya5)).trans (ExtN.same ya6)).trans (ExtN.same ya7)).trans (ExtN.same ya8)).trans (ExtN.same ya9)).trans (ExtN.same ya10)).trans (ExtN.same ya11)).trans (ExtN.same ya12)).trans (ExtN.same ya13)).trans (ExtN.same ya14)).trans (ExtN.same ya15)).trans (ExtN.same ya16)).trans (ExtN.same ya17)).trans (ExtN.same ya18)).trans (ExtN.same ya19)).trans (ExtN.same ya20)).trans (ExtN.same ya21)).trans (ExtN.same ya22)).trans (ExtN.same yb)) _ _ epb (fun ps z => nomatch z))
    have hpc := (((((((((((((((((((((ExtN.same ya4).trans (ExtN.same ya5)).trans (ExtN.same ya6)).trans (ExtN.same ya7)).trans (ExtN.same ya8)).trans (ExtN.same ya9)).trans (ExtN.same ya10)).trans (ExtN.same ya11)).trans (ExtN.same ya12)).trans (ExtN.same ya13)).trans (ExtN.same ya14)).trans (ExtN.same ya15)).trans (ExtN.same ya16)).trans (ExtN.same ya17)).trans (ExtN.same ya18)).trans (ExtN.same ya19)).trans (ExtN.same ya20)).trans (ExtN.same ya21)).trans (ExtN.same ya22)).trans (ExtN.same yb)) _ _ epc (fun ps z => nomatch z))
    have hDb := (((((((((((((((((((((((ExtN.same ya1).trans (ExtN.same ya2)).trans (ExtN.same ya3)).trans (ExtN.same ya4)).trans (ExtN.same ya5)).trans (ExtN.same ya6)).trans (ExtN.same ya7)).trans (ExtN.same ya8)).trans (ExtN.same ya9)).trans (ExtN.same ya10)).trans (ExtN.same ya11)).trans (ExtN.same ya12)).trans (ExtN.same ya13)).trans (ExtN.same ya14)).trans (ExtN.same ya15)).trans (ExtN.same ya16)).trans (ExtN.same ya17)).trans (ExtN.same ya18)).trans (ExtN.same ya19)).trans (ExtN.same ya20)).trans (ExtN.same ya21)).trans (ExtN.same ya22)).trans (ExtN.same yb)) _ _ hD (fun ps z => nomatch z)
    have hp4 := (((((((((((((((((((ExtN.same ya6).trans (ExtN.same ya7)).trans (ExtN.same ya8)).trans (ExtN.same ya9)).trans (ExtN.same ya10)).trans (ExtN.same ya11)).trans (ExtN.same ya12)).trans (ExtN.same ya13)).trans (ExtN.same ya14)).trans (ExtN.same ya15)).trans (ExtN.same ya16)).trans (ExtN.same ya17)).trans (ExtN.same ya18)).trans (ExtN.same ya19)).trans (ExtN.same ya20)).trans (ExtN.same ya21)).trans (ExtN.same ya22)).trans (ExtN.same yb)) _ _ ep4 (fun ps z => nomatch z))
    have hp5 := ((((((((((((((((((ExtN.same ya7).trans (ExtN.same ya8)).trans (ExtN.same ya9)).trans (ExtN.same ya10)).trans (ExtN.same ya11)).trans (ExtN.same ya12)).trans (ExtN.same ya13)).trans (ExtN.same ya14)).trans (ExtN.same ya15)).trans (ExtN.same ya16)).trans (ExtN.same ya17)).trans (ExtN.same ya18)).trans (ExtN.same ya19)).trans (ExtN.same ya20)).trans (ExtN.same ya21)).trans (ExtN.same ya22)).trans (ExtN.same yb)) _ _ ep5 (fun ps z => nomatch z))
    have hp6 := (((((((((((((((((ExtN.same ya8).trans (ExtN.same ya9)).trans (ExtN.same ya10)).trans (ExtN.same ya11)).trans (ExtN.same ya12)).trans (ExtN.same ya13)).trans (ExtN.same ya14)).trans (ExtN.same ya15)).trans (ExtN.same ya16)).trans (ExtN.same ya17)).trans (ExtN.same ya18)).trans (ExtN.same ya19)).trans (ExtN.same ya20)).trans (ExtN.same ya21)).trans (ExtN.same ya22)).trans (ExtN.same yb)) _ _ ep6 (fun ps z => nomatch z))
    have hp7 := ((((((((((((((((ExtN.same ya9).trans (ExtN.same ya10)).trans (ExtN.same ya11)).trans (ExtN.same ya12)).trans (ExtN.same ya13)).trans (ExtN.same ya14)).trans (ExtN.same ya15)).trans (ExtN.same ya16)).trans (ExtN.same ya17)).trans (ExtN.same ya18)).trans (ExtN.same ya19)).trans (ExtN.same ya20)).trans (ExtN.same ya21)).trans (ExtN.same ya22)).trans (ExtN.same yb)) _ _ ep7 (fun ps z => nomatch z))
    have hp8 := (((((((((((((((ExtN.same ya10).trans (ExtN.same ya11)).trans (ExtN.same ya12)).trans (ExtN.same ya13)).trans (ExtN.same ya14)).trans (ExtN.same ya15)).trans (ExtN.same ya16)).trans (ExtN.same ya17)).trans (ExtN.same ya18)).trans (ExtN.same ya19)).trans (ExtN.same ya20)).trans (ExtN.same ya21)).trans (ExtN.same ya22)).trans (ExtN.same yb)) _ _ ep8 (fun ps z => nomatch z))
    have hp9 := ((((((((((((((ExtN.same ya11).trans (ExtN.same ya12)).trans (ExtN.same ya13)).trans (ExtN.same ya14)).trans (ExtN.same ya15)).trans (ExtN.same ya16)).trans (ExtN.same ya17)).trans (ExtN.same ya18)).trans (ExtN.same ya19)).trans (ExtN.same ya20)).trans (ExtN.same ya21)).trans (ExtN.same ya22)).trans (ExtN.same yb)) _ _ ep9 (fun ps z => nomatch z))
    have hp10 := ((((((((((((ExtN.same ya13).trans (ExtN.same ya14)).trans (ExtN.same ya15)).trans (ExtN.same ya16)).trans (ExtN.same ya17)).trans (ExtN.same ya18)).trans (ExtN.same ya19)).trans (ExtN.same ya20)).trans (ExtN.same ya21)).trans (ExtN.same ya22)).trans (ExtN.same yb)) _ _ ep10 (fun ps z => nomatch z))
    have hp11 := (((((((((((ExtN.same ya14).trans (ExtN.same ya15)).trans (ExtN.same ya16)).trans (ExtN.same ya17)).trans (ExtN.same ya18)).trans (ExtN.same ya19)).trans (ExtN.same ya20)).trans (ExtN.same ya21)).trans (ExtN.same ya22)).trans (ExtN.same yb)) _ _ ep11 (fun ps z => nomatch z))
    have hp12 := ((((((((ExtN.same ya17).trans (ExtN.same ya18)).trans (ExtN.same ya19)).trans (ExtN.same ya20)).trans (ExtN.same ya21)).trans (ExtN.same ya22)).trans (ExtN.same yb)) _ _ ep12 (fun ps z => nomatch z))
    have hp13 := (((((((ExtN.same ya18).trans (ExtN.same ya19)).trans (ExtN.same ya20)).trans (ExtN.same ya21)).trans (ExtN.same ya22)).trans (ExtN.same yb)) _ _ ep13 (fun ps z => nomatch z))
    have hp14i := ((((((ExtN.same ya19).trans (ExtN.same ya20)).trans (ExtN.same ya21)).trans (ExtN.same ya22)).trans (ExtN.same yb)) _ _ ep14i (fun ps z => nomatch z))
    have hp14 := (((((ExtN.same ya20).trans (ExtN.same ya21)).trans (ExtN.same ya22)).trans (ExtN.same yb)) _ _ ep14 (fun ps z => nomatch z))
    have hp16 := ((((ExtN.same ya21).trans (ExtN.same ya22)).trans (ExtN.same yb)) _ _ ep16 (fun ps z => nomatch z))
    have hp17 := (((ExtN.same ya22).trans (ExtN.same yb)) _ _ ep17 (fun ps z => nomatch z))
    have odds : ∀ x ∈ ([V.non, .int 5, .str "ab", .ref p4, .ref p5, .ref p6, .ref p7, .ref p8, .ref p9, .ref p10, .ref p11, .ref p12, .ref p13, .ref p14, .ref td, .ref p16, .ref p17] : List V), Odd K Zb x := fun x hx => by
      simp only [List.mem_cons, List.not_mem_nil, or_false] at hx
      rcases hx with rfl | rfl | rfl | rfl | rfl | rfl | rfl | rfl | rfl | rfl | rfl | rfl | rfl | rfl | rfl | rfl | rfl
      · exact nonOdd
      · exact .tup (.base (.int 5)) (kit_ty (by decide +kernel))
      · exact .tup (.base (.str _)) (kit_ty (by decide +kernel))
      · exact .tup (.base (.lst hp4)) (kit_ty (by decide +kernel))
      · exact .len (SqT.of hp5) (.base (.tup hp5)) (by decide)
      · exact .len (SqT.of hp6) (.base (.tup hp6)) (by decide)
      · exact .v0 (SqT.of hp7) (.base (.tup hp7)) (.int 0) ⟨_, nonT, (kit_ty (by decide +kernel))⟩
      · exact .u1 (SqT.of hp8) (.base (.tup hp8)) (.int 0)
      · exact .v1 (SqT.of hp9) (.base (.tup hp9))
      · exact .far (SqT.of hp10) (.base (.tup hp10)) (by decide)
      · exact .far (SqT.of hp11) (.base (.tup hp11)) (by decide)
      · exact .tup (.base (.dK hp12)) (kit_ty (by decide +kernel))
      · exact .u0 (SqT.of hp13) (.base (.tup hp13)) ⟨_, .base (.str _), (kit_ty (by decide +kernel))⟩
      · exact .u0 (SqT.of hp14) (.base (.tup hp14)) ⟨_, .base (.tup hp14i), (kit_ty (by decide +kernel))⟩
      · exact .len (SqT.of hDb) (.base (.tup hDb)) (by simp)
      · exact .u0 (SqT.of hp16) (.base (.tup hp16)) ⟨_, .base (.tup hDb), (kit_ty (by decide +kernel))⟩
      · exact .v0 (SqT.of hp17) (.base (.tup hp17)) (.int 0) ⟨_, .base (.tup hDb), (kit_ty (by decide +kernel))⟩
    have xH : ExtN H Zb := (((((((((((((((((((((((ExtN.same ya1).trans (ExtN.same ya2)).trans (ExtN.same ya3)).trans (ExtN.same ya4)).trans (ExtN.same ya5)).trans (ExtN.same ya6)).trans (ExtN.same ya7)).trans (ExtN.same ya8)).trans (ExtN.same ya9)).trans (ExtN.same ya10)).trans (ExtN.same ya11)).trans (ExtN.same ya12)).trans (ExtN.same ya13)).trans (ExtN.same ya14)).trans (ExtN.same ya15)).trans (ExtN.same ya16)).trans (ExtN.same ya17)).trans (ExtN.same ya18)).trans (ExtN.same ya19)).trans (ExtN.same ya20)).trans (ExtN.same ya21)).trans (ExtN.same ya22)).trans (ExtN.same yb))
    refine ⟨_, rfl, ⟨_, SqL.of elo5⟩, for_list (K := K) (a := lo5) (xs := [V.non, .int 5, .str "ab", .ref p4, .ref p5, .ref p6, .ref p7, .ref p8, .ref p9, .ref p10, .ref p11, .ref p12, .ref p13, .ref p14, .ref td, .ref p16, .ref p17]) (fun i σ' H' => (∃ y2 y6, σ' = [some (.ref td), some (.ref lo3), y2, some (.ref pa), some (.ref pb), some (.ref pc), y6]) ∧ ExtN Zb H' ∧ Tabs T H') ⟨⟨_, _, rfl⟩, ExtN.refl _, tb⟩ (fun i σ' H' _ z => SqL.ext z.2.1 (SqL.of elo5)) ?_ ?_⟩
    · rintro i x σ' Z0 hx ⟨⟨y2, y6, rfl⟩, xb, tb⟩
      have hO0 := (odds x (List.mem_of_getElem? hx)).ext xb
      have ha0 : Sit Z0 pa 0 0 := Sit.ext hpa xb
      have hb0 : Sit Z0 pb 4 0 := Sit.ext hpb xb
      have hc0 : Sit Z0 pc 1 3 := Sit.ext hpc xb
      refine ⟨tb, fun f1 c1 dd1 p1 v1 G1 x1 t1 n1 l1 o1 => ?_⟩
      replace tb := t1
      refine ⟨tb, fun f2 c2 tt2 u2 dd2 p2 v2 G2 ru2 x2 t2 n2 l2 o2 h2 => ?_⟩
      replace tb := t2
      refine ⟨by show 2 ≤ sizeLine; decide, fun L3 K3 y3 m3 e3 => ?_⟩
      replace tb := TabsExt tb y3
      refine ⟨_, rfl, ?_⟩
      refine ⟨tb, fun f4 c4 dd4 p4 v4 G4 x4 t4 n4 l4 o4 => ?_⟩
      replace tb := t4
      refine ⟨tb, fun f5 c5 tt5 u5 dd5 p5 v5 G5 ru5 x5 t5 n5 l5 o5 h5 => ?_⟩
      replace tb := t5
      refine ⟨by show 2 ≤ sizeLine; decide, fun L6 K6 y6 m6 e6 => ?_⟩
      replace tb := TabsExt tb y6
      refine ⟨_, _, _, _, rfl, rfl, (((x4.trans x5).trans (ExtN.same y6)) _ _ e3 (fun ps z => nomatch z)), e6, by show 4 ≤ sizeLine; decide, fun L7 K7 y7 m7 e7 => ?_⟩
      replace tb := TabsExt tb y7
      refine ⟨_, rfl, ?_⟩
      refine ⟨tb, fun f8 c8 dd8 p8 v8 G8 x8 t8 n8 l8 o8 => ?_⟩
      replace tb := t8
      refine ⟨tb, fun f9 c9 tt9 u9 dd9 p9 v9 G9 ru9 x9 t9 n9 l9 o9 h9 => ?_⟩
      replace tb := t9
      refine ⟨by show 2 ≤ sizeLine; decide, fun L10 K10 y10 m10 e10 => ?_⟩
      replace tb := TabsExt tb y10
      refine ⟨_, _, _, _, rfl, rfl, (((x8.trans x9).trans (ExtN.same y10)) _ _ e7 (fun ps z => nomatch z)), e10, by show 6 ≤ sizeLine; decide, fun L11 K11 y11 m11 e11 => ?_⟩
      replace tb := TabsExt tb y11
      have hO := Odd.ext hO0 ((((((((((x1.trans x2).trans (ExtN.same y3)).trans x4).trans x5).trans (ExtN.same y6)).trans (ExtN.same y7)).trans x8).trans x9).trans (ExtN.same y10)).trans (ExtN.same y11))
      have ha := Sit.ext ha0 ((((((((((x1.trans x2).trans (ExtN.same y3)).trans x4).trans x5).trans (ExtN.same y6)).trans (ExtN.same y7)).trans x8).trans x9).trans (ExtN.same y10)).trans (ExtN.same y11))
      have hb := Sit.ext hb0 ((((((((((x1.trans x2).trans (ExtN.same y3)).trans x4).trans x5).trans (ExtN.same y6)).trans (ExtN.same y7)).trans x8).trans x9).trans (ExtN.same y10)).trans (ExtN.same y11))
      have hc := Sit.ext hc0 ((((((((((x1.trans x2).trans (ExtN.same y3)).trans x4).trans x5).trans (ExtN.same y6)).trans (ExtN.same y7)).trans x8).trans x9).trans (ExtN.same y10)).trans (ExtN.same y11))
      refine ⟨_, rfl, fun H2 s2 xs le back => ⟨_, [f1, f2, f4, f5, f8, f9], _, rfl, SqL.of (s2 _ _ e11), fun q hq => ?_, fun N12 s3 => ?_⟩⟩
      · simp only [List.mem_cons, List.not_mem_nil, or_false] at hq
        rcases hq with rfl | rfl | rfl | rfl | rfl | rfl
        · exact raiserN (X := XX) (H1 := K11) (tb := (fun E => tCall (spSideR K IB) [] E (tCons (tVar 6) (tCons (tC .non) (tCons (tC .non) tNil))))) xs (lamP_by (by show lamPB nSites (defScope sSitesR) _ = true; decide +kernel)) rfl (fun A outer s H E hr' => by exact (pe_call GSd hr' (by rfl) gSd kSd bSd .nil (passes_call (takes_of (E := E) rfl rfl rfl rfl) fun _ _ _ _ h => h) (pa_cons (pv 6) (pa_cons pe_non (pa_cons pe_non pa_nil))))) (s2 _ _ ((((((((((x2.trans (ExtN.same y3)).trans x4).trans x5).trans (ExtN.same y6)).trans (ExtN.same y7)).trans x8).trans x9).trans (ExtN.same y10)).trans (ExtN.same y11)) _ _ l1 lamO_tbl)) (s2 _ _ ((((((((((x2.trans (ExtN.same y3)).trans x4).trans x5).trans (ExtN.same y6)).trans (ExtN.same y7)).trans x8).trans x9).trans (ExtN.same y10)).trans (ExtN.same y11)) _ _ o1 codeO_ne)) le back (fun H4 E Q s4 hE => ⟨_, rfl, _, _, _, _, rfl, .a (hO.same s4), fun d n => hE _ _ _ (Same.upd n) (.inl ⟨rfl, d, rfl, upd_same⟩)⟩)
        · exact raiserD (X := XX) (H1 := K11) (tb := (fun E => tCall (spThree K IB) [] E (tCons (tVar 6) (tCons (tC .non) (tCons (tC .non) tNil))))) xs (lamP_by (by show lamPB nSites (defScope sSitesR) _ = true; decide +kernel)) rfl rfl rfl (fun A outer s H E hr' => by exact (pe_call GBt hr' (by rfl) gBt kBt bBt .nil (passes_call (takes_of (E := E) rfl rfl rfl rfl) fun _ _ _ _ h => h) (pa_cons (pv 6) (pa_cons pe_non (pa_cons pe_non pa_nil))))) (s2 _ _ ((((((((((ExtN.same y3).trans x4).trans x5).trans (ExtN.same y6)).trans (ExtN.same y7)).trans x8).trans x9).trans (ExtN.same y10)).trans (ExtN.same y11)) _ _ l2 lamO_tbl)) (s2 _ _ ((((((((((ExtN.same y3).trans x4).trans x5).trans (ExtN.same y6)).trans (ExtN.same y7)).trans x8).trans x9).trans (ExtN.same y10)).trans (ExtN.same y11)) _ _ o2 codeO_ne)) (s2 _ _ ((((((((((ExtN.same y3).trans x4).trans x5).trans (ExtN.same y6)).trans (ExtN.same y7)).trans x8).trans x9).trans (ExtN.same y10)).trans (ExtN.same y11)) _ _ h2 lamO_tbl)) le back (fun H4 E Q s4 hE => ⟨_, rfl, _, _, _, _, rfl, .a (hO.same s4), fun d n => hE _ _ _ (Same.upd n) (.inl ⟨rfl, d, rfl, upd_same⟩)⟩)
        · exact raiserN (X := XX) (H1 := K11) (tb := (fun E => tCall (spThree K IB) [] E (tCons (tVar 6) (tCons (tC .non) (tCons (tC .non) tNil))))) xs (lamP_by (by show lamPB nSites (defScope sSitesR) _ = true; decide +kernel)) rfl (fun A outer s H E hr' => by exact (pe_call GCi hr' (by rfl) gCi kCi bCi .nil (passes_call (takes_of (E := E) rfl rfl rfl rfl) fun _ _ _ _ h => h) (pa_cons (pv 6) (pa_cons pe_non (pa_cons pe_non pa_nil))))) (s2 _ _ (((((((x5.trans (ExtN.same y6)).trans (ExtN.same y7)).trans x8).trans x9).trans (ExtN.same y10)).trans (ExtN.same y11)) _ _ l4 lamO_tbl)) (s2 _ _ (((((((x5.trans (ExtN.same y6)).trans (ExtN.same y7)).trans x8).trans x9).trans (ExtN.same y10)).trans (ExtN.same y11)) _ _ o4 codeO_ne)) le back (fun H4 E Q s4 hE => ⟨_, rfl, _, _, _, _, rfl, .a (hO.same s4), fun d n => hE _ _ _ (Same.upd n) (.inl ⟨rfl, d, rfl, upd_same⟩)⟩)
        · exact raiserD (X := XX) (H1 := K11) (tb := (fun E => tCall (spFour K IB) [] E (tCons (tVar 6) (tCons (tC .non) (tCons (tC .non) (tCons (tC .non) tNil)))))) xs (lamP_by (by show lamPB nSites (defScope sSitesR) _ = true; decide +kernel)) rfl rfl rfl (fun A outer s H E hr' => by exact (pe_call GIc hr' (by rfl) gIc kIc bIc .nil (passes_call (takes_of (E := E) rfl rfl rfl rfl) fun _ _ _ _ h => h) (pa_cons (pv 6) (pa_cons pe_non (pa_cons pe_non (pa_cons pe_non pa_nil)))))) (s2 _ _ (((((((ExtN.same y6).trans (ExtN.same y7)).trans x8).trans x9).trans (ExtN.same y10)).trans (ExtN.same y11)) _ _ l5 lamO_tbl)) (s2 _ _ (((((((ExtN.same y6).trans (ExtN.same y7)).trans x8).trans x9).trans (ExtN.same y10)).trans (ExtN.same y11)) _ _ o5 codeO_ne)) (s2 _ _ (((((((ExtN.same y6).trans (ExtN.same y7)).trans x8).trans x9).trans (ExtN.same y10)).trans (ExtN.same y11)) _ _ h5 lamO_tbl)) le back (fun H4 E Q s4 hE => ⟨_, rfl, _, _, _, _, _, rfl, .a (hO.same s4), fun d n => hE _ _ _ (Same.upd n) (.inl ⟨rfl, d, rfl, upd_same⟩)⟩)
        · exact raiserN (X := XX) (H1 := K11) (tb := (fun E => tCall (spFour K IB) [] E (tCons (tVar 6) (tCons (tC .non) (tCons (tC .non) (tCons (tC .non) tNil)))))) xs (lamP_by (by show lamPB nSites (defScope sSitesR) _ = true; decide +kernel)) rfl (fun A outer s H E hr' => by exact (pe_call GLs hr' (by rfl) gLs kLs bLs .nil (passes_call (takes_of (E := E) rfl rfl rfl rfl) fun _ _ _ _ h => h) (pa_cons (pv 6) (pa_cons pe_non (pa_cons pe_non (pa_cons pe_non pa_nil)))))) (s2 _ _ (((x9.trans (ExtN.same y10)).trans (ExtN.same y11)) _ _ l8 lamO_tbl)) (s2 _ _ (((x9.trans (ExtN.same y10)).trans (ExtN.same y11)) _ _ o8 codeO_ne)) le back (fun H4 E Q s4 hE => ⟨_, rfl, _, _, _, _, _, rfl, .a (hO.same s4), fun d n => hE _ _ _ (Same.upd n) (.inl ⟨rfl, d, rfl, upd_same⟩)⟩)
        · exact raiserD (X := XX) (H1 := K11) (tb := (fun E => tCall (spNearR K IB) [] E (tCons (tTupG (tCons (tC (.int 0)) (tCons (tC (.int 0)) (tCons (tC (.int 1)) tNil)))) (tCons (tVar 6) (tCons (tC .non) tNil))))) xs (lamP_by (by show lamPB nSites (defScope sSitesR) _ = true; decide +kernel)) rfl rfl rfl (fun A outer s H E hr' => by exact (pe_call GNe hr' (by rfl) gNe kNe bNe .nil (passes_call (takes_of (E := E) rfl rfl rfl rfl) fun _ _ _ _ h => h) (pa_cons (pe_tupG (pa_cons pe_int (pa_cons pe_int (pa_cons pe_int pa_nil)))) (pa_cons (pv 6) (pa_cons pe_non pa_nil))))) (s2 _ _ (((ExtN.same y10).trans (ExtN.same y11)) _ _ l9 lamO_tbl)) (s2 _ _ (((ExtN.same y10).trans (ExtN.same y11)) _ _ o9 codeO_ne)) (s2 _ _ (((ExtN.same y10).trans (ExtN.same y11)) _ _ h9 lamO_tbl)) le back (fun H4 E Q s4 hE => ⟨by show 3 ≤ sizeLine; decide, fun q1 J1 y1 m1 w1 => ⟨_, rfl, _, _, _, _, rfl, .a w1 plO1 (hO.same (s4.trans y1)), fun d n => hE _ _ _ (y1.trans (Same.upd n)) (.inl ⟨rfl, d, rfl, upd_same⟩)⟩⟩)
      have z12 := back N12 s3
      replace tb := TabsExt tb z12
      refine ⟨_, rfl, ?_⟩
      refine ⟨tb, fun f13 c13 dd13 p13 v13 G13 x13 t13 n13 l13 o13 => ?_⟩
      replace tb := t13
      refine ⟨tb, fun f14 c14 tt14 u14 dd14 p14 v14 G14 ru14 x14 t14 n14 l14 o14 h14 => ?_⟩
      replace tb := t14
      refine ⟨by show 2 ≤ sizeLine; decide, fun L15 K15 y15 m15 e15 => ?_⟩
      replace tb := TabsExt tb y15
      refine ⟨_, rfl, ?_⟩
      refine ⟨tb, fun f16 c16 tt16 u16 dd16 p16 v16 G16 ru16 x16 t16 n16 l16 o16 h16 => ?_⟩
      replace tb := t16
      refine ⟨by show 1 ≤ sizeLine; decide, fun L17 K17 y17 m17 e17 => ?_⟩
      replace tb := TabsExt tb y17
      refine ⟨_, _, _, _, rfl, rfl, ((x16.trans (ExtN.same y17)) _ _ e15 (fun ps z => nomatch z)), e17, by show 3 ≤ sizeLine; decide, fun L18 K18 y18 m18 e18 => ?_⟩
      replace tb := TabsExt tb y18
      refine ⟨_, rfl, ?_⟩
      refine ⟨tb, fun f19 c19 dd19 p19 v19 G19 x19 t19 n19 l19 o19 => ?_⟩
      replace tb := t19
      refine ⟨tb, fun f20 c20 tt20 u20 dd20 p20 v20 G20 ru20 x20 t20 n20 l20 o20 h20 => ?_⟩
      replace tb := t20
      refine ⟨by show 2 ≤ sizeLine; decide, fun L21 K21 y21 m21 e21 => ?_⟩
      replace tb := TabsExt tb y21
      refine ⟨_, _, _, _, rfl, rfl, (((x19.trans x20).trans (ExtN.same y21)) _ _ e18 (fun ps z => nomatch z)), e21, by show 5 ≤ sizeLine; decide, fun L22 K22 y22 m22 e22 => ?_⟩
      replace tb := TabsExt tb y22
      refine ⟨_, rfl, ?_⟩
      refine ⟨tb, fun f23 c23 dd23 p23 v23 G23 x23 t23 n23 l23 o23 => ?_⟩
      replace tb := t23
      refine ⟨by show 1 ≤ sizeLine; decide, fun L24 K24 y24 m24 e24 => ?_⟩
      replace tb := TabsExt tb y24
      refine ⟨_, _, _, _, rfl, rfl, ((x23.trans (ExtN.same y24)) _ _ e22 (fun ps z => nomatch z)), e24, by show 6 ≤ sizeLine; decide, fun L25 K25 y25 m25 e25 => ?_⟩
      replace tb := TabsExt tb y25
      have hO := Odd.ext hO0 ((((((((((((((((((((((((x1.trans x2).trans (ExtN.same y3)).trans x4).trans x5).trans (ExtN.same y6)).trans (ExtN.same y7)).trans x8).trans x9).trans (ExtN.same y10)).trans (ExtN.same y11)).trans (ExtN.same z12)).trans x13).trans x14).trans (ExtN.same y15)).trans x16).trans (ExtN.same y17)).trans (ExtN.same y18)).trans x19).trans x20).trans (ExtN.same y21)).trans (ExtN.same y22)).trans x23).trans (ExtN.same y24)).trans (ExtN.same y25))
      have ha := Sit.ext ha0 ((((((((((((((((((((((((x1.trans x2).trans (ExtN.same y3)).trans x4).trans x5).trans (ExtN.same y6)).trans (ExtN.same y7)).trans x8).trans x9).trans (ExtN.same y10)).trans (ExtN.same y11)).trans (ExtN.same z12)).trans x13).trans x14).trans (ExtN.same y15)).trans x16).trans (ExtN.same y17)).trans (ExtN.same y18)).trans x19).trans x20).trans (ExtN.same y21)).trans (ExtN.same y22)).trans x23).trans (ExtN.same y24)).trans (ExtN.same y25))
      have hb := Sit.ext hb0 ((((((((((((((((((((((((x1.trans x2).trans (ExtN.same y3)).trans x4).trans x5).trans (ExtN.same y6)).trans (ExtN.same y7)).trans x8).trans x9).trans (ExtN.same y10)).trans (ExtN.same y11)).trans (ExtN.same z12)).trans x13).trans x14).trans (ExtN.same y15)).trans x16).trans (ExtN.same y17)).trans (ExtN.same y18)).trans x19).trans x20).trans (ExtN.same y21)).trans (ExtN.same y22)).trans x23).trans (ExtN.same y24)).trans (ExtN.same y25))
      have hc := Sit.ext hc0 ((((((((((((((((((((((((x1.trans x2).trans (ExtN.same y3)).trans x4).trans x5).trans (ExtN.same y6)).trans (ExtN.same y7)).trans x8).trans x9).trans (ExtN.same y10)).trans (ExtN.same y11)).trans (ExtN.same z12)).trans x13).trans x14).trans (ExtN.same y15)).trans x16).trans (ExtN.same y17)).trans (ExtN.same y18)).trans x19).trans x20).trans (ExtN.same y21)).trans (ExtN.same y22)).trans x23).trans (ExtN.same y24)).trans (ExtN.same y25))
      refine fun H2 s2 xs le back => ⟨_, [f13, f14, f16, f19, f20, f23], _, rfl, SqL.of (s2 _ _ e25), fun q hq => ?_, fun N26 s3 => ?_⟩
      · simp only [List.mem_cons, List.not_mem_nil, or_false] at hq
        rcases hq with rfl | rfl | rfl | rfl | rfl | rfl
        · exact raiserN (X := XX) (H1 := K25) (tb := (fun E => tCall (spSideR K IB) [] E (tCons (tVar 3) (tCons (tVar 6) (tCons (tC .non) tNil))))) xs (lamP_by (by show lamPB nSites (defScope sSitesR) _ = true; decide +kernel)) rfl (fun A outer s H E hr' => by exact (pe_call GSd hr' (by rfl) gSd kSd bSd .nil (passes_call (takes_of (E := E) rfl rfl rfl rfl) fun _ _ _ _ h => h) (pa_cons (pv 3) (pa_cons (pv 6) (pa_cons pe_non pa_nil))))) (s2 _ _ ((((((((((((x14.trans (ExtN.same y15)).trans x16).trans (ExtN.same y17)).trans (ExtN.same y18)).trans x19).trans x20).trans (ExtN.same y21)).trans (ExtN.same y22)).trans x23).trans (ExtN.same y24)).trans (ExtN.same y25)) _ _ l13 lamO_tbl)) (s2 _ _ ((((((((((((x14.trans (ExtN.same y15)).trans x16).trans (ExtN.same y17)).trans (ExtN.same y18)).trans x19).trans x20).trans (ExtN.same y21)).trans (ExtN.same y22)).trans x23).trans (ExtN.same y24)).trans (ExtN.same y25)) _ _ o13 codeO_ne)) le back (fun H4 E Q s4 hE => ⟨_, rfl, _, rfl, _, _, _, _, rfl, .b (ha.same s4) da (hO.same s4), fun d n => hE _ _ _ (Same.upd n) (.inl ⟨rfl, d, rfl, upd_same⟩)⟩)
        · exact raiserD (X := XX) (H1 := K25) (tb := (fun E => tCall (spThree K IB) [] E (tCons (tVar 3) (tCons (tVar 6) (tCons (tC .non) tNil))))) xs (lamP_by (by show lamPB nSites (defScope sSitesR) _ = true; decide +kernel)) rfl rfl rfl (fun A outer s H E hr' => by exact (pe_call GBt hr' (by rfl) gBt kBt bBt .nil (passes_call (takes_of (E := E) rfl rfl rfl rfl) fun _ _ _ _ h => h) (pa_cons (pv 3) (pa_cons (pv 6) (pa_cons pe_non pa_nil))))) (s2 _ _ ((((((((((((ExtN.same y15).trans x16).trans (ExtN.same y17)).trans (ExtN.same y18)).trans x19).trans x20).trans (ExtN.same y21)).trans (ExtN.same y22)).trans x23).trans (ExtN.same y24)).trans (ExtN.same y25)) _ _ l14 lamO_tbl)) (s2 _ _ ((((((((((((ExtN.same y15).trans x16).trans (ExtN.same y17)).trans (ExtN.same y18)).trans x19).trans x20).trans (ExtN.same y21)).trans (ExtN.same y22)).trans x23).trans (ExtN.same y24)).trans (ExtN.same y25)) _ _ o14 codeO_ne)) (s2 _ _ ((((((((((((ExtN.same y15).trans x16).trans (ExtN.same y17)).trans (ExtN.same y18)).trans x19).trans x20).trans (ExtN.same y21)).trans (ExtN.same y22)).trans x23).trans (ExtN.same y24)).trans (ExtN.same y25)) _ _ h14 lamO_tbl)) le back (fun H4 E Q s4 hE => ⟨_, rfl, _, rfl, _, _, _, _, rfl, .b (ha.same s4) da (hO.same s4), fun d n => hE _ _ _ (Same.upd n) (.inl ⟨rfl, d, rfl, upd_same⟩)⟩)
        · exact raiserD (X := XX) (H1 := K25) (tb := (fun E => tCall (spThree K IB) [] E (tCons (tVar 3) (tCons (tVar 6) (tCons (tC .non) tNil))))) xs (lamP_by (by show lamPB nSites (defScope sSitesR) _ = true; decide +kernel)) rfl rfl rfl (fun A outer s H E hr' => by exact (pe_call GCi hr' (by rfl) gCi kCi bCi .nil (passes_call (takes_of (E := E) rfl rfl rfl rfl) fun _ _ _ _ h => h) (pa_cons (pv 3) (pa_cons (pv 6) (pa_cons pe_non pa_nil))))) (s2 _ _ ((((((((((ExtN.same y17).trans (ExtN.same y18)).trans x19).trans x20).trans (ExtN.same y21)).trans (ExtN.same y22)).trans x23).trans (ExtN.same y24)).trans (ExtN.same y25)) _ _ l16 lamO_tbl)) (s2 _ _ ((((((((((ExtN.same y17).trans (ExtN.same y18)).trans x19).trans x20).trans (ExtN.same y21)).trans (ExtN.same y22)).trans x23).trans (ExtN.same y24)).trans (ExtN.same y25)) _ _ o16 codeO_ne)) (s2 _ _ ((((((((((ExtN.same y17).trans (ExtN.same y18)).trans x19).trans x20).trans (ExtN.same y21)).trans (ExtN.same y22)).trans x23).trans (ExtN.same y24)).trans (ExtN.same y25)) _ _ h16 lamO_tbl)) le back (fun H4 E Q s4 hE => ⟨_, rfl, _, rfl, _, _, _, _, rfl, .b (ha.same s4) da (hO.same s4), fun d n => hE _ _ _ (Same.upd n) (.inl ⟨rfl, d, rfl, upd_same⟩)⟩)
        · exact raiserN (X := XX) (H1 := K25) (tb := (fun E => tCall (spFour K IB) [] E (tCons (tVar 3) (tCons (tVar 6) (tCons (tC .non) (tCons (tC .non) tNil)))))) xs (lamP_by (by show lamPB nSites (defScope sSitesR) _ = true; decide +kernel)) rfl (fun A outer s H E hr' => by exact (pe_call GIc hr' (by rfl) gIc kIc bIc .nil (passes_call (takes_of (E := E) rfl rfl rfl rfl) fun _ _ _ _ h => h) (pa_cons (pv 3) (pa_cons (pv 6) (pa_cons pe_non (pa_cons pe_non pa_nil)))))) (s2 _ _ ((((((x20.trans (ExtN.same y21)).trans (ExtN.same y22)).trans x23).trans (ExtN.same y24)).trans (ExtN.same y25)) _ _ l19 lamO_tbl)) (s2 _ _ ((((((x20.trans (ExtN.same y21)).trans (ExtN.same y22)).trans x23).trans (ExtN.same y24)).trans (ExtN.same y25)) _ _ o19 codeO_ne)) le back (fun H4 E Q s4 hE => ⟨_, rfl, _, rfl, _, _, _, _, _, rfl, .b (ha.same s4) da (hO.same s4), fun d n => hE _ _ _ (Same.upd n) (.inl ⟨rfl, d, rfl, upd_same⟩)⟩)
        · exact raiserD (X := XX) (H1 := K25) (tb := (fun E => tCall (spFour K IB) [] E (tCons (tVar 3) (tCons (tVar 6) (tCons (tC .non) (tCons (tC .non) tNil)))))) xs (lamP_by (by show lamPB nSites (defScope sSitesR) _ = true; decide +kernel)) rfl rfl rfl (fun A outer s H E hr' => by exact (pe_call GLs hr' (by rfl) gLs kLs bLs .nil (passes_call (takes_of (E := E) rfl rfl rfl rfl) fun _ _ _ _ h => h) (pa_cons (pv 3) (pa_cons (pv 6) (pa_cons pe_non (pa_cons pe_non pa_nil)))))) (s2 _ _ ((((((ExtN.same y21).trans (ExtN.same y22)).trans x23).trans (ExtN.same y24)).trans (ExtN.same y25)) _ _ l20 lamO_tbl)) (s2 _ _ ((((((ExtN.same y21).trans (ExtN.same y22)).trans x23).trans (ExtN.same y24)).trans (ExtN.same y25)) _ _ o20 codeO_ne)) (s2 _ _ ((((((ExtN.same y21).trans (ExtN.same y22)).trans x23).trans (ExtN.same y24)).trans (ExtN.same y25)) _ _ h20 lamO_tbl)) le back (fun H4 E Q s4 hE => ⟨_, rfl, _, rfl, _, _, _, _, _, rfl, .b (ha.same s4) da (hO.same s4), fun d n => hE _ _ _ (Same.upd n) (.inl ⟨rfl, d, rfl, upd_same⟩)⟩)
        · exact raiserN (X := XX) (H1 := K25) (tb := (fun E => tCall (spNearR K IB) [] E (tCons (tTupG (tCons (tC (.int 0)) (tCons (tC (.int 0)) (tCons (tC (.int 1)) tNil)))) (tCons (tVar 3) (tCons (tVar 6) tNil))))) xs (lamP_by (by show lamPB nSites (defScope sSitesR) _ = true; decide +kernel)) rfl (fun A outer s H E hr' => by exact (pe_call GNe hr' (by rfl) gNe kNe bNe .nil (passes_call (takes_of (E := E) rfl rfl rfl rfl) fun _ _ _ _ h => h) (pa_cons (pe_tupG (pa_cons pe_int (pa_cons pe_int (pa_cons pe_int pa_nil)))) (pa_cons (pv 3) (pa_cons (pv 6) pa_nil))))) (s2 _ _ (((ExtN.same y24).trans (ExtN.same y25)) _ _ l23 lamO_tbl)) (s2 _ _ (((ExtN.same y24).trans (ExtN.same y25)) _ _ o23 codeO_ne)) le back (fun H4 E Q s4 hE => ⟨by show 3 ≤ sizeLine; decide, fun q1 J1 y1 m1 w1 => ⟨_, rfl, _, rfl, _, _, _, _, rfl, .b w1 plO1 (ha.same (s4.trans y1)) da (hO.same (s4.trans y1)), fun d n => hE _ _ _ (y1.trans (Same.upd n)) (.inl ⟨rfl, d, rfl, upd_same⟩)⟩⟩)
      have z26 := back N26 s3
      replace tb := TabsExt tb z26
      refine ⟨_, rfl, ?_⟩
      refine ⟨tb, fun f27 c27 dd27 p27 v27 G27 x27 t27 n27 l27 o27 => ?_⟩
      replace tb := t27
      refine ⟨tb, fun f28 c28 tt28 u28 dd28 p28 v28 G28 ru28 x28 t28 n28 l28 o28 h28 => ?_⟩
      replace tb := t28
      refine ⟨tb, fun f29 c29 tt29 u29 dd29 p29 v29 G29 ru29 x29 t29 n29 l29 o29 h29 => ?_⟩
      replace tb := t29
      refine ⟨by show 3 ≤ sizeLine; decide, fun L30 K30 y30 m30 e30 => ?_⟩
      replace tb := TabsExt tb y30
      refine ⟨_, rfl, ?_⟩
      refine ⟨tb, fun f31 c31 dd31 p31 v31 G31 x31 t31 n31 l31 o31 => ?_⟩
      replace tb := t31
      refine ⟨tb, fun f32 c32 tt32 u32 dd32 p32 v32 G32 ru32 x32 t32 n32 l32 o32 h32 => ?_⟩
      replace tb := t32
      refine ⟨by show 2 ≤ sizeLine; decide, fun L33 K33 y33 m33 e33 => ?_⟩
      replace tb := TabsExt tb y33
      refine ⟨_, _, _, _, rfl, rfl, (((x31.trans x32).trans (ExtN.same y33)) _ _ e30 (fun ps z => nomatch z)), e33, by show 5 ≤ sizeLine; decide, fun L34 K34 y34 m34 e34 => ?_⟩
      replace tb := TabsExt tb y34
      have hO := Odd.ext hO0 (((((((((((((((((((((((((((((((((x1.trans x2).trans (ExtN.same y3)).trans x4).trans x5).trans (ExtN.same y6)).trans (ExtN.same y7)).trans x8).trans x9).trans (ExtN.same y10)).trans (ExtN.same y11)).trans (ExtN.same z12)).trans x13).trans x14).trans (ExtN.same y15)).trans x16).trans (ExtN.same y17)).trans (ExtN.same y18)).trans x19).trans x20).trans (ExtN.same y21)).trans (ExtN.same y22)).trans x23).trans (ExtN.same y24)).trans (ExtN.same y25)).trans (ExtN.same z26)).trans x27).trans x28).trans x29).trans (ExtN.same y30)).trans x31).trans x32).trans (ExtN.same y33)).trans (ExtN.same y34))
      have ha := Sit.ext ha0 (((((((((((((((((((((((((((((((((x1.trans x2).trans (ExtN.same y3)).trans x4).trans x5).trans (ExtN.same y6)).trans (ExtN.same y7)).trans x8).trans x9).trans (ExtN.same y10)).trans (ExtN.same y11)).trans (ExtN.same z12)).trans x13).trans x14).trans (ExtN.same y15)).trans x16).trans (ExtN.same y17)).trans (ExtN.same y18)).trans x19).trans x20).trans (ExtN.same y21)).trans (ExtN.same y22)).trans x23).trans (ExtN.same y24)).trans (ExtN.same y25)).trans (ExtN.same z26)).trans x27).trans x28).trans x29).trans (ExtN.same y30)).trans x31).trans x32).trans (ExtN.same y33)).trans (ExtN.same y34))
      have hb := Sit.ext hb0 (((((((((((((((((((((((((((((((((x1.trans x2).trans (ExtN.same y3)).trans x4).trans x5).trans (ExtN.same y6)).trans (ExtN.same y7)).trans x8).trans x9).trans (ExtN.same y10)).trans (ExtN.same y11)).trans (ExtN.same z12)).trans x13).trans x14).trans (ExtN.same y15)).trans x16).trans (ExtN.same y17)).trans (ExtN.same y18)).trans x19).trans x20).trans (ExtN.same y21)).trans (ExtN.same y22)).trans x23).trans (ExtN.same y24)).trans (ExtN.same y25)).trans (ExtN.same z26)).trans x27).trans x28).trans x29).trans (ExtN.same y30)).trans x31).trans x32).trans (ExtN.same y33)).trans (ExtN.same y34))
      have hc := Sit.ext hc0 (((((((((((((((((((((((((((((((((x1.trans x2).trans (ExtN.same y3)).trans x4).trans x5).trans (ExtN.same y6)).trans (ExtN.same y7)).trans x8).trans x9).trans (ExtN.same y10)).trans (ExtN.same y11)).trans (ExtN.same z12)).trans x13).trans x14).trans (ExtN.same y15)).trans x16).trans (ExtN.same y17)).trans (ExtN.same y18)).trans x19).trans x20).trans (ExtN.same y21)).trans (ExtN.same y22)).trans x23).trans (ExtN.same y24)).trans (ExtN.same y25)).trans (ExtN.same z26)).trans x27).trans x28).trans x29).trans (ExtN.same y30)).trans x31).trans x32).trans (ExtN.same y33)).trans (ExtN.same y34))
      refine ⟨_, rfl, fun H2 s2 xs le back => ⟨_, [f27, f28, f29, f31, f32], _, rfl, SqL.of (s2 _ _ e34), fun q hq => ?_, fun N35 s3 => ?_⟩⟩
      · simp only [List.mem_cons, List.not_mem_nil, or_false] at hq
        rcases hq with rfl | rfl | rfl | rfl | rfl
        · exact raiserN (X := XX) (H1 := K34) (tb := (fun E => tCall (spSideR K IB) [] E (tCons (tVar 3) (tCons (tVar 4) (tCons (tVar 6) tNil))))) xs (lamP_by (by show lamPB nSites (defScope sSitesR) _ = true; decide +kernel)) rfl (fun A outer s H E hr' => by exact (pe_call GSd hr' (by rfl) gSd kSd bSd .nil (passes_call (takes_of (E := E) rfl rfl rfl rfl) fun _ _ _ _ h => h) (pa_cons (pv 3) (pa_cons (pv 4) (pa_cons (pv 6) pa_nil))))) (s2 _ _ (((((((x28.trans x29).trans (ExtN.same y30)).trans x31).trans x32).trans (ExtN.same y33)).trans (ExtN.same y34)) _ _ l27 lamO_tbl)) (s2 _ _ (((((((x28.trans x29).trans (ExtN.same y30)).trans x31).trans x32).trans (ExtN.same y33)).trans (ExtN.same y34)) _ _ o27 codeO_ne)) le back (fun H4 E Q s4 hE => ⟨_, rfl, _, rfl, _, rfl, _, _, _, _, rfl, .c (ha.same s4) da (hb.same s4) db (by decide) (hO.same s4), fun d n => hE _ _ _ (Same.upd n) (.inl ⟨rfl, d, rfl, upd_same⟩)⟩)
        · exact raiserD (X := XX) (H1 := K34) (tb := (fun E => tCall (spThree K IB) [] E (tCons (tVar 3) (tCons (tVar 4) (tCons (tVar 6) tNil))))) xs (lamP_by (by show lamPB nSites (defScope sSitesR) _ = true; decide +kernel)) rfl rfl rfl (fun A outer s H E hr' => by exact (pe_call GBt hr' (by rfl) gBt kBt bBt .nil (passes_call (takes_of (E := E) rfl rfl rfl rfl) fun _ _ _ _ h => h) (pa_cons (pv 3) (pa_cons (pv 4) (pa_cons (pv 6) pa_nil))))) (s2 _ _ ((((((x29.trans (ExtN.same y30)).trans x31).trans x32).trans (ExtN.same y33)).trans (ExtN.same y34)) _ _ l28 lamO_tbl)) (s2 _ _ ((((((x29.trans (ExtN.same y30)).trans x31).trans x32).trans (ExtN.same y33)).trans (ExtN.same y34)) _ _ o28 codeO_ne)) (s2 _ _ ((((((x29.trans (ExtN.same y30)).trans x31).trans x32).trans (ExtN.same y33)).trans (ExtN.same y34)) _ _ h28 lamO_tbl)) le back (fun H4 E Q s4 hE => ⟨_, rfl, _, rfl, _, rfl, _, _, _, _, rfl, .c (ha.same s4) da (hb.same s4) db (hO.same s4), fun d n => hE _ _ _ (Same.upd n) (.inl ⟨rfl, d, rfl, upd_same⟩)⟩)
        · exact raiserD (X := XX) (H1 := K34) (tb := (fun E => tCall (spThree K IB) [] E (tCons (tVar 3) (tCons (tVar 3) (tCons (tVar 6) tNil))))) xs (lamP_by (by show lamPB nSites (defScope sSitesR) _ = true; decide +kernel)) rfl rfl rfl (fun A outer s H E hr' => by exact (pe_call GCi hr' (by rfl) gCi kCi bCi .nil (passes_call (takes_of (E := E) rfl rfl rfl rfl) fun _ _ _ _ h => h) (pa_cons (pv 3) (pa_cons (pv 3) (pa_cons (pv 6) pa_nil))))) (s2 _ _ ((((((ExtN.same y30).trans x31).trans x32).trans (ExtN.same y33)).trans (ExtN.same y34)) _ _ l29 lamO_tbl)) (s2 _ _ ((((((ExtN.same y30).trans x31).trans x32).trans (ExtN.same y33)).trans (ExtN.same y34)) _ _ o29 codeO_ne)) (s2 _ _ ((((((ExtN.same y30).trans x31).trans x32).trans (ExtN.same y33)).trans (ExtN.same y34)) _ _ h29 lamO_tbl)) le back (fun H4 E Q s4 hE => ⟨_, rfl, _, rfl, _, rfl, _, _, _, _, rfl, .c (ha.same s4) da (ha.same s4) da (hO.same s4), fun d n => hE _ _ _ (Same.upd n) (.inl ⟨rfl, d, rfl, upd_same⟩)⟩)
        · exact raiserN (X := XX) (H1 := K34) (tb := (fun E => tCall (spFour K IB) [] E (tCons (tVar 3) (tCons (tVar 3) (tCons (tVar 6) (tCons (tC .non) tNil)))))) xs (lamP_by (by show lamPB nSites (defScope sSitesR) _ = true; decide +kernel)) rfl (fun A outer s H E hr' => by exact (pe_call GIc hr' (by rfl) gIc kIc bIc .nil (passes_call (takes_of (E := E) rfl rfl rfl rfl) fun _ _ _ _ h => h) (pa_cons (pv 3) (pa_cons (pv 3) (pa_cons (pv 6) (pa_cons pe_non pa_nil)))))) (s2 _ _ (((x32.trans (ExtN.same y33)).trans (ExtN.same y34)) _ _ l31 lamO_tbl)) (s2 _ _ (((x32.trans (ExtN.same y33)).trans (ExtN.same y34)) _ _ o31 codeO_ne)) le back (fun H4 E Q s4 hE => ⟨_, rfl, _, rfl, _, rfl, _, _, _, _, _, rfl, .c (ha.same s4) da (ha.same s4) da (hO.same s4), fun d n => hE _ _ _ (Same.upd n) (.inl ⟨rfl, d, rfl, upd_same⟩)⟩)
        · exact raiserD (X := XX) (H1 := K34) (tb := (fun E => tCall (spFour K IB) [] E (tCons (tVar 3) (tCons (tVar 4) (tCons (tVar 6) (tCons (tC .non) tNil)))))) xs (lamP_by (by show lamPB nSites (defScope sSitesR) _ = true; decide +kernel)) rfl rfl rfl (fun A outer s H E hr' => by exact (pe_call GLs hr' (by rfl) gLs kLs bLs .nil (passes_call (takes_of (E := E) rfl rfl rfl rfl) fun _ _ _ _ h => h) (pa_cons (pv 3) (pa_cons (pv 4) (pa_cons (pv 6) (pa_cons pe_non pa_nil)))))) (s2 _ _ (((ExtN.same y33).trans (ExtN.same y34)) _ _ l32 lamO_tbl)) (s2 _ _ (((ExtN.same y33).trans (ExtN.same y34)) _ _ o32 codeO_ne)) (s2 _ _ (((ExtN.same y33).trans (ExtN.same y34)) _ _ h32 lamO_tbl)) le back (fun H4 E Q s4 hE => ⟨_, rfl, _, rfl, _, rfl, _, _, _, _, _, rfl, .c (ha.same s4) da (hb.same s4) db (hO.same s4), fun d n => hE _ _ _ (Same.upd n) (.inl ⟨rfl, d, rfl, upd_same⟩)⟩)
      have z35 := back N35 s3
      replace tb := TabsExt tb z35
      refine ⟨_, rfl, ?_⟩
      refine ⟨tb, fun f36 c36 dd36 p36 v36 G36 x36 t36 n36 l36 o36 => ?_⟩
      replace tb := t36
      refine ⟨tb, fun f37 c37 tt37 u37 dd37 p37 v37 G37 ru37 x37 t37 n37 l37 o37 h37 => ?_⟩
      replace tb := t37
      refine ⟨by show 2 ≤ sizeLine; decide, fun L38 K38 y38 m38 e38 => ?_⟩
      replace tb := TabsExt tb y38
      have hO := Odd.ext hO0 (((((((((((((((((((((((((((((((((((((x1.trans x2).trans (ExtN.same y3)).trans x4).trans x5).trans (ExtN.same y6)).trans (ExtN.same y7)).trans x8).trans x9).trans (ExtN.same y10)).trans (ExtN.same y11)).trans (ExtN.same z12)).trans x13).trans x14).trans (ExtN.same y15)).trans x16).trans (ExtN.same y17)).trans (ExtN.same y18)).trans x19).trans x20).trans (ExtN.same y21)).trans (ExtN.same y22)).trans x23).trans (ExtN.same y24)).trans (ExtN.same y25)).trans (ExtN.same z26)).trans x27).trans x28).trans x29).trans (ExtN.same y30)).trans x31).trans x32).trans (ExtN.same y33)).trans (ExtN.same y34)).trans (ExtN.same z35)).trans x36).trans x37).trans (ExtN.same y38))
      have ha := Sit.ext ha0 (((((((((((((((((((((((((((((((((((((x1.trans x2).trans (ExtN.same y3)).trans x4).trans x5).trans (ExtN.same y6)).trans (ExtN.same y7)).trans x8).trans x9).trans (ExtN.same y10)).trans (ExtN.same y11)).trans (ExtN.same z12)).trans x13).trans x14).trans (ExtN.same y15)).trans x16).trans (ExtN.same y17)).trans (ExtN.same y18)).trans x19).trans x20).trans (ExtN.same y21)).trans (ExtN.same y22)).trans x23).trans (ExtN.same y24)).trans (ExtN.same y25)).trans (ExtN.same z26)).trans x27).trans x28).trans x29).trans (ExtN.same y30)).trans x31).trans x32).trans (ExtN.same y33)).trans (ExtN.same y34)).trans (ExtN.same z35)).trans x36).trans x37).trans (ExtN.same y38))
      have hb := Sit.ext hb0 (((((((((((((((((((((((((((((((((((((x1.trans x2).trans (ExtN.same y3)).trans x4).trans x5).trans (ExtN.same y6)).trans (ExtN.same y7)).trans x8).trans x9).trans (ExtN.same y10)).trans (ExtN.same y11)).trans (ExtN.same z12)).trans x13).trans x14).trans (ExtN.same y15)).trans x16).trans (ExtN.same y17)).trans (ExtN.same y18)).trans x19).trans x20).trans (ExtN.same y21)).trans (ExtN.same y22)).trans x23).trans (ExtN.same y24)).trans (ExtN.same y25)).trans (ExtN.same z26)).trans x27).trans x28).trans x29).trans (ExtN.same y30)).trans x31).trans x32).trans (ExtN.same y33)).trans (ExtN.same y34)).trans (ExtN.same z35)).trans x36).trans x37).trans (ExtN.same y38))
      have hc := Sit.ext hc0 (((((((((((((((((((((((((((((((((((((x1.trans x2).trans (ExtN.same y3)).trans x4).trans x5).trans (ExtN.same y6)).trans (ExtN.same y7)).trans x8).trans x9).trans (ExtN.same y10)).trans (ExtN.same y11)).trans (ExtN.same z12)).trans x13).trans x14).trans (ExtN.same y15)).trans x16).trans (ExtN.same y17)).trans (ExtN.same y18)).trans x19).trans x20).trans (ExtN.same y21)).trans (ExtN.same y22)).trans x23).trans (ExtN.same y24)).trans (ExtN.same y25)).trans (ExtN.same z26)).trans x27).trans x28).trans x29).trans (ExtN.same y30)).trans x31).trans x32).trans (ExtN.same y33)).trans (ExtN.same y34)).trans (ExtN.same z35)).trans x36).trans x37).trans (ExtN.same y38))
      refine ⟨_, rfl, fun H2 s2 xs le back => ⟨_, [f36, f37], _, rfl, SqL.of (s2 _ _ e38), fun q hq => ?_, fun N39 s3 => ?_⟩⟩
      · simp only [List.mem_cons, List.not_mem_nil, or_false] at hq
        rcases hq with rfl | rfl
        · exact raiserN (X := XX) (H1 := K38) (tb := (fun E => tCall (spFourD K IB) [] E (tCons (tVar 3) (tCons (tVar 3) (tCons (tVar 4) (tCons (tVar 6) tNil)))))) xs (lamP_by (by show lamPB nSites (defScope sSitesR) _ = true; decide +kernel)) rfl (fun A outer s H E hr' => by exact (pe_call GIcD hr' (by rfl) gIc kIc bIc .nil (passes_call (takes_of (E := E) rfl rfl rfl rfl) fun _ _ _ _ h => h) (pa_cons (pv 3) (pa_cons (pv 3) (pa_cons (pv 4) (pa_cons (pv 6) pa_nil)))))) (s2 _ _ ((x37.trans (ExtN.same y38)) _ _ l36 lamO_tbl)) (s2 _ _ ((x37.trans (ExtN.same y38)) _ _ o36 codeO_ne)) le back (fun H4 E Q s4 hE => ⟨_, rfl, _, rfl, _, rfl, _, rfl, _, _, _, _, _, _, _, _, _, _, rfl, (ha.same s4), (ha.same s4), (hb.same s4), da, da, db, (hO.same s4), fun d n => hE _ _ _ (Same.upd n) (.inl ⟨rfl, d, rfl, upd_same⟩)⟩)
        · exact raiserD (X := XX) (H1 := K38) (tb := (fun E => tCall (spFourD K IB) [] E (tCons (tVar 3) (tCons (tVar 4) (tCons (tVar 5) (tCons (tVar 6) tNil)))))) xs (lamP_by (by show lamPB nSites (defScope sSitesR) _ = true; decide +kernel)) rfl rfl rfl (fun A outer s H E hr' => by exact (pe_call GLsD hr' (by rfl) gLs kLs bLs .nil (passes_call (takes_of (E := E) rfl rfl rfl rfl) fun _ _ _ _ h => h) (pa_cons (pv 3) (pa_cons (pv 4) (pa_cons (pv 5) (pa_cons (pv 6) pa_nil)))))) (s2 _ _ ((ExtN.same y38) _ _ l37 lamO_tbl)) (s2 _ _ ((ExtN.same y38) _ _ o37 codeO_ne)) (s2 _ _ ((ExtN.same y38) _ _ h37 lamO_tbl)) le back (fun H4 E Q s4 hE => ⟨_, rfl, _, rfl, _, rfl, _, rfl, _, _, _, _, _, _, _, _, _, _, rfl, (ha.same s4), (hb.same s4), (hc.same s4), da, db, dc, (hO.same s4), fun d n => hE _ _ _ (Same.upd n) (.inl ⟨rfl, d, rfl, upd_same⟩)⟩)
      have z39 := back N39 s3
      replace tb := TabsExt tb z39
      refine ⟨_, rfl, ?_⟩
      refine ⟨tb, fun f40 c40 dd40 p40 v40 G40 x40 t40 n40 l40 o40 => ?_⟩
      replace tb := t40
      have hO := Odd.ext hO0 (((((((((((((((((((((((((((((((((((((((x1.trans x2).trans (ExtN.same y3)).trans x4).trans x5).trans (ExtN.same y6)).trans (ExtN.same y7)).trans x8).trans x9).trans (ExtN.same y10)).trans (ExtN.same y11)).trans (ExtN.same z12)).trans x13).trans x14).trans (ExtN.same y15)).trans x16).trans (ExtN.same y17)).trans (ExtN.same y18)).trans x19).trans x20).trans (ExtN.same y21)).trans (ExtN.same y22)).trans x23).trans (ExtN.same y24)).trans (ExtN.same y25)).trans (ExtN.same z26)).trans x27).trans x28).trans x29).trans (ExtN.same y30)).trans x31).trans x32).trans (ExtN.same y33)).trans (ExtN.same y34)).trans (ExtN.same z35)).trans x36).trans x37).trans (ExtN.same y38)).trans (ExtN.same z39)).trans x40)
      have ha := Sit.ext ha0 (((((((((((((((((((((((((((((((((((((((x1.trans x2).trans (ExtN.same y3)).trans x4).trans x5).trans (ExtN.same y6)).trans (ExtN.same y7)).trans x8).trans x9).trans (ExtN.same y10)).trans (ExtN.same y11)).trans (ExtN.same z12)).trans x13).trans x14).trans (ExtN.same y15)).trans x16).trans (ExtN.same y17)).trans (ExtN.same y18)).trans x19).trans x20).trans (ExtN.same y21)).trans (ExtN.same y22)).trans x23).trans (ExtN.same y24)).trans (ExtN.same y25)).trans (ExtN.same z26)).trans x27).trans x28).trans x29).trans (ExtN.same y30)).trans x31).trans x32).trans (ExtN.same y33)).trans (ExtN.same y34)).trans (ExtN.same z35)).trans x36).trans x37).trans (ExtN.same y38)).trans (ExtN.same z39)).trans x40)
      have hb := Sit.ext hb0 (((((((((((((((((((((((((((((((((((((((x1.trans x2).trans (ExtN.same y3)).trans x4).trans x5).trans (ExtN.same y6)).trans (ExtN.same y7)).trans x8).trans x9).trans (ExtN.same y10)).trans (ExtN.same y11)).trans (ExtN.same z12)).trans x13).trans x14).trans (ExtN.same y15)).trans x16).trans (ExtN.same y17)).trans (ExtN.same y18)).trans x19).trans x20).trans (ExtN.same y21)).trans (ExtN.same y22)).trans x23).trans (ExtN.same y24)).trans (ExtN.same y25)).trans (ExtN.same z26)).trans x27).trans x28).trans x29).trans (ExtN.same y30)).trans x31).trans x32).trans (ExtN.same y33)).trans (ExtN.same y34)).trans (ExtN.same z35)).trans x36).trans x37).trans (ExtN.same y38)).trans (ExtN.same z39)).trans x40)
      have hc := Sit.ext hc0 (((((((((((((((((((((((((((((((((((((((x1.trans x2).trans (ExtN.same y3)).trans x4).trans x5).trans (ExtN.same y6)).trans (ExtN.same y7)).trans x8).trans x9).trans (ExtN.same y10)).trans (ExtN.same y11)).trans (ExtN.same z12)).trans x13).trans x14).trans (ExtN.same y15)).trans x16).trans (ExtN.same y17)).trans (ExtN.same y18)).trans x19).trans x20).trans (ExtN.same y21)).trans (ExtN.same y22)).trans x23).trans (ExtN.same y24)).trans (ExtN.same y25)).trans (ExtN.same z26)).trans x27).trans x28).trans x29).trans (ExtN.same y30)).trans x31).trans x32).trans (ExtN.same y33)).trans (ExtN.same y34)).trans (ExtN.same z35)).trans x36).trans x37).trans (ExtN.same y38)).trans (ExtN.same z39)).trans x40)
      refine fun H2 s2 xs le back => ⟨_, _, rfl, raiserN (X := XX) (H1 := G40) (tb := (fun E => tCall (spSquareR K IB) [] E (tCons (tTupG (tCons (tC (.int 0)) (tCons (tC (.int 0)) (tCons (tC (.int 1)) tNil)))) (tCons (tVar 6) tNil)))) xs (lamP_by (by show lamPB nSites (defScope sSitesR) _ = true; decide +kernel)) rfl (fun A outer s H E hr' => by exact (pe_call GSq hr' (by rfl) gSq kSq bSq .nil (passes_call (takes_of (E := E) rfl rfl rfl rfl) fun _ _ _ _ h => h) (pa_cons (pe_tupG (pa_cons pe_int (pa_cons pe_int (pa_cons pe_int pa_nil)))) (pa_cons (pv 6) pa_nil)))) (s2 _ _ l40) (s2 _ _ o40) le back (fun H4 E Q s4 hE => ⟨by show 3 ≤ sizeLine; decide, fun q1 J1 y1 m1 w1 => ⟨_, rfl, _, _, _, rfl, .s w1 plO1 (hO.same (s4.trans y1)), fun d n => hE _ _ _ (y1.trans (Same.upd n)) (.inl ⟨rfl, d, rfl, upd_same⟩)⟩⟩), fun N40 s3 => ?_⟩
      have z40 := back N40 s3
      replace tb := TabsExt tb z40
      refine ⟨rfl, _, rfl, ?_⟩
      show if (!decide (V.str _ = V.str _)) = true then _ else _
      rw [decide_eq_true rfl]
      exact ⟨⟨_, _, rfl⟩, xb.trans ((((((((((((((((((((((((((((((((((((((((x1.trans x2).trans (ExtN.same y3)).trans x4).trans x5).trans (ExtN.same y6)).trans (ExtN.same y7)).trans x8).trans x9).trans (ExtN.same y10)).trans (ExtN.same y11)).trans (ExtN.same z12)).trans x13).trans x14).trans (ExtN.same y15)).trans x16).trans (ExtN.same y17)).trans (ExtN.same y18)).trans x19).trans x20).trans (ExtN.same y21)).trans (ExtN.same y22)).trans x23).trans (ExtN.same y24)).trans (ExtN.same y25)).trans (ExtN.same z26)).trans x27).trans x28).trans x29).trans (ExtN.same y30)).trans x31).trans x32).trans (ExtN.same y33)).trans (ExtN.same y34)).trans (ExtN.same z35)).trans x36).trans x37).trans (ExtN.same y38)).trans (ExtN.same z39)).trans x40).trans (ExtN.same z40)), tb⟩
    rintro σ' Z0 ⟨⟨y2, y6, rfl⟩, xb, tb⟩
    have ha0 : Sit Z0 pa 0 0 := Sit.ext hpa xb
    have hb0 : Sit Z0 pb 4 0 := Sit.ext hpb xb
    have hc0 : Sit Z0 pc 1 3 := Sit.ext hpc xb
    refine ⟨tb, fun f41 c41 dd41 p41 v41 G41 x41 t41 n41 l41 o41 => ?_⟩
    replace tb := t41
    refine ⟨tb, fun f42 c42 tt42 u42 dd42 p42 v42 G42 ru42 x42 t42 n42 l42 o42 h42 => ?_⟩
    replace tb := t42
    refine ⟨tb, fun f43 c43 tt43 u43 dd43 p43 v43 G43 ru43 x43 t43 n43 l43 o43 h43 => ?_⟩
    replace tb := t43
    refine ⟨by show 3 ≤ sizeLine; decide, fun L44 K44 y44 m44 e44 => ?_⟩
    replace tb := TabsExt tb y44
    refine ⟨_, rfl, ?_⟩
    refine ⟨tb, fun f45 c45 dd45 p45 v45 G45 x45 t45 n45 l45 o45 => ?_⟩
    replace tb := t45
    refine ⟨by show 1 ≤ sizeLine; decide, fun L46 K46 y46 m46 e46 => ?_⟩
    replace tb := TabsExt tb y46
    refine ⟨_, _, _, _, rfl, rfl, ((x45.trans (ExtN.same y46)) _ _ e44 (fun ps z => nomatch z)), e46, by show 4 ≤ sizeLine; decide, fun L47 K47 y47 m47 e47 => ?_⟩
    replace tb := TabsExt tb y47
    have ha := Sit.ext ha0 ((((((x41.trans x42).trans x43).trans (ExtN.same y44)).trans x45).trans (ExtN.same y46)).trans (ExtN.same y47))
    have hb := Sit.ext hb0 ((((((x41.trans x42).trans x43).trans (ExtN.same y44)).trans x45).trans (ExtN.same y46)).trans (ExtN.same y47))
    have hc := Sit.ext hc0 ((((((x41.trans x42).trans x43).trans (ExtN.same y44)).trans x45).trans (ExtN.same y46)).trans (ExtN.same y47))
    refine fun H2 s2 xs le back => ⟨_, [f41, f42, f43, f45], _, rfl, SqL.of (s2 _ _ e47), fun q hq => ?_, fun N48 s3 => ?_⟩
    · simp only [List.mem_cons, List.not_mem_nil, or_false] at hq
      rcases hq with rfl | rfl | rfl | rfl
      · exact raiserN (X := XX) (H1 := K47) (tb := (fun E => tCall (spRow3 NC) [] E (tCons (tVar 3) (tCons (tVar 3) (tCons (tVar 4) tNil))))) xs (lamP_by (by show lamPB nSites (defScope sSitesR) _ = true; decide +kernel)) rfl (fun A outer s H E hr' => by exact (pe_call GCiR hr' (by rfl) gCi kCi bCi .nil (passes_call (takes_of (E := E) rfl rfl rfl rfl) fun _ _ _ _ h => h) (pa_cons (pv 3) (pa_cons (pv 3) (pa_cons (pv 4) pa_nil))))) (s2 _ _ ((((((x42.trans x43).trans (ExtN.same y44)).trans x45).trans (ExtN.same y46)).trans (ExtN.same y47)) _ _ l41 lamO_tbl)) (s2 _ _ ((((((x42.trans x43).trans (ExtN.same y44)).trans x45).trans (ExtN.same y46)).trans (ExtN.same y47)) _ _ o41 codeO_ne)) le back (fun H4 E Q s4 hE => ⟨_, rfl, _, rfl, _, rfl, _, _, _, _, _, _, _, _, _, rfl, (ha.same s4), (ha.same s4), (hb.same s4), ⟨da, da, db⟩, by decide, hE _ _ _ (Same.refl _) (.inr ⟨rfl, rfl⟩)⟩)
      · exact raiserD (X := XX) (H1 := K47) (tb := (fun E => tCall (spRow3 NC) [] E (tCons (tVar 3) (tCons (tVar 4) (tCons (tTupG (tCons (tC (.int 9)) (tCons (tC (.int 0)) tNil))) tNil))))) xs (lamP_by (by show lamPB nSites (defScope sSitesR) _ = true; decide +kernel)) rfl rfl rfl (fun A outer s H E hr' => by exact (pe_call GCiR hr' (by rfl) gCi kCi bCi .nil (passes_call (takes_of (E := E) rfl rfl rfl rfl) fun _ _ _ _ h => h) (pa_cons (pv 3) (pa_cons (pv 4) (pa_cons (pe_tupG (pa_cons pe_int (pa_cons pe_int pa_nil))) pa_nil))))) (s2 _ _ (((((x43.trans (ExtN.same y44)).trans x45).trans (ExtN.same y46)).trans (ExtN.same y47)) _ _ l42 lamO_tbl)) (s2 _ _ (((((x43.trans (ExtN.same y44)).trans x45).trans (ExtN.same y46)).trans (ExtN.same y47)) _ _ o42 codeO_ne)) (s2 _ _ (((((x43.trans (ExtN.same y44)).trans x45).trans (ExtN.same y46)).trans (ExtN.same y47)) _ _ h42 lamO_tbl)) le back (fun H4 E Q s4 hE => ⟨_, rfl, _, rfl, by show 2 ≤ sizeLine; decide, fun q1 J1 y1 m1 w1 => ⟨_, _, _, _, _, _, _, _, _, rfl, (ha.same (s4.trans y1)), (hb.same (s4.trans y1)), w1, ⟨da, db, ⟨by decide, by decide, by decide, by decide⟩⟩, by decide, hE _ _ _ y1 (.inr ⟨rfl, rfl⟩)⟩⟩)
      · exact raiserD (X := XX) (H1 := K47) (tb := (fun E => tCall (spRow4 NC) [] E (tCons (tVar 3) (tCons (tVar 4) (tCons (tVar 4) (tCons (tVar 5) tNil)))))) xs (lamP_by (by show lamPB nSites (defScope sSitesR) _ = true; decide +kernel)) rfl rfl rfl (fun A outer s H E hr' => by exact (pe_call GIcR hr' (by rfl) gIc kIc bIc .nil (passes_call (takes_of (E := E) rfl rfl rfl rfl) fun _ _ _ _ h => h) (pa_cons (pv 3) (pa_cons (pv 4) (pa_cons (pv 4) (pa_cons (pv 5) pa_nil)))))) (s2 _ _ (((((ExtN.same y44).trans x45).trans (ExtN.same y46)).trans (ExtN.same y47)) _ _ l43 lamO_tbl)) (s2 _ _ (((((ExtN.same y44).trans x45).trans (ExtN.same y46)).trans (ExtN.same y47)) _ _ o43 codeO_ne)) (s2 _ _ (((((ExtN.same y44).trans x45).trans (ExtN.same y46)).trans (ExtN.same y47)) _ _ h43 lamO_tbl)) le back (fun H4 E Q s4 hE => ⟨_, rfl, _, rfl, _, rfl, _, rfl, _, _, _, _, _, _, _, _, _, _, _, _, rfl, (ha.same s4), (hb.same s4), (hb.same s4), (hc.same s4), ⟨da, db, db⟩, dc, by decide, hE _ _ _ (Same.refl _) (.inr ⟨rfl, rfl⟩)⟩)
      · exact raiserN (X := XX) (H1 := K47) (tb := (fun E => tCall (spRow4 NC) [] E (tCons (tVar 3) (tCons (tTupG (tCons (tC (.int 1)) (tCons (tC (.int 1)) tNil))) (tCons (tTupG (tCons (tC (.int 5)) (tCons (tC (.int 5)) tNil))) (tCons (tVar 5) tNil)))))) xs (lamP_by (by show lamPB nSites (defScope sSitesR) _ = true; decide +kernel)) rfl (fun A outer s H E hr' => by exact (pe_call GLsR hr' (by rfl) gLs kLs bLs .nil (passes_call (takes_of (E := E) rfl rfl rfl rfl) fun _ _ _ _ h => h) (pa_cons (pv 3) (pa_cons (pe_tupG (pa_cons pe_int (pa_cons pe_int pa_nil))) (pa_cons (pe_tupG (pa_cons pe_int (pa_cons pe_int pa_nil))) (pa_cons (pv 5) pa_nil)))))) (s2 _ _ (((ExtN.same y46).trans (ExtN.same y47)) _ _ l45 lamO_tbl)) (s2 _ _ (((ExtN.same y46).trans (ExtN.same y47)) _ _ o45 codeO_ne)) le back (fun H4 E Q s4 hE => ⟨_, rfl, by show 2 ≤ sizeLine; decide, fun q1 J1 y1 m1 w1 => ⟨by show 2 ≤ sizeLine; decide, fun q2 J2 y2 m2 w2 => ⟨_, rfl, _, _, _, _, _, _, _, _, _, _, _, _, rfl, (ha.same ((s4.trans y1).trans y2)), (y2 _ _ w1), w2, (hc.same ((s4.trans y1).trans y2)), ⟨da, ⟨by decide, by decide, by decide, by decide⟩, ⟨by decide, by decide, by decide, by decide⟩⟩, dc, by decide, hE _ _ _ (y1.trans y2) (.inr ⟨rfl, rfl⟩)⟩⟩⟩)
    have z48 := back N48 s3
    replace tb := TabsExt tb z48
    refine ⟨_, rfl, ?_⟩
    refine ⟨tb, fun f49 c49 dd49 p49 v49 G49 x49 t49 n49 l49 o49 => ?_⟩
    replace tb := t49
    have ha := Sit.ext ha0 ((((((((x41.trans x42).trans x43).trans (ExtN.same y44)).trans x45).trans (ExtN.same y46)).trans (ExtN.same y47)).trans (ExtN.same z48)).trans x49)
    have hb := Sit.ext hb0 ((((((((x41.trans x42).trans x43).trans (ExtN.same y44)).trans x45).trans (ExtN.same y46)).trans (ExtN.same y47)).trans (ExtN.same z48)).trans x49)
    have hc := Sit.ext hc0 ((((((((x41.trans x42).trans x43).trans (ExtN.same y44)).trans x45).trans (ExtN.same y46)).trans (ExtN.same y47)).trans (ExtN.same z48)).trans x49)
    refine fun H2 s2 xs le back => ⟨_, _, rfl, raiserN (X := XX) (H1 := G49) (tb := (fun E => tCall (spSideR K IB) [] E (tCons (tVar 3) (tCons (tVar 3) (tCons (tC .non) tNil))))) xs (lamP_by (by show lamPB nSites (defScope sSitesR) _ = true; decide +kernel)) rfl (fun A outer s H E hr' => by exact (pe_call GSd hr' (by rfl) gSd kSd bSd .nil (passes_call (takes_of (E := E) rfl rfl rfl rfl) fun _ _ _ _ h => h) (pa_cons (pv 3) (pa_cons (pv 3) (pa_cons pe_non pa_nil))))) (s2 _ _ l49) (s2 _ _ o49) le back (fun H4 E Q s4 hE => ⟨_, rfl, _, rfl, _, _, _, _, rfl, .e (ha.same s4) da nonOdd, fun d n => hE _ _ _ (Same.upd n) (.inl ⟨rfl, d, rfl, upd_same⟩)⟩), fun N49 s3 => ?_⟩
    have z49 := back N49 s3
    replace tb := TabsExt tb z49
    refine ⟨rfl, _, rfl, ?_⟩
    show if (!decide (V.str _ = V.str _)) = true then _ else _
    rw [decide_eq_true rfl]
    have ha := Sit.ext ha0 (((((((((x41.trans x42).trans x43).trans (ExtN.same y44)).trans x45).trans (ExtN.same y46)).trans (ExtN.same y47)).trans (ExtN.same z48)).trans x49).trans (ExtN.same z49))
    have hb := Sit.ext hb0 (((((((((x41.trans x42).trans x43).trans (ExtN.same y44)).trans x45).trans (ExtN.same y46)).trans (ExtN.same y47)).trans (ExtN.same z48)).trans x49).trans (ExtN.same z49))
    have hc := Sit.ext hc0 (((((((((x41.trans x42).trans x43).trans (ExtN.same y44)).trans x45).trans (ExtN.same y46)).trans (ExtN.same y47)).trans (ExtN.same z48)).trans x49).trans (ExtN.same z49))
    have o1 : ons 0 0 0 0 0 0 = true := by decide
    have o2 : ons 0 0 0 0 4 0 = false := by decide
    refine ⟨_, rfl, _, rfl, _, rfl, pa, pa, pa, 0, 0, 0, 0, 0, 0, rfl, ha, ha, ha, da, da, da, _, _, rfl, rfl, _, rfl, ?_⟩
    show if (!decide (ons 0 0 0 0 0 0 = true)) = true then _ else _
    rw [o1]
    refine ⟨_, rfl, _, rfl, _, rfl, pa, pa, pb, 0, 0, 0, 0, 4, 0, rfl, ha, ha, hb, da, da, db, _, _, rfl, rfl, ?_⟩
    show Q (.bl (decide (ons 0 0 0 0 4 0 = false))) _
    rw [o2]
    exact q _ (xH.trans (xb.trans (((((((((x41.trans x42).trans x43).trans (ExtN.same y44)).trans x45).trans (ExtN.same y46)).trans (ExtN.same y47)).trans (ExtN.same z48)).trans x49).trans (ExtN.same z49)))) tb
end
open LamX
/-! ### _law_places_right -/
abbrev sPlacesR : Stmt := topS 40
abbrev nPlaces : List Str := ["_law_deep", "_law_odds", "_law_odd"]
theorem scPlacesR : FnScope nPlaces ["_law_deep"] (defScope sPlacesR) := ⟨rfl, rfl, rfl, by decide +kernel, rfl, by decide +kernel, by decide +kernel⟩
section
variable {P : Program} {w : World} {K : PySem.W.Frag} {mg : Str → Option Value} {base : Heap}
theorem IntK.ext' {H H' : Hp} {x : V} (h : IntK K H x) : IntK K H' x := by
  cases h with
  | int n => exact .int n
  | bl b => exact .bl b
theorem OddP.ext {H H' : Hp} {x : V} (h : OddP K H x) (e : ExtN H H') : OddP K H' x := by
  cases h with
  | tup a b => exact .tup (TyX.ext e a) b
  | len a b c => exact .len (SqT.ext e a) (TyX.ext e b) c
  | a a b c => exact .a (SqT.ext e a) (TyX.ext e b) (NoInt.ext e c)
  | b a b x c => exact .b (SqT.ext e a) (TyX.ext e b) (IntK.ext' x) (NoInt.ext e c)
  | c a b x y c => exact .c (SqT.ext e a) (TyX.ext e b) (IntK.ext' x) (IntK.ext' y) (NoInt.ext e c)
  | bx a b => exact .bx (SqT.ext e a) (TyX.ext e b)
  | by' a b => exact .by' (SqT.ext e a) (TyX.ext e b)
  | bd a b => exact .bd (SqT.ext e a) (TyX.ext e b)
  | num a b n => exact .num (SqT.ext e a) (TyX.ext e b) n
theorem OddP.same {H H' : Hp} {x : V} (h : OddP K H x) (e : Same H H') : OddP K H' x := h.ext (ExtN.same e)
theorem nonOddP {H : Hp} : OddP K H .non := .tup nonT (kNT K)
/-- 10 ** 30 - 1 -/
theorem plBig : PlOk (10 ^ (30 : Int).toNat - 1) 0 1 := ⟨by decide +kernel, by decide +kernel, by decide +kernel, by decide +kernel, by decide +kernel, by decide +kernel, by decide +kernel⟩
set_option maxHeartbeats 4000000
theorem ok_placesr {f fNe fSq fAl IB NC cS PS : Addr} {fdNe fdSq fdAl : FuncData} {kV doc pm ct oc : Value} {an od : Option Addr} {osl : Array (Option Value)} {T : List (Addr × Str)}
    (lk : K.lookup f = some ⟨oc, od, .func (PySem.W.fnOf "_law_places_right" "_law_places_right" (defArgs sPlacesR) (defBody sPlacesR) (defScope sPlacesR) .none kV doc pm an (.ref cS) ct), osl⟩) (hcd : PySem.W.codeIn K (.ref cS) "_law_places_right" = true) (TB : TabB base mg cS PS)
    (hmT0 : (PS, (envOfC "_law_places_right" (defScope sPlacesR) 0 0 (.ref cS)).qual ++ "<lambda>") ∈ T) (huT0 : ∀ p ∈ T, p.1 = PS → p.2 = (envOfC "_law_places_right" (defScope sPlacesR) 0 0 (.ref cS)).qual ++ "<lambda>")
    (GNe : FnOk P w K mg base (L2.CX P w) 8 fNe fdNe ["place", "a", "b"] (spNearR K IB)) (gNe : mg "nearer" = some (.ref fNe)) (kNe : PySem.W.keepIn K (.ref fNe) = true) (bNe : Binds K fdNe ["place", "a", "b"] [])
    (GSq : FnOk P w K mg base (L2.CX P w) 8 fSq fdSq ["place", "site"] (spSquareR K IB)) (gSq : mg "square" = some (.ref fSq)) (kSq : PySem.W.keepIn K (.ref fSq) = true) (bSq : Binds K fdSq ["place", "site"] [])
    (GSv : FnOk P w K mg base CX0 8 fSq fdSq ["place", "site"] (spSquare K))
    (GAl : FnOk P w K mg base CX0 11 fAl fdAl ["_law_calls", "_law_due"] (spAllR P w K mg base IB NC 9)) (gAl : mg "_law_all_raise" = some (.ref fAl)) (kAl : PySem.W.keepIn K (.ref fAl) = true) (bAl : Binds K fdAl ["_law_calls", "_law_due"] []) :
    FnOk P w K mg base CX0 12 f (PySem.W.fnOf "_law_places_right" "_law_places_right" (defArgs sPlacesR) (defBody sPlacesR) (defScope sPlacesR) .none kV doc pm an (.ref cS) ct) ["_law_deep"] (spSitesR T) := by
  refine fn_of lk hcd scPlacesR (fun vs H Q E h => ?_) (fun A outer s0 H vs Q E hr h => ?_)
  · obtain ⟨t, x, rfl, _⟩ := h
    rfl
  · obtain ⟨td, xd, rfl, hD, tb, q⟩ := h
    have nd := scPlacesR.nd
    let XY := cxOf CX0 P w K mg base nPlaces "_law_places_right" (defScope sPlacesR) f (.ref cS) A outer s0 H E
    let XX := XY.nox
    have hqq : XX.env.qual = (envOfC "_law_places_right" (defScope sPlacesR) 0 0 (.ref cS)).qual := rfl
    have hmT : (PS, XX.env.qual ++ "<lambda>") ∈ T := by
      rw [hqq]
      exact hmT0
    have huT : ∀ p ∈ T, p.1 = PS → p.2 = XX.env.qual ++ "<lambda>" := by
      rw [hqq]
      exact huT0
    refine ⟨_, PSs.nox (X := XY) (pss_cons (ps_set (i := 1) nd rfl (.inl rfl) (pe_lstG (pa_cons pe_non (pa_cons (pe_tupG (pa_cons pe_int (pa_cons pe_int pa_nil))) (pa_cons (pe_tupG (pa_cons pe_int (pa_cons pe_int (pa_cons pe_int pa_nil)))) (pa_cons (pe_tupG (pa_cons pe_int (pa_cons pe_int (pa_cons pe_neg pa_nil)))) (pa_cons (pe_tupG (pa_cons pe_int (pa_cons pe_int (pa_cons pe_int pa_nil)))) (pa_cons (pe_tupG (pa_cons pe_int (pa_cons pe_int (pa_cons pe_int pa_nil)))) (pa_cons (pe_tupG (pa_cons pe_bl (pa_cons pe_int (pa_cons pe_int pa_nil)))) (pa_cons (pe_tupG (pa_cons pe_int (pa_cons pe_int (pa_cons pe_bl pa_nil)))) pa_nil)))))))))) (pss_cons (ps_set (i := 1) nd rfl (.inl rfl) (pe_op op_catG (pv 1) (pe_lstG (pa_cons (pe_lstG (pa_cons pe_int (pa_cons pe_int (pa_cons pe_int pa_nil)))) (pa_cons (pe_tupG (pa_cons pe_int (pa_cons pe_int (pa_cons pe_int (pa_cons pe_int pa_nil))))) pa_nil))))) (pss_cons (ps_set (i := 1) nd rfl (.inl rfl) (pe_op op_catG (pv 1) (pe_lstG (pa_cons (pe_tupG (pa_cons (pe_op op_pow pe_int pe_int) (pa_cons pe_int (pa_cons pe_int pa_nil)))) (pa_cons (pe_tupG (pa_cons pe_int (pa_cons (pe_un un_neg (pe_op op_pow pe_int pe_int)) (pa_cons pe_int pa_nil)))) (pa_cons (pe_tupG (pa_cons pe_int (pa_cons pe_int (pa_cons (pe_op op_pow pe_int pe_int) pa_nil)))) (pa_cons pe_str (pa_cons pe_dicG pa_nil)))))))) (pss_cons (ps_for PassesOwn.never rfl (pi_list (pe_op op_catG (pv 1) (pe_lstG (pa_cons (pe_tupG (pa_cons pe_non (pa_cons pe_int (pa_cons pe_int pa_nil)))) (pa_cons (pv 0) (pa_cons (pe_tupG (pa_cons (pv 0) (pa_cons pe_int (pa_cons pe_int pa_nil)))) pa_nil)))))) (pg_name (i := 2) nd rfl (.inr rfl)) (pss_one (ps_if (pt_not (pt_val (pe_lend (X := XX) GAl hr (by rfl) gAl kAl bAl .nil (fun _ => rfl) (pa_cons (pe_lstG (pa_cons (pe_lamN (X := XX) (T := T) TB rfl hmT huT (lamP_by (by show lamPB nPlaces (defScope sPlacesR) _ = true; decide +kernel)) rfl) (pa_cons (pe_lamD (X := XX) (T := T) TB rfl hmT huT (lamP_by (by show lamPB nPlaces (defScope sPlacesR) _ = true; decide +kernel)) rfl rfl pe_int) pa_nil))) (pa_cons pe_str pa_nil))))) (pss_one (ps_ret pe_bl)) pss_nil))) (pss_one (ps_ret (pe_cmpR (op_eqD hr.units) (pe_call GSv (hr.mono (by omega)) (by rfl) gSq kSq bSq .nil pass0 (pa_cons (pe_tupG (pa_cons (pe_op op_sub (pe_op op_pow pe_int pe_int) pe_int) (pa_cons pe_int (pa_cons pe_int pa_nil)))) (pa_cons (pe_tupG (pa_cons pe_int (pa_cons pe_int pa_nil))) pa_nil))) (pe_tupG (pa_cons (pe_op op_sq (pe_op op_sub (pe_op op_pow pe_int pe_int) pe_int) pe_int) (pa_cons pe_int pa_nil))) (nomark _)))))))), ?_⟩
    refine ⟨by show 2 ≤ sizeLine; decide, fun p2 A1 ya1 na1 ep2 => ?_⟩
    replace tb := TabsExt tb ya1
    refine ⟨by show 3 ≤ sizeLine; decide, fun p3 A2 ya2 na2 ep3 => ?_⟩
    replace tb := TabsExt tb ya2
    refine ⟨by show 3 ≤ sizeLine; decide, fun p4 A3 ya3 na3 ep4 => ?_⟩
    replace tb := TabsExt tb ya3
    refine ⟨by show 3 ≤ sizeLine; decide, fun p5 A4 ya4 na4 ep5 => ?_⟩
    replace tb := TabsExt tb ya4
    refine ⟨by show 3 ≤ sizeLine; decide, fun p6 A5 ya5 na5 ep6 => ?_⟩
    replace tb := TabsExt tb ya5
    refine ⟨by show 3 ≤ sizeLine; decide, fun p7 A6 ya6 na6 ep7 => ?_⟩
    replace tb := TabsExt tb ya6
    refine ⟨by show 3 ≤ sizeLine; decide, fun p8 A7 ya7 na7 ep8 => ?_⟩
    replace tb := TabsExt tb ya7
    refine ⟨by show 8 ≤ sizeLine; decide, fun lo1 A8 ya8 na8 elo1 => ?_⟩
    replace tb := TabsExt tb ya8
    refine ⟨_, rfl, ?_⟩
    refine ⟨by show 3 ≤ sizeLine; decide, fun p9 A9 ya9 na9 ep9 => ?_⟩
    replace tb := TabsExt tb ya9
    refine ⟨by show 4 ≤ sizeLine; decide, fun p10 A10 ya10 na10 ep10 => ?_⟩
    replace tb := TabsExt tb ya10
    refine ⟨by show 2 ≤ sizeLine; decide, fun lo2 A11 ya11 na11 elo2 => ?_⟩
    replace tb := TabsExt tb ya11
    refine ⟨_, _, _, _, rfl, rfl, ((((ExtN.same ya9).trans (ExtN.same ya10)).trans (ExtN.same ya11)) _ _ elo1 (fun ps z => nomatch z)), elo2, by show 10 ≤ sizeLine; decide, fun lo3 A12 ya12 na12 elo3 => ?_⟩
    replace tb := TabsExt tb ya12
    refine ⟨_, rfl, ?_⟩
    refine ⟨_, _, rfl, rfl, ⟨by decide, by decide, by decide⟩, by show 3 ≤ sizeLine; decide, fun p11 A13 ya13 na13 ep11 => ?_⟩
    replace tb := TabsExt tb ya13
    refine ⟨_, _, rfl, rfl, ⟨by decide, by decide, by decide⟩, _, rfl, by show 3 ≤ sizeLine; decide, fun p12 A14 ya14 na14 ep12 => ?_⟩
    replace tb := TabsExt tb ya14
    refine ⟨_, _, rfl, rfl, ⟨by decide, by decide, by decide⟩, by show 3 ≤ sizeLine; decide, fun p13 A15 ya15 na15 ep13 => ?_⟩
    replace tb := TabsExt tb ya15
    refine fun p15 A16 ya16 na16 ep15 => ?_
    replace tb := TabsExt tb ya16
    refine ⟨by show 5 ≤ sizeLine; decide, fun lo4 A17 ya17 na17 elo4 => ?_⟩
    replace tb := TabsExt tb ya17
    refine ⟨_, _, _, _, rfl, rfl, ((((((ExtN.same ya13).trans (ExtN.same ya14)).trans (ExtN.same ya15)).trans (ExtN.same ya16)).trans (ExtN.same ya17)) _ _ elo3 (fun ps z => nomatch z)), elo4, by show 15 ≤ sizeLine; decide, fun lo5 A18 ya18 na18 elo5 => ?_⟩
    replace tb := TabsExt tb ya18
    refine ⟨_, rfl, ?_⟩
    refine ⟨by show 3 ≤ sizeLine; decide, fun p16 A19 ya19 na19 ep16 => ?_⟩
    replace tb := TabsExt tb ya19
    refine ⟨_, rfl, _, rfl, ?_⟩
    refine ⟨by show 3 ≤ sizeLine; decide, fun p18 A20 ya20 na20 ep18 => ?_⟩
    replace tb := TabsExt tb ya20
    refine ⟨by show 3 ≤ sizeLine; decide, fun lo6 A21 ya21 na21 elo6 => ?_⟩
    replace tb := TabsExt tb ya21
    refine ⟨_, _, _, _, rfl, rfl, ((((ExtN.same ya19).trans (ExtN.same ya20)).trans (ExtN.same ya21)) _ _ elo5 (fun ps z => nomatch z)), elo6, by show 18 ≤ sizeLine; decide, fun lo7 Zb ya22 na22 elo7 => ?_⟩
    replace tb := TabsExt tb ya22
    have hDb := ((((((((((((((((((((((ExtN.same ya1).trans (ExtN.same ya2)).trans (ExtN.same ya3)).trans (ExtN.same ya4)).trans (ExtN.same ya5)).trans (ExtN.same ya6)).trans (ExtN.same ya7)).trans (ExtN.same ya8)).trans (ExtN.same ya9)).trans (ExtN.same ya10)).trans (ExtN.same ya11)).trans (ExtN.same ya12)).trans (ExtN.same ya13)).trans (ExtN.same ya14)).trans (ExtN.same ya15)).trans (ExtN.same ya16)).trans (ExtN.same ya17)).trans (ExtN.same ya18)).trans (ExtN.same ya19)).trans (ExtN.same ya20)).trans (ExtN.same ya21)).trans (ExtN.same ya22)) _ _ hD (fun ps z => nomatch z)
    have hp2 := ((((((((((((((((((((((ExtN.same ya2).trans (ExtN.same ya3)).trans (ExtN.same ya4)).trans (ExtN.same ya5)).trans (ExtN.same ya6)).trans (ExtN.same ya7)).trans (ExtN.same ya8)).trans (ExtN.same ya9)).trans (ExtN.same ya10)).trans (ExtN.same ya11)).trans (ExtN.same ya12)).trans (ExtN.same ya13)).trans (ExtN.same ya14)).trans (ExtN.same ya15)).trans (ExtN.same ya16)).trans (ExtN.same ya17)).trans (ExtN.same ya18)).trans (ExtN.same ya19)).trans (ExtN.same ya20)).trans (ExtN.same ya21)).trans (ExtN.same ya22)) _ _ ep2 (fun ps z => nomatch z))
    have hp3 := (((((((((((((((((((((ExtN.same ya3).trans (ExtN.same ya4)).trans (ExtN.same ya5)).trans (ExtN.same ya6)).trans (ExtN.same ya7)).trans (ExtN.same ya8)).trans (ExtN.same ya9)).trans (ExtN.same ya10)).trans (ExtN.same ya11)).trans (ExtN.same ya12)).trans (ExtN.same ya13)).trans (ExtN.same ya14)).trans (ExtN.same ya15)).trans (ExtN.same ya16)).trans (ExtN.same ya17)).trans (ExtN.same ya18)).trans (ExtN.same ya19)).trans (ExtN.same ya20)).trans (ExtN.same ya21)).trans (ExtN.same ya22)) _ _ ep3 (fun ps z => nomatch z))
    have hp4 := ((((((((((((((((((((ExtN.same ya4).trans (ExtN.same ya5)).trans (ExtN.same ya6)).trans (ExtN.same ya7)).trans (ExtN.same ya8)).trans (ExtN.same ya9)).trans (ExtN.same ya10)).trans (ExtN.same ya11)).trans (ExtN.same ya12)).trans (ExtN.same ya13)).trans (ExtN.same ya14)).trans (ExtN.same ya15)).trans (ExtN.same ya16)).trans (ExtN.same ya17)).trans (ExtN.same ya18)).trans (ExtN.same ya19)).trans (ExtN.same ya20)).trans (ExtN.same ya21)).trans (ExtN.same ya22)) _ _ ep4 (fun ps z => nomatch z))
    have hp5 := (((((((((((((((((((ExtN.same ya5).trans (ExtN.same ya6)).trans (ExtN.same ya7)).trans (ExtN.same ya8)).trans (ExtN.same ya9)).trans (ExtN.same ya10)).trans (ExtN.same ya11)).trans (ExtN.same ya12)).trans (ExtN.same ya13)).trans (ExtN.same ya14)).trans (ExtN.same ya15)).trans (ExtN.same ya16)).trans (ExtN.same ya17)).trans (ExtN.same ya18)).trans (ExtN.same ya19)).trans (ExtN.same ya20)).trans (ExtN.same ya21)).trans (ExtN.same ya22)) _ _ ep5 (fun ps z => nomatch z))
    have hp6 := ((((((((((((((((((ExtN.same ya6).trans (ExtN.same ya7)).trans (ExtN.same ya8)).trans (ExtN.same ya9)).trans (ExtN.same ya10)).trans (ExtN.same ya11)).trans (ExtN.same ya12)).trans (ExtN.same ya13)).trans (ExtN.same ya14)).trans (ExtN.same ya15)).trans (ExtN.same ya16)).trans (ExtN.same ya17)).trans (ExtN.same ya18)).trans (ExtN.same ya19)).trans (ExtN.same ya20)).trans (ExtN.same ya21)).trans (ExtN.same ya22)) _ _ ep6 (fun ps z => nomatch z))
    have hp7 := (((((((((((((((((ExtN.same ya7).trans (ExtN.same ya8)).trans (ExtN.same ya9)).trans (ExtN.same ya10)).trans (ExtN.same ya11)).trans (ExtN.same ya12)).trans (ExtN.same ya13)).trans (ExtN.same ya14)).trans (ExtN.same ya15)).trans (ExtN.same ya16)).trans (ExtN.same ya17)).trans (ExtN.same ya18)).trans (ExtN.same ya19)).trans (ExtN.same ya20)).trans (ExtN.same ya21)).trans (ExtN.same ya22)) _ _ ep7 (fun ps z => nomatch z))
    have hp8 := ((((((((((((((((ExtN.same ya8).trans (ExtN.same ya9)).trans (ExtN.same ya10)).trans (ExtN.same ya11)).trans (ExtN.same ya12)).trans (ExtN.same ya13)).trans (ExtN.same ya14)).trans (ExtN.same ya15)).trans (ExtN.same ya16)).trans (ExtN.same ya17)).trans (ExtN.same ya18)).trans (ExtN.same ya19)).trans (ExtN.same ya20)).trans (ExtN.same ya21)).trans (ExtN.same ya22)) _ _ ep8 (fun ps z => nomatch z))
    have hp9 := ((((((((((((((ExtN.same ya10).trans (ExtN.same ya11)).trans (ExtN.same ya12)).trans (ExtN.same ya13)).trans (ExtN.same ya14)).trans (ExtN.same ya15)).trans (ExtN.same ya16)).trans (ExtN.same ya17)).trans (ExtN.same ya18)).trans (ExtN.same ya19)).trans (ExtN.same ya20)).trans (ExtN.same ya21)).trans (ExtN.same ya22)) _ _ ep9 (fun ps z => nomatch z))
    have hp10 := (((((((((((((ExtN.same ya11).trans (ExtN.same ya12)).trans (ExtN.same ya13)).trans (ExtN.same ya14)).trans (ExtN.same ya15)).trans (ExtN.same ya16)).trans (ExtN.same ya17)).trans (ExtN.same ya18)).trans (ExtN.same ya19)).trans (ExtN.same ya20)).trans (ExtN.same ya21)).trans (ExtN.same ya22)) _ _ ep10 (fun ps z => nomatch z))
    have hp11 := ((((((((((ExtN.same ya14).trans (ExtN.same ya15)).trans (ExtN.same ya16)).trans (ExtN.same ya17)).trans (ExtN.same ya18)).trans (ExtN.same ya19)).trans (ExtN.same ya20)).trans (ExtN.same ya21)).trans (ExtN.same ya22)) _ _ ep11 (fun ps z => nomatch z))
    have hp12 := (((((((((ExtN.same ya15).trans (ExtN.same ya16)).trans (ExtN.same ya17)).trans (ExtN.same ya18)).trans (ExtN.same ya19)).trans (ExtN.same ya20)).trans (ExtN.same ya21)).trans (ExtN.same ya22)) _ _ ep12 (fun ps z => nomatch z))
    have hp13 := ((((((((ExtN.same ya16).trans (ExtN.same ya17)).trans (ExtN.same ya18)).trans (ExtN.same ya19)).trans (ExtN.same ya20)).trans (ExtN.same ya21)).trans (ExtN.same ya22)) _ _ ep13 (fun ps z => nomatch z))
    have hp15 := (((((((ExtN.same ya17).trans (ExtN.same ya18)).trans (ExtN.same ya19)).trans (ExtN.same ya20)).trans (ExtN.same ya21)).trans (ExtN.same ya22)) _ _ ep15 (fun ps z => nomatch z))
    have hp16 := ((((ExtN.same ya20).trans (ExtN.same ya21)).trans (ExtN.same ya22)) _ _ ep16 (fun ps z => nomatch z))
    have hp18 := (((ExtN.same ya21).trans (ExtN.same ya22)) _ _ ep18 (fun ps z => nomatch z))
    have odds : ∀ x ∈ ([V.non, .ref p2, .ref p3, .ref p4, .ref p5, .ref p6, .ref p7, .ref p8, .ref p9, .ref p10, .ref p11, .ref p12, .ref p13, .str "abc", .ref p15, .ref p16, .ref td, .ref p18] : List V), OddP K Zb x := fun x hx => by
      simp only [List.mem_cons, List.not_mem_nil, or_false] at hx
      rcases hx with rfl | rfl | rfl | rfl | rfl | rfl | rfl | rfl | rfl | rfl | rfl | rfl | rfl | rfl | rfl | rfl | rfl | rfl
      · exact nonOddP
      · exact .len (SqT.of hp2) (.base (.tup hp2)) (by decide)
      · exact .num (SqT.of hp3) (.base (.tup hp3)) (by decide)
      · exact .num (SqT.of hp4) (.base (.tup hp4)) (by decide)
      · exact .num (SqT.of hp5) (.base (.tup hp5)) (by decide)
      · exact .num (SqT.of hp6) (.base (.tup hp6)) (by decide)
      · exact .bx (SqT.of hp7) (.base (.tup hp7))
      · exact .bd (SqT.of hp8) (.base (.tup hp8))
      · exact .tup (.base (.lst hp9)) (kit_ty (by decide +kernel))
      · exact .len (SqT.of hp10) (.base (.tup hp10)) (by decide)
      · exact .num (SqT.of hp11) (.base (.tup hp11)) (by decide)
      · exact .num (SqT.of hp12) (.base (.tup hp12)) (by decide)
      · exact .num (SqT.of hp13) (.base (.tup hp13)) (by decide)
      · exact .tup (.base (.str _)) (kit_ty (by decide +kernel))
      · exact .tup (.base (.dK hp15)) (kit_ty (by decide +kernel))
      · exact .a (SqT.of hp16) (.base (.tup hp16)) ⟨_, nonT, (kit_ty (by decide +kernel))⟩
      · exact .len (SqT.of hDb) (.base (.tup hDb)) (by simp)
      · exact .a (SqT.of hp18) (.base (.tup hp18)) ⟨_, .base (.tup hDb), (kit_ty (by decide +kernel))⟩
    have xH : ExtN H Zb := ((((((((((((((((((((((ExtN.same ya1).trans (ExtN.same ya2)).trans (ExtN.same ya3)).trans (ExtN.same ya4)).trans (ExtN.same ya5)).trans (ExtN.same ya6)).trans (ExtN.same ya7)).trans (ExtN.same ya8)).trans (ExtN.same ya9)).trans (ExtN.same ya10)).trans (ExtN.same ya11)).trans (ExtN.same ya12)).trans (ExtN.same ya13)).trans (ExtN.same ya14)).trans (ExtN.same ya15)).trans (ExtN.same ya16)).trans (ExtN.same ya17)).trans (ExtN.same ya18)).trans (ExtN.same ya19)).trans (ExtN.same ya20)).trans (ExtN.same ya21)).trans (ExtN.same ya22))
    refine ⟨_, rfl, ⟨_, SqL.of elo7⟩, for_list (K := K) (a := lo7) (xs := [V.non, .ref p2, .ref p3, .ref p4, .ref p5, .ref p6, .ref p7, .ref p8, .ref p9, .ref p10, .ref p11, .ref p12, .ref p13, .str "abc", .ref p15, .ref p16, .ref td, .ref p18]) (fun i σ' H' => (∃ y2, σ' = [some (.ref td), some (.ref lo5), y2]) ∧ ExtN Zb H' ∧ Tabs T H') ⟨⟨_, rfl⟩, ExtN.refl _, tb⟩ (fun i σ' H' _ z => SqL.ext z.2.1 (SqL.of elo7)) ?_ ?_⟩
    · rintro i x σ' Z0 hx ⟨⟨y2, rfl⟩, xb, tb⟩
      have hO0 := (odds x (List.mem_of_getElem? hx)).ext xb
      refine ⟨tb, fun f1 c1 dd1 p1 v1 G1 x1 t1 n1 l1 o1 => ?_⟩
      replace tb := t1
      refine ⟨tb, fun f2 c2 tt2 u2 dd2 p2 v2 G2 ru2 x2 t2 n2 l2 o2 h2 => ?_⟩
      replace tb := t2
      refine ⟨by show 2 ≤ sizeLine; decide, fun L3 K3 y3 m3 e3 => ?_⟩
      replace tb := TabsExt tb y3
      have hO := OddP.ext hO0 ((x1.trans x2).trans (ExtN.same y3))
      refine fun H2 s2 xs le back => ⟨_, [f1, f2], _, rfl, SqL.of (s2 _ _ e3), fun q hq => ?_, fun N4 s3 => ?_⟩
      · simp only [List.mem_cons, List.not_mem_nil, or_false] at hq
        rcases hq with rfl | rfl
        · exact raiserN (X := XX) (H1 := K3) (tb := (fun E => tCall (spSquareR K IB) [] E (tCons (tVar 2) (tCons (tC .non) tNil)))) xs (lamP_by (by show lamPB nPlaces (defScope sPlacesR) _ = true; decide +kernel)) rfl (fun A outer s H E hr' => by exact (pe_call GSq hr' (by rfl) gSq kSq bSq .nil (passes_call (takes_of (E := E) rfl rfl rfl rfl) fun _ _ _ _ h => h) (pa_cons (pv 2) (pa_cons pe_non pa_nil)))) (s2 _ _ ((x2.trans (ExtN.same y3)) _ _ l1 lamO_tbl)) (s2 _ _ ((x2.trans (ExtN.same y3)) _ _ o1 codeO_ne)) le back (fun H4 E Q s4 hE => ⟨_, rfl, _, _, _, rfl, .p (hO.same s4), fun d n => hE _ _ _ (Same.upd n) (.inl ⟨rfl, d, rfl, upd_same⟩)⟩)
        · exact raiserD (X := XX) (H1 := K3) (tb := (fun E => tCall (spNearR K IB) [] E (tCons (tVar 2) (tCons (tC .non) (tCons (tC .non) tNil))))) xs (lamP_by (by show lamPB nPlaces (defScope sPlacesR) _ = true; decide +kernel)) rfl rfl rfl (fun A outer s H E hr' => by exact (pe_call GNe hr' (by rfl) gNe kNe bNe .nil (passes_call (takes_of (E := E) rfl rfl rfl rfl) fun _ _ _ _ h => h) (pa_cons (pv 2) (pa_cons pe_non (pa_cons pe_non pa_nil))))) (s2 _ _ ((ExtN.same y3) _ _ l2 lamO_tbl)) (s2 _ _ ((ExtN.same y3) _ _ o2 codeO_ne)) (s2 _ _ ((ExtN.same y3) _ _ h2 lamO_tbl)) le back (fun H4 E Q s4 hE => ⟨_, rfl, _, _, _, _, rfl, .p (hO.same s4), fun d n => hE _ _ _ (Same.upd n) (.inl ⟨rfl, d, rfl, upd_same⟩)⟩)
      have z4 := back N4 s3
      replace tb := TabsExt tb z4
      exact ⟨_, rfl, ⟨_, rfl⟩, xb.trans (((x1.trans x2).trans (ExtN.same y3)).trans (ExtN.same z4)), tb⟩
    rintro σ' Z0 ⟨⟨y2, rfl⟩, xb, tb⟩
    refine ⟨_, _, rfl, rfl, ⟨by decide, by decide, by decide⟩, _, _, rfl, rfl, by show 3 ≤ sizeLine; decide, fun q1 A23 ya23 na23 eq1 => ?_⟩
    replace tb := TabsExt tb ya23
    refine ⟨by show 2 ≤ sizeLine; decide, fun q2 A24 ya24 na24 eq2 => ?_⟩
    replace tb := TabsExt tb ya24
    refine ⟨q1, q2, _, _, _, _, _, rfl, ((ExtN.same ya24) _ _ eq1 (fun ps z => nomatch z)), plBig, eq2, ⟨by decide, by decide, by decide, by decide⟩, fun r1 R1 yr nr er => ?_⟩
    replace tb := TabsExt tb yr
    refine ⟨_, _, rfl, rfl, ⟨by decide, by decide, by decide⟩, _, _, rfl, rfl, _, _, rfl, rfl, ⟨rfl, by decide +kernel⟩, by show 2 ≤ sizeLine; decide, fun r2 R2 yr2 nr2 er2 => ?_⟩
    replace tb := TabsExt tb yr2
    have e1 : spread (10 ^ (30 : Int).toNat - 1) 0 1 0 0 / gcf (spread (10 ^ (30 : Int).toNat - 1) 0 1 0 0) (1 * 1) = (10 ^ (30 : Int).toNat - 1) * (10 ^ (30 : Int).toNat - 1) := by decide +kernel
    have e2 : (1 : Int) * 1 / gcf (spread (10 ^ (30 : Int).toNat - 1) 0 1 0 0) (1 * 1) = 1 := by decide +kernel
    refine ⟨_, _, dpSit (yr2 _ _ er), dpSit er2, rfl, rfl, ?_⟩
    rw [eqv_sit, e1, e2, decide_eq_true ⟨rfl, rfl⟩]
    exact q _ (xH.trans (xb.trans ((((ExtN.same ya23).trans (ExtN.same ya24)).trans (ExtN.same yr)).trans (ExtN.same yr2)))) tb
end
/-! ### _law_errors_right -/
abbrev sErrsR : Stmt := topS 41
abbrev nErrs : List Str := ["_law_x", "_law_every", "_law_k", "_law_e", "_law_marks", "_law_j", "_law_mark"]
theorem scErrsR : FnScope nErrs ["_law_x"] (defScope sErrsR) := ⟨rfl, rfl, rfl, by decide +kernel, rfl, by decide +kernel, by decide +kernel⟩
section
variable {P : Program} {w : World} {K : PySem.W.Frag} {mg : Str → Option Value} {base : Heap}
/-- the places of the True ones among the first n -/
def idxTo (bs : List Bool) (n : Nat) : List V := ((List.range n).filter (fun j => bs.getD j false)).map fun j => V.int (j : Nat)
theorem idx_succ (bs : List Bool) (n : Nat) : idxTo bs (n + 1) = idxTo bs n ++ (if bs.getD n false = true then [V.int (n : Nat)] else []) := by
  unfold idxTo
  rw [List.range_succ, List.filter_append, List.map_append]
  congr 1
  by_cases h : bs.getD n false = true
  · rw [if_pos h, List.filter_cons_of_pos (by exact h)]
    rfl
  · rw [if_neg h, List.filter_cons_of_neg (by exact h)]
    rfl
theorem idx_le (bs : List Bool) (n : Nat) : (idxTo bs n).length ≤ n := by
  unfold idxTo
  rw [List.length_map]
  exact Nat.le_trans (List.length_filter_le _ _) (by rw [List.length_range]; exact Nat.le_refl _)
theorem eqv_one (i j : Int) : PyData.eqv (.list [.int i]) (.list [.int j]) = decide (i = j) := by
  simp [PyData.eqv, PyData.eqvAll, Bool.beq_eq_decide_eq]
def spErrs : Sp := fun vs H Q _ => ∃ n : Int, vs = [.int n] ∧ ∀ H', Same H H' → Q (.bl true) H'
set_option maxHeartbeats 4000000
theorem ok_errsr {f CS CT CB CC CN CL iS iT iB iC iN iL CE : Addr} {fd fdS fdT fdB fdC fdN fdL : FuncData} {k : Nat} (F : Fun K "_law_errors_right" "_law_errors_right" sErrsR f fd)
    (mS : mg "InvalidSites" = some (.ref CS)) (PS : PassC K CS iS) (ES : ExcC K CS) (kES : PySem.W.kitOne K (.ref CS) (.ref CE) = some true) (kAS : PySem.W.kitOne K (.ref CS) (.type "ArithmeticError") = some true)
    (FS : FieldC K CS) (hS : PySem.W.takerIn K CS "at" = some none) (GS : FnOk P w K mg base CX0 (k + 1) iS fdS ["self", "at"] (spField K "at")) (bS : KBind1 K fdS "at") (XS : XfC K CS) (nS : PySem.W.findIn K (.ref CS) "at" = some none)
    (kSS : PySem.W.kitOne K (.ref CS) (.ref CS) = some true) (kST : PySem.W.kitOne K (.ref CS) (.ref CT) = some false) (kSB : PySem.W.kitOne K (.ref CS) (.ref CB) = some false) (kSC : PySem.W.kitOne K (.ref CS) (.ref CC) = some false) (kSN : PySem.W.kitOne K (.ref CS) (.ref CN) = some false) (kSL : PySem.W.kitOne K (.ref CS) (.ref CL) = some false)
    (mT : mg "InvalidTriangles" = some (.ref CT)) (PT : PassC K CT iT) (ET : ExcC K CT) (kET : PySem.W.kitOne K (.ref CT) (.ref CE) = some true) (kAT : PySem.W.kitOne K (.ref CT) (.type "ArithmeticError") = some true)
    (FT : FieldC K CT) (hT : PySem.W.takerIn K CT "at" = some none) (GT : FnOk P w K mg base CX0 (k + 1) iT fdT ["self", "at"] (spField K "at")) (bT : KBind1 K fdT "at") (XT : XfC K CT) (nT : PySem.W.findIn K (.ref CT) "at" = some none)
    (kTS : PySem.W.kitOne K (.ref CT) (.ref CS) = some false) (kTT : PySem.W.kitOne K (.ref CT) (.ref CT) = some true) (kTB : PySem.W.kitOne K (.ref CT) (.ref CB) = some false) (kTC : PySem.W.kitOne K (.ref CT) (.ref CC) = some false) (kTN : PySem.W.kitOne K (.ref CT) (.ref CN) = some false) (kTL : PySem.W.kitOne K (.ref CT) (.ref CL) = some false)
    (mB : mg "InvalidBound" = some (.ref CB)) (PB : PassC K CB iB) (EB : ExcC K CB) (kEB : PySem.W.kitOne K (.ref CB) (.ref CE) = some true) (kAB : PySem.W.kitOne K (.ref CB) (.type "ArithmeticError") = some true)
    (FB : FieldC K CB) (hB : PySem.W.takerIn K CB "argument" = some none) (GB : FnOk P w K mg base CX0 (k + 1) iB fdB ["self", "argument"] (spField K "argument")) (bB : KBind1 K fdB "argument") (XB : XfC K CB) (nB : PySem.W.findIn K (.ref CB) "argument" = some none)
    (kBS : PySem.W.kitOne K (.ref CB) (.ref CS) = some false) (kBT : PySem.W.kitOne K (.ref CB) (.ref CT) = some false) (kBB : PySem.W.kitOne K (.ref CB) (.ref CB) = some true) (kBC : PySem.W.kitOne K (.ref CB) (.ref CC) = some false) (kBN : PySem.W.kitOne K (.ref CB) (.ref CN) = some false) (kBL : PySem.W.kitOne K (.ref CB) (.ref CL) = some false)
    (mC : mg "InvalidCall" = some (.ref CC)) (PC : PassC K CC iC) (EC : ExcC K CC) (kEC : PySem.W.kitOne K (.ref CC) (.ref CE) = some true) (kAC : PySem.W.kitOne K (.ref CC) (.type "ArithmeticError") = some true)
    (FC : FieldC K CC) (hC : PySem.W.takerIn K CC "call" = some none) (GC : FnOk P w K mg base CX0 (k + 1) iC fdC ["self", "call"] (spField K "call")) (bC : KBind1 K fdC "call") (XC : XfC K CC) (nC : PySem.W.findIn K (.ref CC) "call" = some none)
    (kCS : PySem.W.kitOne K (.ref CC) (.ref CS) = some false) (kCT : PySem.W.kitOne K (.ref CC) (.ref CT) = some false) (kCB : PySem.W.kitOne K (.ref CC) (.ref CB) = some false) (kCC : PySem.W.kitOne K (.ref CC) (.ref CC) = some true) (kCN : PySem.W.kitOne K (.ref CC) (.ref CN) = some false) (kCL : PySem.W.kitOne K (.ref CC) (.ref CL) = some false)
    (mN : mg "NoCircle" = some (.ref CN)) (PN : PassC K CN iN) (EN : ExcC K CN) (kEN : PySem.W.kitOne K (.ref CN) (.ref CE) = some true) (kAN : PySem.W.kitOne K (.ref CN) (.type "ArithmeticError") = some true)
    (GN : FnOk P w K mg base CX0 (k + 1) iN fdN ["self"] spPass) (bN : Binds K fdN ["self"] [])
    (kNS : PySem.W.kitOne K (.ref CN) (.ref CS) = some false) (kNT : PySem.W.kitOne K (.ref CN) (.ref CT) = some false) (kNB : PySem.W.kitOne K (.ref CN) (.ref CB) = some false) (kNC : PySem.W.kitOne K (.ref CN) (.ref CC) = some false) (kNN : PySem.W.kitOne K (.ref CN) (.ref CN) = some true) (kNL : PySem.W.kitOne K (.ref CN) (.ref CL) = some false)
    (mL : mg "LimitExceeded" = some (.ref CL)) (PL : PassC K CL iL) (EL : ExcC K CL) (kEL : PySem.W.kitOne K (.ref CL) (.ref CE) = some true) (kAL : PySem.W.kitOne K (.ref CL) (.type "ArithmeticError") = some true)
    (FL : FieldC K CL) (hL : PySem.W.takerIn K CL "limit" = some none) (GL : FnOk P w K mg base CX0 (k + 1) iL fdL ["self", "limit"] (spField K "limit")) (bL : KBind1 K fdL "limit") (XL : XfC K CL) (nL : PySem.W.findIn K (.ref CL) "limit" = some none)
    (kLS : PySem.W.kitOne K (.ref CL) (.ref CS) = some false) (kLT : PySem.W.kitOne K (.ref CL) (.ref CT) = some false) (kLB : PySem.W.kitOne K (.ref CL) (.ref CB) = some false) (kLC : PySem.W.kitOne K (.ref CL) (.ref CC) = some false) (kLN : PySem.W.kitOne K (.ref CL) (.ref CN) = some false) (kLL : PySem.W.kitOne K (.ref CL) (.ref CL) = some true)
    (bL2 : Binds K fdL ["self", "limit"] []) (mE : mg "CellError" = some (.ref CE)) (mA : mg "ArithmeticError" = none) (misinstance : mg "isinstance" = none) (menum : mg "enumerate" = none) : FnOk P w K mg base CX0 (k + 3) f fd ["_law_x"] spErrs := by
  refine F.ok scErrsR (fun vs H Q E h => ?_) (fun cdv A outer s H vs Q E hr h => ?_)
  · obtain ⟨n, rfl, _⟩ := h
    rfl
  · obtain ⟨n, rfl, q⟩ := h
    have nd := scErrsR.nd
    refine ⟨_, (pss_cons (ps_set (i := 1) nd rfl (.inl rfl) (pe_lstG (pa_cons (pe_mkKw PS FS hS GS hr bS (by rfl) mS (pk_cons (pv 0) pk_nil)) (pa_cons (pe_mkKw PT FT hT GT hr bT (by rfl) mT (pk_cons (pv 0) pk_nil)) (pa_cons (pe_mkKw PB FB hB GB hr bB (by rfl) mB (pk_cons (pv 0) pk_nil)) pa_nil))))) (pss_cons (ps_set (i := 1) nd rfl (.inl rfl) (pe_op op_catG (pv 1) (pe_lstG (pa_cons (pe_mkKw PC FC hC GC hr bC (by rfl) mC (pk_cons (pv 0) pk_nil)) (pa_cons (pe_mk0 PN GN hr bN (by rfl) mN) pa_nil))))) (pss_cons (ps_for PassesOwn.never rfl (pi_enum (by rfl) menum (pa_cons (pe_op op_catG (pv 1) (pe_lstG (pa_cons (pe_mkKw PL FL hL GL hr bL (by rfl) mL (pk_cons (pv 0) pk_nil)) pa_nil))) pa_nil)) (pg_tup (by rfl) (pgs_cons (pg_name (i := 2) nd rfl (.inl rfl)) (pgs_cons (pg_name (i := 3) nd rfl (.inl rfl)) pgs_nil))) (pss_cons (ps_set (i := 4) nd rfl (.inl rfl) (pe_lstG (pa_cons (pe_callB call_isV (by rfl) misinstance (by decide +kernel) (pa_cons (pv 3) (pa_cons (pe_glob (v := .ref CS) (by rfl) mS rfl) pa_nil))) (pa_cons (pe_callB call_isV (by rfl) misinstance (by decide +kernel) (pa_cons (pv 3) (pa_cons (pe_glob (v := .ref CT) (by rfl) mT rfl) pa_nil))) (pa_cons (pe_callB call_isV (by rfl) misinstance (by decide +kernel) (pa_cons (pv 3) (pa_cons (pe_glob (v := .ref CB) (by rfl) mB rfl) pa_nil))) pa_nil))))) (pss_cons (ps_set (i := 4) nd rfl (.inl rfl) (pe_op op_catG (pv 4) (pe_lstG (pa_cons (pe_callB call_isV (by rfl) misinstance (by decide +kernel) (pa_cons (pv 3) (pa_cons (pe_glob (v := .ref CC) (by rfl) mC rfl) pa_nil))) (pa_cons (pe_callB call_isV (by rfl) misinstance (by decide +kernel) (pa_cons (pv 3) (pa_cons (pe_glob (v := .ref CN) (by rfl) mN rfl) pa_nil))) (pa_cons (pe_callB call_isV (by rfl) misinstance (by decide +kernel) (pa_cons (pv 3) (pa_cons (pe_glob (v := .ref CL) (by rfl) mL rfl) pa_nil))) pa_nil)))))) (pss_cons (ps_if (PW.pt (pw_or (pt_cmpR (op_neD hr.units) (pe_lc (own := [("_law_j", 5), ("_law_mark", 6)]) (g := gTup K 2 (gCons (gName 5) (gCons (gName 6) gNil))) (tt := tTest (tVar 6)) (te := tVar 5) rfl nd (pi_enum (by rfl) menum (pa_cons (pv 4) pa_nil)) (blkOk_by (own := [("_law_j", 5), ("_law_mark", 6)]) (N := nErrs) (sc := defScope sErrsR) (by decide +kernel)) (fun _ _ _ _ _ => by exact pg_tup (by rfl) (pgs_cons (pg_name (i := 5) nd rfl (.inl rfl)) (pgs_cons (pg_name (i := 6) nd rfl (.inl rfl)) pgs_nil))) (fun _ _ _ _ _ => pts_one (by exact pt_val (pv 6))) (fun _ _ _ _ _ => by exact (pv 5))) (pe_lstG (pa_cons (pv 2) pa_nil)) (nomark _)) (pw_or1 (pt_not (pt_val (pe_callB call_isV (by rfl) misinstance (by decide +kernel) (pa_cons (pv 3) (pa_cons (pe_glob (v := .ref CE) (by rfl) mE rfl) pa_nil)))))))) (pss_one (ps_ret pe_bl)) pss_nil) (pss_one (ps_if (pt_not (pt_val (pe_callB call_isV (by rfl) misinstance (by decide +kernel) (pa_cons (pv 3) (pa_cons (pe_bltn (v := .ty "ArithmeticError") (by rfl) mA (by decide +kernel) rfl) pa_nil))))) (pss_one (ps_ret pe_bl)) pss_nil)))))) (pss_one (ps_ret (pe_cmpR (op_eqD hr.units) (pe_lstG (pa_cons (pe_fieldV (pe_ix ix_list (pv 1) pe_int (fun _ _ => rfl))) (pa_cons (pe_fieldV (pe_ix ix_list (pv 1) pe_int (fun _ _ => rfl))) (pa_cons (pe_fieldV (pe_ix ix_list (pv 1) pe_int (fun _ _ => rfl))) (pa_cons (pe_fieldV (pe_ix ix_list (pv 1) pe_int (fun _ _ => rfl))) (pa_cons (pe_fieldV (pe_mk1 PL FL hL GL hr bL2 (by rfl) mL (pv 0))) pa_nil)))))) (pe_op op_rep (pe_lst (pa_cons (pv 0) pa_nil)) pe_int) (nomark _))))))), ?_⟩
    refine ⟨_, rfl, _, rfl, fun aS A1 s1 eS => ⟨_, rfl, _, rfl, fun aT A2 s2 eT => ⟨_, rfl, _, rfl, fun aB A3 s3 eB => ⟨by show 3 ≤ sizeLine; decide, fun l1 A4 s4 n4 e4 => ?_⟩⟩⟩⟩
    refine ⟨_, rfl, _, rfl, _, rfl, fun aC A5 s5 eC => fun aN A6 s6 eN => ⟨by show 2 ≤ sizeLine; decide, fun l2 A7 s7 n7 e7 => ?_⟩⟩
    refine ⟨l1, l2, _, _, rfl, rfl, s7 _ _ (s6 _ _ (s5 _ _ e4)), e7, by show 5 ≤ sizeLine; decide, fun l3 A8 s8 n8 e8 => ?_⟩
    refine ⟨_, rfl, _, rfl, _, rfl, fun aL A9 s9 eL => ⟨by show 1 ≤ sizeLine; decide, fun l4 A10 s10 n10 e10 => ?_⟩⟩
    refine ⟨l3, l4, _, _, rfl, rfl, s10 _ _ (s9 _ _ e8), e10, by show 6 ≤ sizeLine; decide, fun l5 Zb s11 n11 e11 => ?_⟩
    have vS := eS.same (((((((((s2.trans s3).trans s4).trans s5).trans s6).trans s7).trans s8).trans s9).trans s10).trans s11)
    have vT := eT.same ((((((((s3.trans s4).trans s5).trans s6).trans s7).trans s8).trans s9).trans s10).trans s11)
    have vB := eB.same (((((((s4.trans s5).trans s6).trans s7).trans s8).trans s9).trans s10).trans s11)
    have vC := eC.same (((((s6.trans s7).trans s8).trans s9).trans s10).trans s11)
    have vN : ExcV Zb aN CN := .inr (((((s7.trans s8).trans s9).trans s10).trans s11) _ _ eN)
    have vL := eL.same (s10.trans s11)
    have eE : Zb l3 = some (.lst [.ref aS, .ref aT, .ref aB, .ref aC, .ref aN]) := ((s9.trans s10).trans s11) _ _ e8
    have hH : Same H Zb := (s1.trans (((((((((s2.trans s3).trans s4).trans s5).trans s6).trans s7).trans s8).trans s9).trans s10).trans s11))
    refine ⟨l5, _, rfl, SqL.of e11, for_enumG (K := K) (a := l5) (xs := [.ref aS, .ref aT, .ref aB, .ref aC, .ref aN, .ref aL]) (fun i σ' H' => (∃ y2 y3 y4, σ' = [some (.int n), some (.ref l3), y2, y3, y4, none, none]) ∧ Same Zb H') ⟨⟨_, _, _, rfl⟩, Same.refl _⟩ (fun i σ' H' _ z => z.2.seq (SqL.of e11)) ?_ ?_⟩
    · rintro i x σ' Z0 hx ⟨⟨y2, y3, y4, rfl⟩, zb⟩ T Z1 sT nT eT
      obtain ⟨a, C, b0, b1, b2, b3, b4, b5, rfl, va, Ea, k0, k1, k2, k3, k4, k5, kE, kA, ix⟩ : ∃ (a C : Addr) (b0 b1 b2 b3 b4 b5 : Bool), x = .ref a ∧ ExcV Zb a C ∧ ExcC K C ∧ PySem.W.kitOne K (.ref C) (.ref CS) = some b0 ∧ PySem.W.kitOne K (.ref C) (.ref CT) = some b1 ∧ PySem.W.kitOne K (.ref C) (.ref CB) = some b2 ∧ PySem.W.kitOne K (.ref C) (.ref CC) = some b3 ∧ PySem.W.kitOne K (.ref C) (.ref CN) = some b4 ∧ PySem.W.kitOne K (.ref C) (.ref CL) = some b5 ∧ PySem.W.kitOne K (.ref C) (.ref CE) = some true ∧ PySem.W.kitOne K (.ref C) (.type "ArithmeticError") = some true ∧ idxTo [b0, b1, b2, b3, b4, b5] 6 = [V.int (i : Nat)] := by
        match i, hx with
        | 0, hx => cases hx; exact ⟨_, CS, _, _, _, _, _, _, rfl, vS.v, ES, kSS, kST, kSB, kSC, kSN, kSL, kES, kAS, rfl⟩
        | 1, hx => cases hx; exact ⟨_, CT, _, _, _, _, _, _, rfl, vT.v, ET, kTS, kTT, kTB, kTC, kTN, kTL, kET, kAT, rfl⟩
        | 2, hx => cases hx; exact ⟨_, CB, _, _, _, _, _, _, rfl, vB.v, EB, kBS, kBT, kBB, kBC, kBN, kBL, kEB, kAB, rfl⟩
        | 3, hx => cases hx; exact ⟨_, CC, _, _, _, _, _, _, rfl, vC.v, EC, kCS, kCT, kCB, kCC, kCN, kCL, kEC, kAC, rfl⟩
        | 4, hx => cases hx; exact ⟨_, CN, _, _, _, _, _, _, rfl, vN, EN, kNS, kNT, kNB, kNC, kNN, kNL, kEN, kAN, rfl⟩
        | 5, hx => cases hx; exact ⟨_, CL, _, _, _, _, _, _, rfl, vL.v, EL, kLS, kLT, kLB, kLC, kLN, kLL, kEL, kAL, rfl⟩
      refine ⟨_, _, rfl, SqT.of eT, rfl, _, _, rfl, _, _, rfl, rfl, ?_⟩
      have va := va.same (zb.trans sT)
      refine ⟨_, rfl, a, C, .ref CS, .ref CS, b0, rfl, va, Ea, fun u r => r, k0, ⟨_, rfl, a, C, .ref CT, .ref CT, b1, rfl, va, Ea, fun u r => r, k1, ⟨_, rfl, a, C, .ref CB, .ref CB, b2, rfl, va, Ea, fun u r => r, k2, ⟨by show 3 ≤ sizeLine; decide, fun m1 B1 u1 w1 f1 => ?_⟩⟩⟩⟩
      have va1 := va.same u1
      refine ⟨_, rfl, _, rfl, a, C, .ref CC, .ref CC, b3, rfl, va1, Ea, fun u r => r, k3, ⟨_, rfl, a, C, .ref CN, .ref CN, b4, rfl, va1, Ea, fun u r => r, k4, ⟨_, rfl, a, C, .ref CL, .ref CL, b5, rfl, va1, Ea, fun u r => r, k5, ⟨by show 3 ≤ sizeLine; decide, fun m2 B2 u2 w2 f2 => ?_⟩⟩⟩⟩
      refine ⟨m1, m2, _, _, rfl, rfl, u2 _ _ f1, f2, by show 6 ≤ sizeLine; decide, fun m3 B3 u3 w3 f3 => ?_⟩
      have sB : Same Zb B3 := (((zb.trans sT).trans u1).trans u2).trans u3
      refine ⟨_, rfl, m3, [.bl b0, .bl b1, .bl b2, .bl b3, .bl b4, .bl b5], rfl, SqL.of f3, fun D nD => ?_⟩
      refine lc_enumG (K := K) (a := m3) (xs := [.bl b0, .bl b1, .bl b2, .bl b3, .bl b4, .bl b5]) (fun j Hc => Same B3 Hc ∧ Hc D = some (.lst (idxTo [b0, b1, b2, b3, b4, b5] j))) ⟨Same.upd nD, upd_same⟩ (fun j Hc _ z => z.1.seq (SqL.of f3)) ?_ ?_
      · rintro j y Hc hy ⟨sm, eD⟩ T2 H2 sT2 nT2 eT2
        obtain ⟨b, rfl, hb, lj⟩ : ∃ b, y = V.bl b ∧ [b0, b1, b2, b3, b4, b5].getD j false = b ∧ j < 6 := by
          match j, hy with
          | 0, hy => cases hy; exact ⟨_, rfl, rfl, by decide⟩
          | 1, hy => cases hy; exact ⟨_, rfl, rfl, by decide⟩
          | 2, hy => cases hy; exact ⟨_, rfl, rfl, by decide⟩
          | 3, hy => cases hy; exact ⟨_, rfl, rfl, by decide⟩
          | 4, hy => cases hy; exact ⟨_, rfl, rfl, by decide⟩
          | 5, hy => cases hy; exact ⟨_, rfl, rfl, by decide⟩
        refine ⟨_, _, rfl, SqT.of eT2, rfl, _, _, rfl, _, _, rfl, rfl, rfl, _, rfl, _, rfl, ?_⟩
        have su := idx_succ [b0, b1, b2, b3, b4, b5] j
        rw [hb] at su
        cases b with
        | true =>
          refine ⟨_, rfl, _, sT2 _ _ eD, Nat.lt_of_le_of_lt (idx_le _ _) (Nat.lt_of_lt_of_le lj (by decide)), fun p o e => ?_, ?_⟩
          · rw [upd_ne (ne_of_none e nD)]
            exact sT2 _ _ (sm _ _ e)
          · rw [upd_same, su]
            rfl
        | false =>
          refine ⟨sm.trans sT2, ?_⟩
          rw [su]
          exact (sT2 _ _ eD).trans (by simp)
      · rintro Hc ⟨sm, eD⟩
        have eD : Hc D = some (.lst (idxTo [b0, b1, b2, b3, b4, b5] 6)) := eD
        rw [ix] at eD
        refine ⟨_, rfl, by show 1 ≤ sizeLine; decide, fun g1 D1 v1 z1 h1 => ⟨.list [.int (i : Nat)], .list [.int (i : Nat)], .lst (SqL.of (v1 _ _ eD)) (.cons (.int _) .nil), .lst (SqL.of h1) (.cons (.int _) .nil), rfl, rfl, _, rfl, ?_⟩⟩
        rw [eqv_one, decide_eq_true rfl]
        have vb := va1.same (((u2.trans u3).trans sm).trans v1)
        refine ⟨_, rfl, a, C, .ref CE, .ref CE, true, rfl, vb, Ea, fun u r => r, kE, _, rfl, ?_⟩
        exact ⟨_, rfl, a, C, .ty "ArithmeticError", .type "ArithmeticError", true, rfl, vb, Ea, fun u r => r, kA, _, rfl, ⟨_, _, _, rfl⟩, (sB.trans sm).trans v1⟩
    rintro σ' Z0 ⟨⟨y2, y3, y4, rfl⟩, zb⟩
    have eZ := zb _ _ eE
    refine ⟨_, rfl, _, _, _, _, rfl, rfl, SqL.of eZ, atI_nat (j := 0) rfl, aS, CS, _, rfl, vS.same zb, XS, nS, ⟨_, rfl, _, _, _, _, rfl, rfl, SqL.of eZ, atI_nat (j := 1) rfl, aT, CT, _, rfl, vT.same zb, XT, nT, ⟨_, rfl, _, _, _, _, rfl, rfl, SqL.of eZ, atI_nat (j := 2) rfl, aB, CB, _, rfl, vB.same zb, XB, nB, ⟨_, rfl, _, _, _, _, rfl, rfl, SqL.of eZ, atI_nat (j := 3) rfl, aC, CC, _, rfl, vC.same zb, XC, nC, ⟨_, rfl, fun a5 Y1 t1 e5 => ⟨a5, CL, _, rfl, e5, XL, nL, by show 5 ≤ sizeLine; decide, fun r1 Y2 t2 g2 h2 => ?_⟩⟩⟩⟩⟩⟩
    refine ⟨_, rfl, by show 1 ≤ sizeLine; decide, fun r2 g3 => ⟨r2, 5, _, rfl, rfl, upd_same, by decide, by decide, by show 1 * 5 ≤ sizeLine; decide, fun r3 g4 => ?_⟩⟩
    have h3 := (Same.upd (o := .lst (List.replicate (5 : Int).toNat [V.int n]).flatten) g4) _ _ ((Same.upd (o := .lst [V.int n]) g3) _ _ h2)
    refine ⟨.list [.int n, .int n, .int n, .int n, .int n], .list [.int n, .int n, .int n, .int n, .int n], .lst (SqL.of h3) (.cons (.int n) (.cons (.int n) (.cons (.int n) (.cons (.int n) (.cons (.int n) .nil))))), .lst (SqL.of upd_same) (.cons (.int n) (.cons (.int n) (.cons (.int n) (.cons (.int n) (.cons (.int n) .nil))))), rfl, rfl, ?_⟩
    have e : PyData.eqv (.list [.int n, .int n, .int n, .int n, .int n]) (.list [.int n, .int n, .int n, .int n, .int n]) = true := by simp [PyData.eqv, PyData.eqvAll]
    rw [e]
    exact q _ ((((hH.trans zb).trans t1).trans t2).trans ((Same.upd g3).trans (Same.upd g4)))
end
section
variable {K : PySem.W.Frag}
def gRev {α : Type} (us ws : List α) : List α := match us with
  | [] => ws.reverse
  | _ :: _ => []
theorem Vals.rev : ∀ {xs : List V} {us : List Value}, Vals xs us → Vals xs.reverse us.reverse
  | _, _, .nil => .nil
  | _, _, .cons r t => by
    rw [List.reverse_cons, List.reverse_cons]
    exact Vals.append (Vals.rev t) (.cons r .nil)
theorem kb_rev {x q : Str} {st : Stmt} {f : Addr} {fd : FuncData} {ps ks : List Str} (F : Fun K x q st f fd) (h0 : 0 < ps.length)
    (h : ∀ (kV doc pm : Value) (an : Option Addr) (cdv ct : Value) (ws : List Value), ws.length = ps.length → bindArgs (PySem.W.fnOf x q (defArgs st) (defBody st) (defScope st) .none kV doc pm an cdv ct) ⟨[], ks.zip ws⟩ = (pure (ps.zip ws.reverse) : Sem (List (Str × Value)))) :
    KBinds K fd ps ks gRev gRev := by
  obtain ⟨oc, od, kV, doc, pm, an, cdv, ct, osl, rfl, lk, hcd⟩ := F.ex
  refine ⟨fun s us ws _ hl => ?_, fun {vs us zs ws} r rz => ?_⟩
  · cases us with
    | nil =>
      have hl : ws.reverse.length = ps.length := hl
      rw [List.length_reverse] at hl
      exact .of_eq (h kV doc pm an cdv ct ws hl)
    | cons a r =>
      have hl : 0 = ps.length := hl
      omega
  · cases r with
    | nil => exact Vals.rev rz
    | cons _ _ => exact .nil

end
open LamX
/-! ### is_integer, law -/
abbrev sIsInt : Stmt := topS 10
theorem scIsInt : FnScope ["value"] ["value"] (defScope sIsInt) := ⟨rfl, rfl, rfl, by decide +kernel, rfl, by decide +kernel, by decide +kernel⟩
abbrev sLaw : Stmt := topS 42
abbrev nLaw : List Str := ["_law_script", "_law_deep", "_law_k", "_law_number_here", "_law_no", "_law_one_here"]
theorem scLaw : FnScope nLaw ["_law_script"] (defScope sLaw) := ⟨rfl, rfl, rfl, by decide +kernel, rfl, by decide +kernel, by decide +kernel⟩
section
variable {P : Program} {w : World} {K : PySem.W.Frag} {mg : Str → Option Value} {base : Heap}
/-- what is_integer tells -/
inductive IntY (K : PySem.W.Frag) (H : Hp) : V → Bool → Prop where
  | no {x : V} (h : NoInt K H x) : IntY K H x false
  | int (n : Int) : IntY K H (.int n) true
  | bl (b : Bool) : IntY K H (.bl b) false
theorem IntY.same {H H' : Hp} {x : V} {b : Bool} (h : IntY K H x b) (s : Same H H') : IntY K H' x b := by
  cases h with
  | no h => exact .no (NoInt.ext (ExtN.same s) h)
  | int n => exact .int n
  | bl b => exact .bl b
theorem kIB (K : PySem.W.Frag) : PySem.W.kitOne K (.type "int") (.type "bool") = some false := kit_ty (by decide +kernel)
theorem kBB (K : PySem.W.Frag) : PySem.W.kitOne K (.type "bool") (.type "bool") = some true := kit_ty (by decide +kernel)
def spInt4 (K : PySem.W.Frag) : Sp := fun vs H Q _ => ∃ x b, vs = [x] ∧ IntY K H x b ∧ Q (.bl b) H
theorem ok_isint4 {f : Addr} {fd : FuncData} {k : Nat} (F : Fun K "is_integer" "is_integer" sIsInt f fd) (misinstance : mg "isinstance" = none) (mint : mg "int" = none) (mbool : mg "bool" = none) : FnOk P w K mg base CX0 (k + 1) f fd ["value"] (spInt4 K) := by
  refine F.ok scIsInt (fun vs H Q E h => ?_) (fun cdv A outer s H vs Q E hr h => ?_)
  · obtain ⟨x, b, rfl, _⟩ := h
    rfl
  · obtain ⟨x, b, rfl, hx, q⟩ := h
    refine ⟨_, pss_one (ps_ret (pe_and (pe_callB call_isi (by rfl) misinstance (by decide +kernel) (pa_cons (pv 0) (pa_cons (pe_bltn (v := .ty "int") (by rfl) mint (by decide +kernel) rfl) pa_nil)))
      (pe_one (pe_not (pe_callB call_isi (by rfl) misinstance (by decide +kernel) (pa_cons (pv 0) (pa_cons (pe_bltn (v := .ty "bool") (by rfl) mbool (by decide +kernel) rfl) pa_nil))))))), ?_⟩
    cases hx with
    | no h =>
      obtain ⟨_, h, e⟩ := h
      exact ⟨_, rfl, _, _, _, _, _, rfl, .ty "int", h, e, _, rfl, q⟩
    | int n => exact ⟨_, rfl, _, _, _, _, _, rfl, .ty "int", .base (.int n), kII K, _, rfl, _, rfl, _, _, _, _, _, rfl, .ty "bool", .base (.int n), kIB K, _, rfl, q⟩
    | bl b => exact ⟨_, rfl, _, _, _, _, _, rfl, .ty "int", .base (.bl b), kBI K, _, rfl, _, rfl, _, _, _, _, _, rfl, .ty "bool", .base (.bl b), kBB K, _, rfl, q⟩
def rRepG : R2 := fun x y H Q => ∃ l k xs, x = .ref l ∧ y = .int k ∧ H l = some (.lst xs) ∧ -(2 ^ 63) ≤ k ∧ k < 2 ^ 63 ∧ xs.length * k.toNat ≤ sizeLine ∧ ∀ p H2, Same H H2 → H p = none → H2 p = some (.lst (List.replicate k.toNat xs).flatten) → Q (.ref p) H2
theorem op_repG {X : Cx} : OpR X (binaryOp .Mult) rRepG := fun pins s σ H x y v u Q I rx ry w => by
  rcases w with ⟨l, k, xs, e1, e2, h1, b1, b2, z, q⟩
  exact op_rep pins s σ H x y v u Q I rx ry ⟨l, k, xs, e1, e2, h1, b1, b2, z, fun p np => q p _ (Same.upd np) np upd_same⟩
theorem dpBls {H : Hp} : ∀ bs : List Bool, DpAll K H (bs.map V.bl) (bs.map PyData.bool)
  | [] => .nil
  | b :: r => .cons (.bl b) (dpBls r)
theorem cut_ints4 (ns : List Int) (lo hi : Option Int) : ∃ ms : List Int, cutV (ns.map V.int) lo hi = ms.map V.int ∧ ms.length ≤ ns.length := by
  refine ⟨(ns.drop (HT.sIx (ns.map V.int).length 0 lo)).take (HT.sIx (ns.map V.int).length (ns.map V.int).length hi - HT.sIx (ns.map V.int).length 0 lo), ?_, ?_⟩
  · unfold cutV
    rw [List.map_take, List.map_drop]
  · rw [List.length_take, List.length_drop]
    omega
def spLaw (K : PySem.W.Frag) (T : List (Addr × Str)) : Sp := fun vs H Q _ => ∃ (a : Addr) (ns : List Int), vs = [.ref a] ∧ SqL K H a (ns.map V.int) ∧ ns.length ≤ 63 ∧ Tabs T H ∧ ∀ H', Q (.bl true) H'
set_option maxHeartbeats 2000000
theorem ok_law {f fC fSr fN fEr fI fSi fPr : Addr} {fd fdC fdSr fdN fdEr fdI fdSi fdPr : FuncData} {T : List (Addr × Str)} (F : Fun K "law" "law" sLaw f fd)
    (GC : FnOk P w K mg base CX0 (1) fC fdC ["_law_script", "_law_index"] (spCell K)) (gC : mg "_law_cell_at" = some (.ref fC)) (kC : PySem.W.keepIn K (.ref fC) = true) (bC : Binds K fdC ["_law_script", "_law_index"] []) (GSr : FnOk P w K mg base CX0 (1) fSr fdSr ["_law_number_here"] spSrc) (gSr : mg "_law_source_of" = some (.ref fSr)) (kSr : PySem.W.keepIn K (.ref fSr) = true) (bSr : Binds K fdSr ["_law_number_here"] []) (GN : FnOk P w K mg base CX0 (1) fN fdN ["_law_source", "_law_many"] spNext) (gN : mg "_law_next" = some (.ref fN)) (kN : PySem.W.keepIn K (.ref fN) = true) (bN : Binds K fdN ["_law_source", "_law_many"] []) (GEr : FnOk P w K mg base CX0 (4) fEr fdEr ["_law_x"] spErrs) (gEr : mg "_law_errors_right" = some (.ref fEr)) (kEr : PySem.W.keepIn K (.ref fEr) = true) (bEr : Binds K fdEr ["_law_x"] []) (GI : FnOk P w K mg base CX0 (1) fI fdI ["value"] (spInt4 K)) (gI : mg "is_integer" = some (.ref fI)) (kI : PySem.W.keepIn K (.ref fI) = true) (bI : Binds K fdI ["value"] []) (kbI : KBinds K fdI ["value"] ["value"] gRev gRev) (GSi : FnOk P w K mg base CX0 (12) fSi fdSi ["_law_deep"] (spSitesR T)) (gSi : mg "_law_sites_right" = some (.ref fSi)) (kSi : PySem.W.keepIn K (.ref fSi) = true) (bSi : Binds K fdSi ["_law_deep"] []) (GPr : FnOk P w K mg base CX0 (12) fPr fdPr ["_law_deep"] (spSitesR T)) (gPr : mg "_law_places_right" = some (.ref fPr)) (kPr : PySem.W.keepIn K (.ref fPr) = true) (bPr : Binds K fdPr ["_law_deep"] []) (mrange : mg "range" = none) : FnOk P w K mg base CX0 13 f fd ["_law_script"] (spLaw K T) := by
  refine F.ok scLaw (fun vs H Q E h => ?_) (fun cdv A outer s H vs Q E hr h => ?_)
  · obtain ⟨a, ns, rfl, _⟩ := h
    rfl
  · obtain ⟨a, ns, rfl, hS, hlen, tb, q⟩ := h
    have nd := scLaw.nd
    refine ⟨_, (pss_cons (ps_set (i := 1) nd rfl (.inl rfl) (pe_tupG (pa_cons pe_int pa_nil))) (pss_cons (ps_for PassesOwn.never rfl (pi_range1 (by rfl) mrange (pa_cons pe_int pa_nil)) (pg_name (i := 2) nd rfl (.inl rfl)) (pss_one (ps_set (i := 1) nd rfl (.inl rfl) (pe_tupG (pa_cons (pv 1) pa_nil))))) (pss_cons (ps_for PassesOwn.never rfl (pi_list (pe_op op_catG (pe_lstG (pa_cons (pe_call GC (hr.mono (by decide)) (by rfl) gC kC bC .nil pass0 (pa_cons (pv 0) (pa_cons pe_int pa_nil))) pa_nil)) (pe_slice sl_list (pv 0) (po_some pe_int) (po_some pe_int)))) (pg_name (i := 3) nd rfl (.inl rfl)) (pss_one (ps_if (pt_not (pt_val (pe_call GEr (hr.mono (by decide)) (by rfl) gEr kEr bEr .nil pass0 (pa_cons (pe_call GN (hr.mono (by decide)) (by rfl) gN kN bN .nil pass0 (pa_cons (pe_call GSr (hr.mono (by decide)) (by rfl) gSr kSr bSr .nil pass0 (pa_cons (pv 3) pa_nil)) (pa_cons pe_int pa_nil))) pa_nil)))) (pss_one (ps_ret pe_bl)) pss_nil))) (pss_cons (ps_set (i := 4) nd rfl (.inl rfl) (pe_lstG (pa_cons pe_bl (pa_cons pe_bl (pa_cons pe_non (pa_cons pe_str (pa_cons (pe_lstG pa_nil) (pa_cons (pe_lstG (pa_cons pe_int pa_nil)) (pa_cons (pe_tupG (pa_cons pe_int pa_nil)) (pa_cons pe_dicG pa_nil)))))))))) (pss_cons (ps_if (pt_cmpR (op_neD hr.units) (pe_lc (own := [("_law_one_here", 5)]) (g := gName 5) (tt := tYes) (te := tCall (spInt4 K) [] E0 (tCons (tVar 5) tNil)) rfl nd (pi_list (pe_op op_catG (pe_lstG (pa_cons pe_int (pa_cons pe_neg (pa_cons (pe_op op_pow pe_int pe_int) pa_nil)))) (pv 4))) (blkOk_by (own := [("_law_one_here", 5)]) (N := nLaw) (sc := defScope sLaw) (by decide +kernel)) (fun _ _ _ _ _ => by exact (pg_name (i := 5) nd rfl (.inl rfl))) (fun _ _ _ _ _ => pts_nil) (fun _ _ _ _ _ => by exact (pe_call GI (hr.mono (by decide)) (by rfl) gI kI bI .nil pass0 (pa_cons (pv 5) pa_nil)))) (pe_op op_catG (pe_op op_repG (pe_lstG (pa_cons pe_bl pa_nil)) pe_int) (pe_op op_repG (pe_lstG (pa_cons pe_bl pa_nil)) pe_int)) (nomark _)) (pss_one (ps_ret pe_bl)) pss_nil) (pss_cons (ps_if (pt_not (pt_val (pe_callKw GI (hr.mono (by decide)) (by rfl) gI kI kbI pass0 (pk_cons pe_int pk_nil)))) (pss_one (ps_ret pe_bl)) pss_nil) (pss_one (ps_ret (pe_and (pe_call GSi (hr.mono (by decide)) (by rfl) gSi kSi bSi .nil pass0 (pa_cons (pv 1) pa_nil)) (pe_one (pe_call GPr (hr.mono (by decide)) (by rfl) gPr kPr bPr .nil pass0 (pa_cons (pv 1) pa_nil)))))))))))), ?_⟩
    refine ⟨by show 1 ≤ sizeLine; decide, fun t0 A0 s0 n0 e0 => ?_⟩
    refine ⟨1990, rfl, by decide, by decide, for_range (lo := 0) (n := 1990) (fun i σ' H' => (∃ t x y2, σ' = [some (.ref a), some (.ref t), y2, none, none, none] ∧ H' t = some (.tup [x])) ∧ Same H H') ⟨⟨t0, _, _, rfl, e0⟩, s0⟩ ?_ ?_⟩
    · rintro i σ' H' hi ⟨⟨t, x, y2, rfl, et⟩, sm⟩
      exact ⟨_, rfl, by show 1 ≤ sizeLine; decide, fun t1 A1 s1 n1 e1 => ⟨⟨t1, _, _, rfl, e1⟩, sm.trans s1⟩⟩
    rintro σ' A1 ⟨⟨td, xd, y2, rfl, eD⟩, sm⟩
    -- the numbers
    refine ⟨_, rfl, a, ns, rfl, sm.seq hS, by omega, fun n0 A2 s2 => ⟨by show 1 ≤ sizeLine; decide, fun l1 A3 s3 n3 e3 => ?_⟩⟩
    obtain ⟨ms, em, lm⟩ := cut_ints4 ns (some 1) (some 3)
    refine ⟨_, rfl, _, rfl, _, rfl, a, ns.map V.int, rfl, ((sm.trans s2).trans s3).seq hS, fun l2 n4 => ?_⟩
    have s4 : Same A3 (upd A3 l2 (.lst (cutV (ns.map V.int) (some 1) (some 3)))) := Same.upd n4
    refine ⟨l1, l2, _, _, rfl, rfl, s4 _ _ e3, upd_same, ?_, fun l3 Zb s5 n5 e5 => ?_⟩
    · rw [em, List.length_map]
      exact Nat.le_trans (show _ ≤ 100 by show 1 + ms.length ≤ 100; omega) (by decide)
    have eL : Zb l3 = some (.lst ((n0 :: ms).map V.int)) := by
      rw [e5, em]
      rfl
    have sZ : Same A1 Zb := ((s2.trans s3).trans s4).trans s5
    refine ⟨l3, rfl, ⟨_, SqL.of eL⟩, for_list (K := K) (a := l3) (xs := (n0 :: ms).map V.int) (fun i σ' H' => (∃ y2 y3, σ' = [some (.ref a), some (.ref td), y2, y3, none, none]) ∧ Same Zb H') ⟨⟨_, _, rfl⟩, Same.refl _⟩ (fun i σ' H' _ z => z.2.seq (SqL.of eL)) ?_ ?_⟩
    · rintro i x σ' Z0 ex ⟨⟨y2, y3, rfl⟩, zb⟩
      obtain ⟨n, rfl⟩ : ∃ n, x = V.int n := by
        obtain ⟨n, _, e⟩ := List.mem_map.mp (List.mem_of_getElem? ex)
        exact ⟨n, e.symm⟩
      refine ⟨_, rfl, n, rfl, fun p p1 p2 p3 np => ⟨p, 1000, rfl, ⟨p1, p2, p3, upd_same⟩, by decide, by decide, fun r Z1 r0 r1 st => ⟨r, rfl, fun Z2 sZ2 => ⟨_, rfl, ⟨_, _, rfl⟩, fun b o e => ?_⟩⟩⟩⟩
      have e0 := zb _ _ e
      have nb : b ≠ p := ne_of_none e0 np
      exact sZ2 _ _ (st.keep _ _ nb (by rw [upd_ne nb]; exact e0))
    rintro σ' Z0 ⟨⟨y2, y3, rfl⟩, zb⟩
    -- is_integer
    refine ⟨by show 0 ≤ sizeLine; decide, fun q1 B1 u1 w1 f1 => ⟨by show 1 ≤ sizeLine; decide, fun q2 B2 u2 w2 f2 => ⟨by show 1 ≤ sizeLine; decide, fun q3 B3 u3 w3 f3 => fun q4 B4 u4 w4 f4 => ⟨by show 8 ≤ sizeLine; decide, fun q5 B5 u5 w5 f5 => ?_⟩⟩⟩⟩
    refine ⟨_, _, rfl, rfl, ⟨by decide, by decide, by decide⟩, by show 3 ≤ sizeLine; decide, fun q6 B6 u6 w6 f6 => ⟨_, rfl, q6, q5, _, _, rfl, rfl, f6, u6 _ _ f5, by show 11 ≤ sizeLine; decide, fun q7 B7 u7 w7 f7 => ?_⟩⟩
    have g1 := u7 _ _ (u6 _ _ (u5 _ _ (u4 _ _ (u3 _ _ (u2 _ _ f1)))))
    have g2 := u7 _ _ (u6 _ _ (u5 _ _ (u4 _ _ (u3 _ _ f2))))
    have g3 := u7 _ _ (u6 _ _ (u5 _ _ (u4 _ _ f3)))
    have g4 := u7 _ _ (u6 _ _ (u5 _ _ f4))
    refine ⟨q7, rfl, ⟨_, SqL.of f7⟩, fun D nD => ?_⟩
    have tell : ∀ (i : Nat) (x : V), ([.int 0, .int (-1), .int (10 ^ (30 : Int).toNat), .bl true, .bl false, .non, .str "1", .ref q1, .ref q2, .ref q3, .ref q4] : List V)[i]? = some x → ∃ b, IntY K B7 x b ∧ [true, true, true, false, false, false, false, false, false, false, false].take (i + 1) = [true, true, true, false, false, false, false, false, false, false, false].take i ++ [b] ∧ i < 11 := fun i x hx => by
      match i, hx with
      | 0, hx => cases hx; exact ⟨_, .int _, rfl, by decide⟩
      | 1, hx => cases hx; exact ⟨_, .int _, rfl, by decide⟩
      | 2, hx => cases hx; exact ⟨_, .int _, rfl, by decide⟩
      | 3, hx => cases hx; exact ⟨_, .bl _, rfl, by decide⟩
      | 4, hx => cases hx; exact ⟨_, .bl _, rfl, by decide⟩
      | 5, hx => cases hx; exact ⟨_, .no ⟨_, nonT, kit_ty (by decide +kernel)⟩, rfl, by decide⟩
      | 6, hx => cases hx; exact ⟨_, .no ⟨_, .base (.str _), kit_ty (by decide +kernel)⟩, rfl, by decide⟩
      | 7, hx => cases hx; exact ⟨_, .no ⟨_, .base (.lst g1), kit_ty (by decide +kernel)⟩, rfl, by decide⟩
      | 8, hx => cases hx; exact ⟨_, .no ⟨_, .base (.lst g2), kit_ty (by decide +kernel)⟩, rfl, by decide⟩
      | 9, hx => cases hx; exact ⟨_, .no ⟨_, .base (.tup g3), kit_ty (by decide +kernel)⟩, rfl, by decide⟩
      | 10, hx => cases hx; exact ⟨_, .no ⟨_, .base (.dK g4), kit_ty (by decide +kernel)⟩, rfl, by decide⟩
    refine lc_list (K := K) (a := q7) (xs := [.int 0, .int (-1), .int (10 ^ (30 : Int).toNat), .bl true, .bl false, .non, .str "1", .ref q1, .ref q2, .ref q3, .ref q4]) (fun i Hc => Same B7 Hc ∧ Hc D = some (.lst (([true, true, true, false, false, false, false, false, false, false, false].take i).map V.bl))) ⟨Same.upd nD, upd_same⟩ (fun i Hc _ z => z.1.seq (SqL.of f7)) ?_ ?_
    · rintro i x Hc hx ⟨sc, eR⟩
      obtain ⟨b, hb, tk, li⟩ := tell i x hx
      refine ⟨rfl, _, rfl, x, b, rfl, hb.same sc, _, eR, ?_, fun p o e => ?_, ?_⟩
      · rw [List.length_map]
        exact Nat.lt_of_le_of_lt (List.length_take_le _ _) (Nat.lt_of_lt_of_le li (by decide))
      · rw [upd_ne (ne_of_none e nD)]
        exact sc _ _ e
      · rw [upd_same, tk, List.map_append]
        rfl
    rintro Hc ⟨sc, eR⟩
    have eR : Hc D = some (.lst ([true, true, true, false, false, false, false, false, false, false, false].map V.bl)) := eR
    refine ⟨by show 1 ≤ sizeLine; decide, fun r1 C1 v1 m1 k1 => ⟨r1, 3, _, rfl, rfl, k1, by decide, by decide, by show 1 * 3 ≤ sizeLine; decide, fun r2 C2 v2 m2 k2 => ⟨by show 1 ≤ sizeLine; decide, fun r3 C3 v3 m3 k3 => ⟨r3, 8, _, rfl, rfl, k3, by decide, by decide, by show 1 * 8 ≤ sizeLine; decide, fun r4 C4 v4 m4 k4 => ?_⟩⟩⟩⟩
    refine ⟨r2, r4, _, _, rfl, rfl, v4 _ _ (v3 _ _ k2), k4, by show 11 ≤ sizeLine; decide, fun r5 C5 v5 m5 k5 => ?_⟩
    have sV : Same Hc C5 := (((v1.trans v2).trans v3).trans v4).trans v5
    have k5 : C5 r5 = some (.lst ([true, true, true, false, false, false, false, false, false, false, false].map V.bl)) := k5
    refine ⟨_, _, .lst (SqL.of (sV _ _ eR)) (dpBls _), .lst (SqL.of k5) (dpBls _), rfl, rfl, _, rfl, ?_⟩
    have e : PyData.eqv (.list ([true, true, true, false, false, false, false, false, false, false, false].map PyData.bool)) (.list ([true, true, true, false, false, false, false, false, false, false, false].map PyData.bool)) = true := by simp [PyData.eqv, PyData.eqvAll]
    rw [e]
    refine ⟨.int 3, true, rfl, .int 3, _, rfl, ?_⟩
    have sA : Same A1 C5 := ((((((((((sZ.trans zb).trans u1).trans u2).trans u3).trans u4).trans u5).trans u6).trans u7).trans sc).trans sV)
    refine ⟨_, rfl, td, xd, rfl, sA _ _ eD, TabsExt tb (sm.trans sA), fun Z1 x1 t1 => ⟨_, rfl, _, rfl, td, xd, rfl, x1 _ _ (sA _ _ eD) (fun ps z => nomatch z), t1, fun Z2 x2 t2 => q Z2⟩⟩
end
abbrev sInitS : Stmt := match topS 3 with
  | .ClassDef _ _ _ body _ _ _ _ _ _ _ => body.getD 0 (.Pass ⟨0, 0, 0, 0⟩)
  | s => s
theorem scInitS : FnScope ["self", "at"] ["self", "at"] (defScope sInitS) := ⟨rfl, rfl, rfl, by decide +kernel, rfl, by decide +kernel, by decide +kernel⟩
theorem ok_initS {P : Program} {w : World} {K : PySem.W.Frag} {mg : Str → Option Value} {base : Heap} {f : Addr} {fd : FuncData} {k : Nat} (F : Fun K "__init__" "InvalidSites.__init__" sInitS f fd) : FnOk P w K mg base CX0 (k + 1) f fd ["self", "at"] (spField K "at") := by
  refine F.ok scInitS (fun vs H Q E h => ?_) (fun cdv A outer s H vs Q E hr h => ?_)
  · obtain ⟨a, C, y, rfl, _⟩ := h
    rfl
  · obtain ⟨a, C, y, rfl, T, ht, ha, q⟩ := h
    exact ⟨_, pss_one (ps_field (pv 0) (pv 1)), _, rfl, _, rfl, a, C, rfl, T, ht, ha, fun dx n ne => q dx n ne⟩
abbrev sInitT : Stmt := match topS 4 with
  | .ClassDef _ _ _ body _ _ _ _ _ _ _ => body.getD 0 (.Pass ⟨0, 0, 0, 0⟩)
  | s => s
theorem scInitT : FnScope ["self", "at"] ["self", "at"] (defScope sInitT) := ⟨rfl, rfl, rfl, by decide +kernel, rfl, by decide +kernel, by decide +kernel⟩
theorem ok_initT {P : Program} {w : World} {K : PySem.W.Frag} {mg : Str → Option Value} {base : Heap} {f : Addr} {fd : FuncData} {k : Nat} (F : Fun K "__init__" "InvalidTriangles.__init__" sInitT f fd) : FnOk P w K mg base CX0 (k + 1) f fd ["self", "at"] (spField K "at") := by
  refine F.ok scInitT (fun vs H Q E h => ?_) (fun cdv A outer s H vs Q E hr h => ?_)
  · obtain ⟨a, C, y, rfl, _⟩ := h
    rfl
  · obtain ⟨a, C, y, rfl, T, ht, ha, q⟩ := h
    exact ⟨_, pss_one (ps_field (pv 0) (pv 1)), _, rfl, _, rfl, a, C, rfl, T, ht, ha, fun dx n ne => q dx n ne⟩
abbrev sInitC : Stmt := match topS 6 with
  | .ClassDef _ _ _ body _ _ _ _ _ _ _ => body.getD 0 (.Pass ⟨0, 0, 0, 0⟩)
  | s => s
theorem scInitC : FnScope ["self", "call"] ["self", "call"] (defScope sInitC) := ⟨rfl, rfl, rfl, by decide +kernel, rfl, by decide +kernel, by decide +kernel⟩
theorem ok_initC {P : Program} {w : World} {K : PySem.W.Frag} {mg : Str → Option Value} {base : Heap} {f : Addr} {fd : FuncData} {k : Nat} (F : Fun K "__init__" "InvalidCall.__init__" sInitC f fd) : FnOk P w K mg base CX0 (k + 1) f fd ["self", "call"] (spField K "call") := by
  refine F.ok scInitC (fun vs H Q E h => ?_) (fun cdv A outer s H vs Q E hr h => ?_)
  · obtain ⟨a, C, y, rfl, _⟩ := h
    rfl
  · obtain ⟨a, C, y, rfl, T, ht, ha, q⟩ := h
    exact ⟨_, pss_one (ps_field (pv 0) (pv 1)), _, rfl, _, rfl, a, C, rfl, T, ht, ha, fun dx n ne => q dx n ne⟩
abbrev sInitL : Stmt := match topS 8 with
  | .ClassDef _ _ _ body _ _ _ _ _ _ _ => body.getD 0 (.Pass ⟨0, 0, 0, 0⟩)
  | s => s
theorem scInitL : FnScope ["self", "limit"] ["self", "limit"] (defScope sInitL) := ⟨rfl, rfl, rfl, by decide +kernel, rfl, by decide +kernel, by decide +kernel⟩
theorem ok_initL {P : Program} {w : World} {K : PySem.W.Frag} {mg : Str → Option Value} {base : Heap} {f : Addr} {fd : FuncData} {k : Nat} (F : Fun K "__init__" "LimitExceeded.__init__" sInitL f fd) : FnOk P w K mg base CX0 (k + 1) f fd ["self", "limit"] (spField K "limit") := by
  refine F.ok scInitL (fun vs H Q E h => ?_) (fun cdv A outer s H vs Q E hr h => ?_)
  · obtain ⟨a, C, y, rfl, _⟩ := h
    rfl
  · obtain ⟨a, C, y, rfl, T, ht, ha, q⟩ := h
    exact ⟨_, pss_one (ps_field (pv 0) (pv 1)), _, rfl, _, rfl, a, C, rfl, T, ht, ha, fun dx n ne => q dx n ne⟩
def tab4 (c1 P1 c2 P2 : Addr) : List (Addr × Str) := [(P1, (envOfC "_law_sites_right" (defScope sSitesR) 0 0 (.ref c1)).qual ++ "<lambda>"), (P2, (envOfC "_law_places_right" (defScope sPlacesR) 0 0 (.ref c2)).qual ++ "<lambda>")]
open LamX
/-! ### what the top has written; the law's own head -/
theorem all_mk {l : PySem.W.OpenLaw} {w : World} {K : PySem.W.Frag} {h : Heap} {mg : Str → Option Value} {fa fI fF fSt fA fPc fCk fCp fSp fK fSd fBt fCi fIc fLs fSq fNe fSr fN fC fRa fAl fSi fPr fEr fL : Addr} (X : K.In h) (G : h.Ns mainGlobals mg) (hfa : mg "law" = some (.ref fa))
    {cCE cSa PSa cPa PPa : Addr}
    {eS iS zNS : Addr} {znmS zqS : Str} {zbsS zbmS : List Value} {zhdS : Bool} {zsnS : List Str} {zsuS : List Value} {zabS : Bool} {zcoS : Option Bool} {zddS : Option Addr} {zk0S zk1S zk2S zk3S zk5S : Option Value} {zodS zanS : Option Addr} {zslS : Array (Option Value)} {zocS zkVS zdcS zpmS zcdS zctS : Value}
    {eT iT zNT : Addr} {znmT zqT : Str} {zbsT zbmT : List Value} {zhdT : Bool} {zsnT : List Str} {zsuT : List Value} {zabT : Bool} {zcoT : Option Bool} {zddT : Option Addr} {zk0T zk1T zk2T zk3T zk5T : Option Value} {zodT zanT : Option Addr} {zslT : Array (Option Value)} {zocT zkVT zdcT zpmT zcdT zctT : Value}
    {eB iB zNB : Addr} {znmB zqB : Str} {zbsB zbmB : List Value} {zhdB : Bool} {zsnB : List Str} {zsuB : List Value} {zabB : Bool} {zcoB : Option Bool} {zddB : Option Addr} {zk0B zk1B zk2B zk3B zk5B : Option Value} {zodB zanB : Option Addr} {zslB : Array (Option Value)} {zocB zkVB zdcB zpmB zcdB zctB : Value}
    {eC iC zNC : Addr} {znmC zqC : Str} {zbsC zbmC : List Value} {zhdC : Bool} {zsnC : List Str} {zsuC : List Value} {zabC : Bool} {zcoC : Option Bool} {zddC : Option Addr} {zk0C zk1C zk2C zk3C zk5C : Option Value} {zodC zanC : Option Addr} {zslC : Array (Option Value)} {zocC zkVC zdcC zpmC zcdC zctC : Value}
    {eN iN zNN : Addr} {znmN zqN : Str} {zbsN zbmN : List Value} {zhdN : Bool} {zsnN : List Str} {zsuN : List Value} {zabN : Bool} {zcoN : Option Bool} {zddN : Option Addr} {zk0N zk1N zk2N zk3N zk5N : Option Value} {zodN zanN : Option Addr} {zslN : Array (Option Value)} {zocN zkVN zdcN zpmN zcdN zctN : Value}
    {eL iL zNL : Addr} {znmL zqL : Str} {zbsL zbmL : List Value} {zhdL : Bool} {zsnL : List Str} {zsuL : List Value} {zabL : Bool} {zcoL : Option Bool} {zddL : Option Addr} {zk0L zk1L zk2L zk3L zk5L : Option Value} {zodL zanL : Option Addr} {zslL : Array (Option Value)} {zocL zkVL zdcL zpmL zcdL zctL : Value}
    {odI anI : Option Addr} {slI : Array (Option Value)} {ocI kVI dcI pmI cdI ctI : Value}
    {odF anF : Option Addr} {slF : Array (Option Value)} {ocF kVF dcF pmF cdF ctF : Value}
    {odSt anSt : Option Addr} {slSt : Array (Option Value)} {ocSt kVSt dcSt pmSt cdSt ctSt : Value}
    {odA anA : Option Addr} {slA : Array (Option Value)} {ocA kVA dcA pmA cdA ctA : Value}
    {odPc anPc : Option Addr} {slPc : Array (Option Value)} {ocPc kVPc dcPc pmPc cdPc ctPc : Value}
    {odCk anCk : Option Addr} {slCk : Array (Option Value)} {ocCk kVCk dcCk pmCk cdCk ctCk : Value}
    {odCp anCp : Option Addr} {slCp : Array (Option Value)} {ocCp kVCp dcCp pmCp cdCp ctCp : Value}
    {odSp anSp : Option Addr} {slSp : Array (Option Value)} {ocSp kVSp dcSp pmSp cdSp ctSp : Value}
    {odK anK : Option Addr} {slK : Array (Option Value)} {ocK kVK dcK pmK cdK ctK : Value}
    {odSd anSd : Option Addr} {slSd : Array (Option Value)} {ocSd kVSd dcSd pmSd cdSd ctSd : Value}
    {odBt anBt : Option Addr} {slBt : Array (Option Value)} {ocBt kVBt dcBt pmBt cdBt ctBt : Value}
    {odCi anCi : Option Addr} {slCi : Array (Option Value)} {ocCi kVCi dcCi pmCi cdCi ctCi : Value}
    {odIc anIc : Option Addr} {slIc : Array (Option Value)} {ocIc kVIc dcIc pmIc cdIc ctIc : Value}
    {odLs anLs : Option Addr} {slLs : Array (Option Value)} {ocLs kVLs dcLs pmLs cdLs ctLs : Value}
    {odSq anSq : Option Addr} {slSq : Array (Option Value)} {ocSq kVSq dcSq pmSq cdSq ctSq : Value}
    {odNe anNe : Option Addr} {slNe : Array (Option Value)} {ocNe kVNe dcNe pmNe cdNe ctNe : Value}
    {odSr anSr : Option Addr} {slSr : Array (Option Value)} {ocSr kVSr dcSr pmSr cdSr ctSr : Value}
    {odN anN : Option Addr} {slN : Array (Option Value)} {ocN kVN dcN pmN cdN ctN : Value}
    {odC anC : Option Addr} {slC : Array (Option Value)} {ocC kVC dcC pmC cdC ctC : Value}
    {odRa anRa : Option Addr} {slRa : Array (Option Value)} {ocRa kVRa dcRa pmRa cdRa ctRa : Value}
    {odAl anAl : Option Addr} {slAl : Array (Option Value)} {ocAl kVAl dcAl pmAl cdAl ctAl : Value}
    {odSi anSi : Option Addr} {slSi : Array (Option Value)} {ocSi kVSi dcSi pmSi ctSi : Value}
    {odPr anPr : Option Addr} {slPr : Array (Option Value)} {ocPr kVPr dcPr pmPr ctPr : Value}
    {odEr anEr : Option Addr} {slEr : Array (Option Value)} {ocEr kVEr dcEr pmEr cdEr ctEr : Value}
    {odL anL : Option Addr} {slL : Array (Option Value)} {ocL kVL dcL pmL cdL ctL : Value}
    (aI : PySem.W.nsIn K mainGlobals "is_integer" = some (some (.ref fI))) (lI : K.lookup fI = some ⟨ocI, odI, .func (PySem.W.fnOf "is_integer" "is_integer" (defArgs sIsInt) (defBody sIsInt) (defScope sIsInt) .none kVI dcI pmI anI cdI ctI), slI⟩) (cI : PySem.W.codeIn K cdI "is_integer" = true) (kI : PySem.W.keepIn K (.ref fI) = true)
    (aF : PySem.W.nsIn K mainGlobals "fraction" = some (some (.ref fF))) (lF : K.lookup fF = some ⟨ocF, odF, .func (PySem.W.fnOf "fraction" "fraction" (defArgs sFrac) (defBody sFrac) (defScope sFrac) .none kVF dcF pmF anF cdF ctF), slF⟩) (cF : PySem.W.codeIn K cdF "fraction" = true) (kF : PySem.W.keepIn K (.ref fF) = true)
    (aSt : PySem.W.nsIn K mainGlobals "is_site" = some (some (.ref fSt))) (lSt : K.lookup fSt = some ⟨ocSt, odSt, .func (PySem.W.fnOf "is_site" "is_site" (defArgs sIsSite) (defBody sIsSite) (defScope sIsSite) .none kVSt dcSt pmSt anSt cdSt ctSt), slSt⟩) (cSt : PySem.W.codeIn K cdSt "is_site" = true) (kSt : PySem.W.keepIn K (.ref fSt) = true)
    (aA : PySem.W.nsIn K mainGlobals "turn_of_sites" = some (some (.ref fA))) (lA : K.lookup fA = some ⟨ocA, odA, .func (PySem.W.fnOf "turn_of_sites" "turn_of_sites" (defArgs sToS) (defBody sToS) (defScope sToS) .none kVA dcA pmA anA cdA ctA), slA⟩) (cA : PySem.W.codeIn K cdA "turn_of_sites" = true) (kA : PySem.W.keepIn K (.ref fA) = true)
    (aPc : PySem.W.nsIn K mainGlobals "is_place" = some (some (.ref fPc))) (lPc : K.lookup fPc = some ⟨ocPc, odPc, .func (PySem.W.fnOf "is_place" "is_place" (defArgs sIsPl) (defBody sIsPl) (defScope sIsPl) .none kVPc dcPc pmPc anPc cdPc ctPc), slPc⟩) (cPc : PySem.W.codeIn K cdPc "is_place" = true) (kPc : PySem.W.keepIn K (.ref fPc) = true)
    (aCk : PySem.W.nsIn K mainGlobals "check_site" = some (some (.ref fCk))) (lCk : K.lookup fCk = some ⟨ocCk, odCk, .func (PySem.W.fnOf "check_site" "check_site" (defArgs sCheck) (defBody sCheck) (defScope sCheck) .none kVCk dcCk pmCk anCk cdCk ctCk), slCk⟩) (cCk : PySem.W.codeIn K cdCk "check_site" = true) (kCk : PySem.W.keepIn K (.ref fCk) = true)
    (aCp : PySem.W.nsIn K mainGlobals "check_place" = some (some (.ref fCp))) (lCp : K.lookup fCp = some ⟨ocCp, odCp, .func (PySem.W.fnOf "check_place" "check_place" (defArgs sCheckP) (defBody sCheckP) (defScope sCheckP) .none kVCp dcCp pmCp anCp cdCp ctCp), slCp⟩) (cCp : PySem.W.codeIn K cdCp "check_place" = true) (kCp : PySem.W.keepIn K (.ref fCp) = true)
    (aSp : PySem.W.nsIn K mainGlobals "spread_square" = some (some (.ref fSp))) (lSp : K.lookup fSp = some ⟨ocSp, odSp, .func (PySem.W.fnOf "spread_square" "spread_square" (defArgs sSpread) (defBody sSpread) (defScope sSpread) .none kVSp dcSp pmSp anSp cdSp ctSp), slSp⟩) (cSp : PySem.W.codeIn K cdSp "spread_square" = true) (kSp : PySem.W.keepIn K (.ref fSp) = true)
    (aK : PySem.W.nsIn K mainGlobals "check_three" = some (some (.ref fK))) (lK : K.lookup fK = some ⟨ocK, odK, .func (PySem.W.fnOf "check_three" "check_three" (defArgs sThree) (defBody sThree) (defScope sThree) .none kVK dcK pmK anK cdK ctK), slK⟩) (cK : PySem.W.codeIn K cdK "check_three" = true) (kK : PySem.W.keepIn K (.ref fK) = true)
    (aSd : PySem.W.nsIn K mainGlobals "side" = some (some (.ref fSd))) (lSd : K.lookup fSd = some ⟨ocSd, odSd, .func (PySem.W.fnOf "side" "side" (defArgs sSide) (defBody sSide) (defScope sSide) .none kVSd dcSd pmSd anSd cdSd ctSd), slSd⟩) (cSd : PySem.W.codeIn K cdSd "side" = true) (kSd : PySem.W.keepIn K (.ref fSd) = true)
    (aBt : PySem.W.nsIn K mainGlobals "is_between" = some (some (.ref fBt))) (lBt : K.lookup fBt = some ⟨ocBt, odBt, .func (PySem.W.fnOf "is_between" "is_between" (defArgs sBtw) (defBody sBtw) (defScope sBtw) .none kVBt dcBt pmBt anBt cdBt ctBt), slBt⟩) (cBt : PySem.W.codeIn K cdBt "is_between" = true) (kBt : PySem.W.keepIn K (.ref fBt) = true)
    (aCi : PySem.W.nsIn K mainGlobals "circle" = some (some (.ref fCi))) (lCi : K.lookup fCi = some ⟨ocCi, odCi, .func (PySem.W.fnOf "circle" "circle" (defArgs sCircle) (defBody sCircle) (defScope sCircle) .none kVCi dcCi pmCi anCi cdCi ctCi), slCi⟩) (cCi : PySem.W.codeIn K cdCi "circle" = true) (kCi : PySem.W.keepIn K (.ref fCi) = true)
    (aIc : PySem.W.nsIn K mainGlobals "in_circle" = some (some (.ref fIc))) (lIc : K.lookup fIc = some ⟨ocIc, odIc, .func (PySem.W.fnOf "in_circle" "in_circle" (defArgs sInC) (defBody sInC) (defScope sInC) .none kVIc dcIc pmIc anIc cdIc ctIc), slIc⟩) (cIc : PySem.W.codeIn K cdIc "in_circle" = true) (kIc : PySem.W.keepIn K (.ref fIc) = true)
    (aLs : PySem.W.nsIn K mainGlobals "lift_side" = some (some (.ref fLs))) (lLs : K.lookup fLs = some ⟨ocLs, odLs, .func (PySem.W.fnOf "lift_side" "lift_side" (defArgs sLSide) (defBody sLSide) (defScope sLSide) .none kVLs dcLs pmLs anLs cdLs ctLs), slLs⟩) (cLs : PySem.W.codeIn K cdLs "lift_side" = true) (kLs : PySem.W.keepIn K (.ref fLs) = true)
    (aSq : PySem.W.nsIn K mainGlobals "square" = some (some (.ref fSq))) (lSq : K.lookup fSq = some ⟨ocSq, odSq, .func (PySem.W.fnOf "square" "square" (defArgs sSquare) (defBody sSquare) (defScope sSquare) .none kVSq dcSq pmSq anSq cdSq ctSq), slSq⟩) (cSq : PySem.W.codeIn K cdSq "square" = true) (kSq : PySem.W.keepIn K (.ref fSq) = true)
    (aNe : PySem.W.nsIn K mainGlobals "nearer" = some (some (.ref fNe))) (lNe : K.lookup fNe = some ⟨ocNe, odNe, .func (PySem.W.fnOf "nearer" "nearer" (defArgs sNearer) (defBody sNearer) (defScope sNearer) .none kVNe dcNe pmNe anNe cdNe ctNe), slNe⟩) (cNe : PySem.W.codeIn K cdNe "nearer" = true) (kNe : PySem.W.keepIn K (.ref fNe) = true)
    (aSr : PySem.W.nsIn K mainGlobals "_law_source_of" = some (some (.ref fSr))) (lSr : K.lookup fSr = some ⟨ocSr, odSr, .func (PySem.W.fnOf "_law_source_of" "_law_source_of" (defArgs sSrc) (defBody sSrc) (defScope sSrc) .none kVSr dcSr pmSr anSr cdSr ctSr), slSr⟩) (cSr : PySem.W.codeIn K cdSr "_law_source_of" = true) (kSr : PySem.W.keepIn K (.ref fSr) = true)
    (aN : PySem.W.nsIn K mainGlobals "_law_next" = some (some (.ref fN))) (lN : K.lookup fN = some ⟨ocN, odN, .func (PySem.W.fnOf "_law_next" "_law_next" (defArgs sNext) (defBody sNext) (defScope sNext) .none kVN dcN pmN anN cdN ctN), slN⟩) (cN : PySem.W.codeIn K cdN "_law_next" = true) (kN : PySem.W.keepIn K (.ref fN) = true)
    (aC : PySem.W.nsIn K mainGlobals "_law_cell_at" = some (some (.ref fC))) (lC : K.lookup fC = some ⟨ocC, odC, .func (PySem.W.fnOf "_law_cell_at" "_law_cell_at" (defArgs sCell) (defBody sCell) (defScope sCell) .none kVC dcC pmC anC cdC ctC), slC⟩) (cC : PySem.W.codeIn K cdC "_law_cell_at" = true) (kC : PySem.W.keepIn K (.ref fC) = true)
    (aRa : PySem.W.nsIn K mainGlobals "_law_raised" = some (some (.ref fRa))) (lRa : K.lookup fRa = some ⟨ocRa, odRa, .func (PySem.W.fnOf "_law_raised" "_law_raised" (defArgs sRais) (defBody sRais) (defScope sRais) .none kVRa dcRa pmRa anRa cdRa ctRa), slRa⟩) (cRa : PySem.W.codeIn K cdRa "_law_raised" = true) (kRa : PySem.W.keepIn K (.ref fRa) = true)
    (aAl : PySem.W.nsIn K mainGlobals "_law_all_raise" = some (some (.ref fAl))) (lAl : K.lookup fAl = some ⟨ocAl, odAl, .func (PySem.W.fnOf "_law_all_raise" "_law_all_raise" (defArgs sAllR) (defBody sAllR) (defScope sAllR) .none kVAl dcAl pmAl anAl cdAl ctAl), slAl⟩) (cAl : PySem.W.codeIn K cdAl "_law_all_raise" = true) (kAl : PySem.W.keepIn K (.ref fAl) = true)
    (aSi : PySem.W.nsIn K mainGlobals "_law_sites_right" = some (some (.ref fSi))) (lSi : K.lookup fSi = some ⟨ocSi, odSi, .func (PySem.W.fnOf "_law_sites_right" "_law_sites_right" (defArgs sSitesR) (defBody sSitesR) (defScope sSitesR) .none kVSi dcSi pmSi anSi (.ref cSa) ctSi), slSi⟩) (cSi : PySem.W.codeIn K (.ref cSa) "_law_sites_right" = true) (kSi : PySem.W.keepIn K (.ref fSi) = true)
    (aPr : PySem.W.nsIn K mainGlobals "_law_places_right" = some (some (.ref fPr))) (lPr : K.lookup fPr = some ⟨ocPr, odPr, .func (PySem.W.fnOf "_law_places_right" "_law_places_right" (defArgs sPlacesR) (defBody sPlacesR) (defScope sPlacesR) .none kVPr dcPr pmPr anPr (.ref cPa) ctPr), slPr⟩) (cPr : PySem.W.codeIn K (.ref cPa) "_law_places_right" = true) (kPr : PySem.W.keepIn K (.ref fPr) = true)
    (aEr : PySem.W.nsIn K mainGlobals "_law_errors_right" = some (some (.ref fEr))) (lEr : K.lookup fEr = some ⟨ocEr, odEr, .func (PySem.W.fnOf "_law_errors_right" "_law_errors_right" (defArgs sErrsR) (defBody sErrsR) (defScope sErrsR) .none kVEr dcEr pmEr anEr cdEr ctEr), slEr⟩) (cEr : PySem.W.codeIn K cdEr "_law_errors_right" = true) (kEr : PySem.W.keepIn K (.ref fEr) = true)
    (aL : PySem.W.nsIn K mainGlobals "law" = some (some (.ref fL))) (lL : K.lookup fL = some ⟨ocL, odL, .func (PySem.W.fnOf "law" "law" (defArgs sLaw) (defBody sLaw) (defScope sLaw) .none kVL dcL pmL anL cdL ctL), slL⟩) (cL : PySem.W.codeIn K cdL "law" = true) (kL : PySem.W.keepIn K (.ref fL) = true)
    (zint : PySem.W.nsIn K mainGlobals "int" = some none)
    (zbool : PySem.W.nsIn K mainGlobals "bool" = some none)
    (zisinstance : PySem.W.nsIn K mainGlobals "isinstance" = some none)
    (ztuple : PySem.W.nsIn K mainGlobals "tuple" = some none)
    (zlen : PySem.W.nsIn K mainGlobals "len" = some none)
    (zenumerate : PySem.W.nsIn K mainGlobals "enumerate" = some none)
    (zArithmeticError : PySem.W.nsIn K mainGlobals "ArithmeticError" = some none)
    (zrange : PySem.W.nsIn K mainGlobals "range" = some none)
    (ggcd : PySem.W.nsIn K mainGlobals "gcd" = some (some (.builtin "math.gcd")))
    (aCE : PySem.W.nsIn K mainGlobals "CellError" = some (some (.ref cCE)))
    (xsp : PySem.W.specialIn K (.builtin "object.__class__") "__get__" = some (some (.builtin "getset_descriptor.__get__")))
    (xtk : PySem.W.takesIn K (.builtin "object.__class__") = some true)
    (aCS : PySem.W.nsIn K mainGlobals "InvalidSites" = some (some (.ref eS)))
    (lCS : K.lookup eS = some (excClassObj znmS zqS eS zNS zbsS zbmS zhdS zsnS zsuS zabS zcoS zddS zk0S zk1S zk2S zk3S zk5S "ArithmeticError.__new__"))
    (bCS : ∀ Y : String, zbmS.contains (.type Y) = aeTail.contains (.type Y))
    (iCS : PySem.W.findIn K (.ref eS) "__init__" = some (some (.ref iS)))
    (lIS : K.lookup iS = some ⟨zocS, zodS, .func (PySem.W.fnOf "__init__" "InvalidSites.__init__" (defArgs sInitS) (defBody sInitS) (defScope sInitS) .none zkVS zdcS zpmS zanS zcdS zctS), zslS⟩)
    (cIS : PySem.W.codeIn K zcdS "InvalidSites.__init__" = true)
    (kIS : PySem.W.keepIn K (.ref iS) = true)
    (fnS : PySem.W.typeIn K (.ref iS) = some (.type "function"))
    (exS : PySem.W.subIn K (.ref eS) (.type "BaseException") = some true)
    (tyS : PySem.W.typeIn K (.ref eS) = some (.type "type"))
    (kcS : PySem.W.keepIn K (.ref eS) = true)
    (xaS : PySem.W.findIn K (.ref eS) "__getattribute__" = some (some (.builtin "BaseException.__getattribute__")))
    (xbS : PySem.W.findIn K (.ref eS) "__getattr__" = some none)
    (xdS : PySem.W.hasDictIn K eS = true)
    (xcS : PySem.W.findIn K (.ref eS) "__class__" = some (some (.builtin "object.__class__")))
    (xmS : PySem.W.mroIn K eS (.type "object") = some true)
    (kES : PySem.W.kitOne K (.ref eS) (.ref cCE) = some true)
    (kAS : PySem.W.kitOne K (.ref eS) (.type "ArithmeticError") = some true)
    (ovS : PySem.W.excOver K eS aeTail = true)
    (stS : PySem.W.findIn K (.ref eS) "__setattr__" = some (some (.builtin "object.__setattr__")))
    (tkS : PySem.W.takerIn K eS "at" = some none)
    (noS : PySem.W.findIn K (.ref eS) "at" = some none)
    (aCT : PySem.W.nsIn K mainGlobals "InvalidTriangles" = some (some (.ref eT)))
    (lCT : K.lookup eT = some (excClassObj znmT zqT eT zNT zbsT zbmT zhdT zsnT zsuT zabT zcoT zddT zk0T zk1T zk2T zk3T zk5T "ArithmeticError.__new__"))
    (bCT : ∀ Y : String, zbmT.contains (.type Y) = aeTail.contains (.type Y))
    (iCT : PySem.W.findIn K (.ref eT) "__init__" = some (some (.ref iT)))
    (lIT : K.lookup iT = some ⟨zocT, zodT, .func (PySem.W.fnOf "__init__" "InvalidTriangles.__init__" (defArgs sInitT) (defBody sInitT) (defScope sInitT) .none zkVT zdcT zpmT zanT zcdT zctT), zslT⟩)
    (cIT : PySem.W.codeIn K zcdT "InvalidTriangles.__init__" = true)
    (kIT : PySem.W.keepIn K (.ref iT) = true)
    (fnT : PySem.W.typeIn K (.ref iT) = some (.type "function"))
    (exT : PySem.W.subIn K (.ref eT) (.type "BaseException") = some true)
    (tyT : PySem.W.typeIn K (.ref eT) = some (.type "type"))
    (kcT : PySem.W.keepIn K (.ref eT) = true)
    (xaT : PySem.W.findIn K (.ref eT) "__getattribute__" = some (some (.builtin "BaseException.__getattribute__")))
    (xbT : PySem.W.findIn K (.ref eT) "__getattr__" = some none)
    (xdT : PySem.W.hasDictIn K eT = true)
    (xcT : PySem.W.findIn K (.ref eT) "__class__" = some (some (.builtin "object.__class__")))
    (xmT : PySem.W.mroIn K eT (.type "object") = some true)
    (kET : PySem.W.kitOne K (.ref eT) (.ref cCE) = some true)
    (kAT : PySem.W.kitOne K (.ref eT) (.type "ArithmeticError") = some true)
    (ovT : PySem.W.excOver K eT aeTail = true)
    (stT : PySem.W.findIn K (.ref eT) "__setattr__" = some (some (.builtin "object.__setattr__")))
    (tkT : PySem.W.takerIn K eT "at" = some none)
    (noT : PySem.W.findIn K (.ref eT) "at" = some none)
    (aCB : PySem.W.nsIn K mainGlobals "InvalidBound" = some (some (.ref eB)))
    (lCB : K.lookup eB = some (excClassObj znmB zqB eB zNB zbsB zbmB zhdB zsnB zsuB zabB zcoB zddB zk0B zk1B zk2B zk3B zk5B "ArithmeticError.__new__"))
    (bCB : ∀ Y : String, zbmB.contains (.type Y) = aeTail.contains (.type Y))
    (iCB : PySem.W.findIn K (.ref eB) "__init__" = some (some (.ref iB)))
    (lIB : K.lookup iB = some ⟨zocB, zodB, .func (PySem.W.fnOf "__init__" "InvalidBound.__init__" (defArgs sInitB) (defBody sInitB) (defScope sInitB) .none zkVB zdcB zpmB zanB zcdB zctB), zslB⟩)
    (cIB : PySem.W.codeIn K zcdB "InvalidBound.__init__" = true)
    (kIB : PySem.W.keepIn K (.ref iB) = true)
    (fnB : PySem.W.typeIn K (.ref iB) = some (.type "function"))
    (exB : PySem.W.subIn K (.ref eB) (.type "BaseException") = some true)
    (tyB : PySem.W.typeIn K (.ref eB) = some (.type "type"))
    (kcB : PySem.W.keepIn K (.ref eB) = true)
    (xaB : PySem.W.findIn K (.ref eB) "__getattribute__" = some (some (.builtin "BaseException.__getattribute__")))
    (xbB : PySem.W.findIn K (.ref eB) "__getattr__" = some none)
    (xdB : PySem.W.hasDictIn K eB = true)
    (xcB : PySem.W.findIn K (.ref eB) "__class__" = some (some (.builtin "object.__class__")))
    (xmB : PySem.W.mroIn K eB (.type "object") = some true)
    (kEB : PySem.W.kitOne K (.ref eB) (.ref cCE) = some true)
    (kAB : PySem.W.kitOne K (.ref eB) (.type "ArithmeticError") = some true)
    (ovB : PySem.W.excOver K eB aeTail = true)
    (stB : PySem.W.findIn K (.ref eB) "__setattr__" = some (some (.builtin "object.__setattr__")))
    (tkB : PySem.W.takerIn K eB "argument" = some none)
    (noB : PySem.W.findIn K (.ref eB) "argument" = some none)
    (aCC : PySem.W.nsIn K mainGlobals "InvalidCall" = some (some (.ref eC)))
    (lCC : K.lookup eC = some (excClassObj znmC zqC eC zNC zbsC zbmC zhdC zsnC zsuC zabC zcoC zddC zk0C zk1C zk2C zk3C zk5C "ArithmeticError.__new__"))
    (bCC : ∀ Y : String, zbmC.contains (.type Y) = aeTail.contains (.type Y))
    (iCC : PySem.W.findIn K (.ref eC) "__init__" = some (some (.ref iC)))
    (lIC : K.lookup iC = some ⟨zocC, zodC, .func (PySem.W.fnOf "__init__" "InvalidCall.__init__" (defArgs sInitC) (defBody sInitC) (defScope sInitC) .none zkVC zdcC zpmC zanC zcdC zctC), zslC⟩)
    (cIC : PySem.W.codeIn K zcdC "InvalidCall.__init__" = true)
    (kIC : PySem.W.keepIn K (.ref iC) = true)
    (fnC : PySem.W.typeIn K (.ref iC) = some (.type "function"))
    (exC : PySem.W.subIn K (.ref eC) (.type "BaseException") = some true)
    (tyC : PySem.W.typeIn K (.ref eC) = some (.type "type"))
    (kcC : PySem.W.keepIn K (.ref eC) = true)
    (xaC : PySem.W.findIn K (.ref eC) "__getattribute__" = some (some (.builtin "BaseException.__getattribute__")))
    (xbC : PySem.W.findIn K (.ref eC) "__getattr__" = some none)
    (xdC : PySem.W.hasDictIn K eC = true)
    (xcC : PySem.W.findIn K (.ref eC) "__class__" = some (some (.builtin "object.__class__")))
    (xmC : PySem.W.mroIn K eC (.type "object") = some true)
    (kEC : PySem.W.kitOne K (.ref eC) (.ref cCE) = some true)
    (kAC : PySem.W.kitOne K (.ref eC) (.type "ArithmeticError") = some true)
    (ovC : PySem.W.excOver K eC aeTail = true)
    (stC : PySem.W.findIn K (.ref eC) "__setattr__" = some (some (.builtin "object.__setattr__")))
    (tkC : PySem.W.takerIn K eC "call" = some none)
    (noC : PySem.W.findIn K (.ref eC) "call" = some none)
    (aCN : PySem.W.nsIn K mainGlobals "NoCircle" = some (some (.ref eN)))
    (lCN : K.lookup eN = some (excClassObj znmN zqN eN zNN zbsN zbmN zhdN zsnN zsuN zabN zcoN zddN zk0N zk1N zk2N zk3N zk5N "ArithmeticError.__new__"))
    (bCN : ∀ Y : String, zbmN.contains (.type Y) = aeTail.contains (.type Y))
    (iCN : PySem.W.findIn K (.ref eN) "__init__" = some (some (.ref iN)))
    (lIN : K.lookup iN = some ⟨zocN, zodN, .func (PySem.W.fnOf "__init__" "NoCircle.__init__" (defArgs sInit) (defBody sInit) (defScope sInit) .none zkVN zdcN zpmN zanN zcdN zctN), zslN⟩)
    (cIN : PySem.W.codeIn K zcdN "NoCircle.__init__" = true)
    (kIN : PySem.W.keepIn K (.ref iN) = true)
    (fnN : PySem.W.typeIn K (.ref iN) = some (.type "function"))
    (exN : PySem.W.subIn K (.ref eN) (.type "BaseException") = some true)
    (tyN : PySem.W.typeIn K (.ref eN) = some (.type "type"))
    (kcN : PySem.W.keepIn K (.ref eN) = true)
    (xaN : PySem.W.findIn K (.ref eN) "__getattribute__" = some (some (.builtin "BaseException.__getattribute__")))
    (xbN : PySem.W.findIn K (.ref eN) "__getattr__" = some none)
    (xdN : PySem.W.hasDictIn K eN = true)
    (xcN : PySem.W.findIn K (.ref eN) "__class__" = some (some (.builtin "object.__class__")))
    (xmN : PySem.W.mroIn K eN (.type "object") = some true)
    (kEN : PySem.W.kitOne K (.ref eN) (.ref cCE) = some true)
    (kAN : PySem.W.kitOne K (.ref eN) (.type "ArithmeticError") = some true)
    (aCL : PySem.W.nsIn K mainGlobals "LimitExceeded" = some (some (.ref eL)))
    (lCL : K.lookup eL = some (excClassObj znmL zqL eL zNL zbsL zbmL zhdL zsnL zsuL zabL zcoL zddL zk0L zk1L zk2L zk3L zk5L "ArithmeticError.__new__"))
    (bCL : ∀ Y : String, zbmL.contains (.type Y) = aeTail.contains (.type Y))
    (iCL : PySem.W.findIn K (.ref eL) "__init__" = some (some (.ref iL)))
    (lIL : K.lookup iL = some ⟨zocL, zodL, .func (PySem.W.fnOf "__init__" "LimitExceeded.__init__" (defArgs sInitL) (defBody sInitL) (defScope sInitL) .none zkVL zdcL zpmL zanL zcdL zctL), zslL⟩)
    (cIL : PySem.W.codeIn K zcdL "LimitExceeded.__init__" = true)
    (kIL : PySem.W.keepIn K (.ref iL) = true)
    (fnL : PySem.W.typeIn K (.ref iL) = some (.type "function"))
    (exL : PySem.W.subIn K (.ref eL) (.type "BaseException") = some true)
    (tyL : PySem.W.typeIn K (.ref eL) = some (.type "type"))
    (kcL : PySem.W.keepIn K (.ref eL) = true)
    (xaL : PySem.W.findIn K (.ref eL) "__getattribute__" = some (some (.builtin "BaseException.__getattribute__")))
    (xbL : PySem.W.findIn K (.ref eL) "__getattr__" = some none)
    (xdL : PySem.W.hasDictIn K eL = true)
    (xcL : PySem.W.findIn K (.ref eL) "__class__" = some (some (.builtin "object.__class__")))
    (xmL : PySem.W.mroIn K eL (.type "object") = some true)
    (kEL : PySem.W.kitOne K (.ref eL) (.ref cCE) = some true)
    (kAL : PySem.W.kitOne K (.ref eL) (.type "ArithmeticError") = some true)
    (ovL : PySem.W.excOver K eL aeTail = true)
    (stL : PySem.W.findIn K (.ref eL) "__setattr__" = some (some (.builtin "object.__setattr__")))
    (tkL : PySem.W.takerIn K eL "limit" = some none)
    (noL : PySem.W.findIn K (.ref eL) "limit" = some none)
    (kSS : PySem.W.kitOne K (.ref eS) (.ref eS) = some true)
    (kST : PySem.W.kitOne K (.ref eS) (.ref eT) = some false)
    (kSB : PySem.W.kitOne K (.ref eS) (.ref eB) = some false)
    (kSC : PySem.W.kitOne K (.ref eS) (.ref eC) = some false)
    (kSN : PySem.W.kitOne K (.ref eS) (.ref eN) = some false)
    (kSL : PySem.W.kitOne K (.ref eS) (.ref eL) = some false)
    (kTS : PySem.W.kitOne K (.ref eT) (.ref eS) = some false)
    (kTT : PySem.W.kitOne K (.ref eT) (.ref eT) = some true)
    (kTB : PySem.W.kitOne K (.ref eT) (.ref eB) = some false)
    (kTC : PySem.W.kitOne K (.ref eT) (.ref eC) = some false)
    (kTN : PySem.W.kitOne K (.ref eT) (.ref eN) = some false)
    (kTL : PySem.W.kitOne K (.ref eT) (.ref eL) = some false)
    (kBS : PySem.W.kitOne K (.ref eB) (.ref eS) = some false)
    (kBT : PySem.W.kitOne K (.ref eB) (.ref eT) = some false)
    (kBB : PySem.W.kitOne K (.ref eB) (.ref eB) = some true)
    (kBC : PySem.W.kitOne K (.ref eB) (.ref eC) = some false)
    (kBN : PySem.W.kitOne K (.ref eB) (.ref eN) = some false)
    (kBL : PySem.W.kitOne K (.ref eB) (.ref eL) = some false)
    (kCS : PySem.W.kitOne K (.ref eC) (.ref eS) = some false)
    (kCT : PySem.W.kitOne K (.ref eC) (.ref eT) = some false)
    (kCB : PySem.W.kitOne K (.ref eC) (.ref eB) = some false)
    (kCC : PySem.W.kitOne K (.ref eC) (.ref eC) = some true)
    (kCN : PySem.W.kitOne K (.ref eC) (.ref eN) = some false)
    (kCL : PySem.W.kitOne K (.ref eC) (.ref eL) = some false)
    (kNS : PySem.W.kitOne K (.ref eN) (.ref eS) = some false)
    (kNT : PySem.W.kitOne K (.ref eN) (.ref eT) = some false)
    (kNB : PySem.W.kitOne K (.ref eN) (.ref eB) = some false)
    (kNC : PySem.W.kitOne K (.ref eN) (.ref eC) = some false)
    (kNN : PySem.W.kitOne K (.ref eN) (.ref eN) = some true)
    (kNL : PySem.W.kitOne K (.ref eN) (.ref eL) = some false)
    (kLS : PySem.W.kitOne K (.ref eL) (.ref eS) = some false)
    (kLT : PySem.W.kitOne K (.ref eL) (.ref eT) = some false)
    (kLB : PySem.W.kitOne K (.ref eL) (.ref eB) = some false)
    (kLC : PySem.W.kitOne K (.ref eL) (.ref eC) = some false)
    (kLN : PySem.W.kitOne K (.ref eL) (.ref eN) = some false)
    (kLL : PySem.W.kitOne K (.ref eL) (.ref eL) = some true)
    (sBB : PySem.W.exmOne K (.ref eB) (.ref eB) = some true)
    (sNB : PySem.W.exmOne K (.ref eN) (.ref eB) = some false)
    (sNN : PySem.W.exmOne K (.ref eN) (.ref eN) = some true)
    (hHdS : PySem.W.codeHdIn K cSa PSa = true)
    (hHdP : PySem.W.codeHdIn K cPa PPa = true)
    (nPS : K.lookup PSa = none)
    (nPP : K.lookup PPa = none)
    (neP : PSa ≠ PPa)
    (hTab1 : h.get? PSa = some (PySem.W.tabObj #[])) (hTab2 : h.get? PPa = some (PySem.W.tabObj #[]))
    : LawAtS l w K CX0 13 63 "_law_script" mg fa h := by
  have e := hfa.symm.trans (PySem.W.mg_of X G aL)
  cases e
  have FI := fun_mk (st := sIsInt) lI cI kI
  have bI := FI.binds (ps := ["value"]) fun _ _ _ _ _ _ us hl => match us, hl with | [_], _ => rfl
  have gI := PySem.W.mg_of X G aI
  have FF := fun_mk (st := sFrac) lF cF kF
  have bF := FF.binds (ps := ["top", "bottom"]) fun _ _ _ _ _ _ us hl => match us, hl with | [_, _], _ => rfl
  have gF := PySem.W.mg_of X G aF
  have FSt := fun_mk (st := sIsSite) lSt cSt kSt
  have bSt := FSt.binds (ps := ["value"]) fun _ _ _ _ _ _ us hl => match us, hl with | [_], _ => rfl
  have gSt := PySem.W.mg_of X G aSt
  have FA := fun_mk (st := sToS) lA cA kA
  have bA := FA.binds (ps := ["a", "b", "c"]) fun _ _ _ _ _ _ us hl => match us, hl with | [_, _, _], _ => rfl
  have gA := PySem.W.mg_of X G aA
  have FPc := fun_mk (st := sIsPl) lPc cPc kPc
  have bPc := FPc.binds (ps := ["value"]) fun _ _ _ _ _ _ us hl => match us, hl with | [_], _ => rfl
  have gPc := PySem.W.mg_of X G aPc
  have FCk := fun_mk (st := sCheck) lCk cCk kCk
  have bCk := FCk.binds (ps := ["value", "name"]) fun _ _ _ _ _ _ us hl => match us, hl with | [_, _], _ => rfl
  have gCk := PySem.W.mg_of X G aCk
  have FCp := fun_mk (st := sCheckP) lCp cCp kCp
  have bCp := FCp.binds (ps := ["value", "name"]) fun _ _ _ _ _ _ us hl => match us, hl with | [_, _], _ => rfl
  have gCp := PySem.W.mg_of X G aCp
  have FSp := fun_mk (st := sSpread) lSp cSp kSp
  have bSp := FSp.binds (ps := ["place", "site"]) fun _ _ _ _ _ _ us hl => match us, hl with | [_, _], _ => rfl
  have gSp := PySem.W.mg_of X G aSp
  have FK := fun_mk (st := sThree) lK cK kK
  have bK := FK.binds (ps := ["a", "b", "c"]) fun _ _ _ _ _ _ us hl => match us, hl with | [_, _, _], _ => rfl
  have gK := PySem.W.mg_of X G aK
  have FSd := fun_mk (st := sSide) lSd cSd kSd
  have bSd := FSd.binds (ps := ["a", "b", "c"]) fun _ _ _ _ _ _ us hl => match us, hl with | [_, _, _], _ => rfl
  have gSd := PySem.W.mg_of X G aSd
  have FBt := fun_mk (st := sBtw) lBt cBt kBt
  have bBt := FBt.binds (ps := ["a", "b", "c"]) fun _ _ _ _ _ _ us hl => match us, hl with | [_, _, _], _ => rfl
  have gBt := PySem.W.mg_of X G aBt
  have FCi := fun_mk (st := sCircle) lCi cCi kCi
  have bCi := FCi.binds (ps := ["a", "b", "c"]) fun _ _ _ _ _ _ us hl => match us, hl with | [_, _, _], _ => rfl
  have gCi := PySem.W.mg_of X G aCi
  have FIc := fun_mk (st := sInC) lIc cIc kIc
  have bIc := FIc.binds (ps := ["a", "b", "c", "d"]) fun _ _ _ _ _ _ us hl => match us, hl with | [_, _, _, _], _ => rfl
  have gIc := PySem.W.mg_of X G aIc
  have FLs := fun_mk (st := sLSide) lLs cLs kLs
  have bLs := FLs.binds (ps := ["a", "b", "c", "d"]) fun _ _ _ _ _ _ us hl => match us, hl with | [_, _, _, _], _ => rfl
  have gLs := PySem.W.mg_of X G aLs
  have FSq := fun_mk (st := sSquare) lSq cSq kSq
  have bSq := FSq.binds (ps := ["place", "site"]) fun _ _ _ _ _ _ us hl => match us, hl with | [_, _], _ => rfl
  have gSq := PySem.W.mg_of X G aSq
  have FNe := fun_mk (st := sNearer) lNe cNe kNe
  have bNe := FNe.binds (ps := ["place", "a", "b"]) fun _ _ _ _ _ _ us hl => match us, hl with | [_, _, _], _ => rfl
  have gNe := PySem.W.mg_of X G aNe
  have FSr := fun_mk (st := sSrc) lSr cSr kSr
  have bSr := FSr.binds (ps := ["_law_number_here"]) fun _ _ _ _ _ _ us hl => match us, hl with | [_], _ => rfl
  have gSr := PySem.W.mg_of X G aSr
  have FN := fun_mk (st := sNext) lN cN kN
  have bN := FN.binds (ps := ["_law_source", "_law_many"]) fun _ _ _ _ _ _ us hl => match us, hl with | [_, _], _ => rfl
  have gN := PySem.W.mg_of X G aN
  have FC := fun_mk (st := sCell) lC cC kC
  have bC := FC.binds (ps := ["_law_script", "_law_index"]) fun _ _ _ _ _ _ us hl => match us, hl with | [_, _], _ => rfl
  have gC := PySem.W.mg_of X G aC
  have FRa := fun_mk (st := sRais) lRa cRa kRa
  have bRa := FRa.binds (ps := ["_law_call_here"]) fun _ _ _ _ _ _ us hl => match us, hl with | [_], _ => rfl
  have gRa := PySem.W.mg_of X G aRa
  have FAl := fun_mk (st := sAllR) lAl cAl kAl
  have bAl := FAl.binds (ps := ["_law_calls", "_law_due"]) fun _ _ _ _ _ _ us hl => match us, hl with | [_, _], _ => rfl
  have gAl := PySem.W.mg_of X G aAl
  have FSi := fun_mk (st := sSitesR) lSi cSi kSi
  have bSi := FSi.binds (ps := ["_law_deep"]) fun _ _ _ _ _ _ us hl => match us, hl with | [_], _ => rfl
  have gSi := PySem.W.mg_of X G aSi
  have FPr := fun_mk (st := sPlacesR) lPr cPr kPr
  have bPr := FPr.binds (ps := ["_law_deep"]) fun _ _ _ _ _ _ us hl => match us, hl with | [_], _ => rfl
  have gPr := PySem.W.mg_of X G aPr
  have FEr := fun_mk (st := sErrsR) lEr cEr kEr
  have bEr := FEr.binds (ps := ["_law_x"]) fun _ _ _ _ _ _ us hl => match us, hl with | [_], _ => rfl
  have gEr := PySem.W.mg_of X G aEr
  have FL := fun_mk (st := sLaw) lL cL kL
  have mint := PySem.W.mg_none_of X G zint
  have mbool := PySem.W.mg_none_of X G zbool
  have misinstance := PySem.W.mg_none_of X G zisinstance
  have mtuple := PySem.W.mg_none_of X G ztuple
  have mlen := PySem.W.mg_none_of X G zlen
  have menumerate := PySem.W.mg_none_of X G zenumerate
  have mArithmeticError := PySem.W.mg_none_of X G zArithmeticError
  have mrange := PySem.W.mg_none_of X G zrange
  have mgcd := PySem.W.mg_of X G ggcd
  have mCE := PySem.W.mg_of X G aCE
  have mcS := PySem.W.mg_of X G aCS
  have FIS := fun_mk (st := sInitS) lIS cIS kIS
  have bIS := FIS.binds (ps := ["self", "at"]) fun _ _ _ _ _ _ us hl => match us, hl with | [_, _], _ => rfl
  have TCS : PassC K eS iS := ⟨⟨_, _, _, _, _, _, _, _, _, _, _, _, _, _, _, _, lCS, bCS⟩, iCS, fnS, exS, tyS, kcS⟩
  have ECS : ExcC K eS := ⟨xaS, xbS, exS, xdS, xcS, xsp, xtk, xmS⟩
  have XCS : XfC K eS := ⟨xaS, xbS, exS, xdS⟩
  have FCS : FieldC K eS := ⟨ovS, PySem.W.any_some xdS |>.elim fun cd h => ⟨cd, h.1, h.2⟩, stS⟩
  have mcT := PySem.W.mg_of X G aCT
  have FIT := fun_mk (st := sInitT) lIT cIT kIT
  have bIT := FIT.binds (ps := ["self", "at"]) fun _ _ _ _ _ _ us hl => match us, hl with | [_, _], _ => rfl
  have TCT : PassC K eT iT := ⟨⟨_, _, _, _, _, _, _, _, _, _, _, _, _, _, _, _, lCT, bCT⟩, iCT, fnT, exT, tyT, kcT⟩
  have ECT : ExcC K eT := ⟨xaT, xbT, exT, xdT, xcT, xsp, xtk, xmT⟩
  have XCT : XfC K eT := ⟨xaT, xbT, exT, xdT⟩
  have FCT : FieldC K eT := ⟨ovT, PySem.W.any_some xdT |>.elim fun cd h => ⟨cd, h.1, h.2⟩, stT⟩
  have mcB := PySem.W.mg_of X G aCB
  have FIB := fun_mk (st := sInitB) lIB cIB kIB
  have bIB := FIB.binds (ps := ["self", "argument"]) fun _ _ _ _ _ _ us hl => match us, hl with | [_, _], _ => rfl
  have TCB : PassC K eB iB := ⟨⟨_, _, _, _, _, _, _, _, _, _, _, _, _, _, _, _, lCB, bCB⟩, iCB, fnB, exB, tyB, kcB⟩
  have ECB : ExcC K eB := ⟨xaB, xbB, exB, xdB, xcB, xsp, xtk, xmB⟩
  have XCB : XfC K eB := ⟨xaB, xbB, exB, xdB⟩
  have FCB : FieldC K eB := ⟨ovB, PySem.W.any_some xdB |>.elim fun cd h => ⟨cd, h.1, h.2⟩, stB⟩
  have mcC := PySem.W.mg_of X G aCC
  have FIC := fun_mk (st := sInitC) lIC cIC kIC
  have bIC := FIC.binds (ps := ["self", "call"]) fun _ _ _ _ _ _ us hl => match us, hl with | [_, _], _ => rfl
  have TCC : PassC K eC iC := ⟨⟨_, _, _, _, _, _, _, _, _, _, _, _, _, _, _, _, lCC, bCC⟩, iCC, fnC, exC, tyC, kcC⟩
  have ECC : ExcC K eC := ⟨xaC, xbC, exC, xdC, xcC, xsp, xtk, xmC⟩
  have XCC : XfC K eC := ⟨xaC, xbC, exC, xdC⟩
  have FCC : FieldC K eC := ⟨ovC, PySem.W.any_some xdC |>.elim fun cd h => ⟨cd, h.1, h.2⟩, stC⟩
  have mcN := PySem.W.mg_of X G aCN
  have FIN := fun_mk (st := sInit) lIN cIN kIN
  have bIN := FIN.binds (ps := ["self"]) fun _ _ _ _ _ _ us hl => match us, hl with | [_], _ => rfl
  have TCN : PassC K eN iN := ⟨⟨_, _, _, _, _, _, _, _, _, _, _, _, _, _, _, _, lCN, bCN⟩, iCN, fnN, exN, tyN, kcN⟩
  have ECN : ExcC K eN := ⟨xaN, xbN, exN, xdN, xcN, xsp, xtk, xmN⟩
  have mcL := PySem.W.mg_of X G aCL
  have FIL := fun_mk (st := sInitL) lIL cIL kIL
  have bIL := FIL.binds (ps := ["self", "limit"]) fun _ _ _ _ _ _ us hl => match us, hl with | [_, _], _ => rfl
  have TCL : PassC K eL iL := ⟨⟨_, _, _, _, _, _, _, _, _, _, _, _, _, _, _, _, lCL, bCL⟩, iCL, fnL, exL, tyL, kcL⟩
  have ECL : ExcC K eL := ⟨xaL, xbL, exL, xdL, xcL, xsp, xtk, xmL⟩
  have XCL : XfC K eL := ⟨xaL, xbL, exL, xdL⟩
  have FCL : FieldC K eL := ⟨ovL, PySem.W.any_some xdL |>.elim fun cd h => ⟨cd, h.1, h.2⟩, stL⟩
  have kbI := kb_rev (ps := ["value"]) (ks := ["value"]) FI (by decide) fun _ _ _ _ _ _ ws hl => match ws, hl with | [_], _ => rfl
  have mem1 : (cSa, PSa) ∈ [(cSa, PSa), (cPa, PPa)] := List.mem_cons_self
  have mem2 : (cPa, PPa) ∈ [(cSa, PSa), (cPa, PPa)] := List.mem_cons_of_mem _ List.mem_cons_self
  refine ⟨PySem.W.fnOf "law" "law" (defArgs sLaw) (defBody sLaw) (defScope sLaw) .none kVL dcL pmL anL cdL ctL, [(cSa, PSa), (cPa, PPa)], spLaw K (tab4 cSa PSa cPa PPa), fun p hp => ?_, fun p hp => ?_, fun p hp => ?_, fun s v => .of_eq rfl, fun H a ns hl _ hH hS => ?_, fun base _ _ TB => ?_⟩
  · simp only [List.mem_cons, List.not_mem_nil, or_false] at hp
    rcases hp with rfl | rfl
    · exact hTab1
    · exact hTab2
  · simp only [List.mem_cons, List.not_mem_nil, or_false] at hp
    rcases hp with rfl | rfl
    · exact nPS
    · exact nPP
  · simp only [List.mem_cons, List.not_mem_nil, or_false] at hp
    rcases hp with rfl | rfl
    · exact PySem.W.codeHd_of_K X hHdS
    · exact PySem.W.codeHd_of_K X hHdP
  · refine ⟨a, ns, rfl, hS, hl, fun p hp => ?_, fun _ => rfl⟩
    simp only [tab4, List.mem_cons, List.not_mem_nil, or_false] at hp
    rcases hp with rfl | rfl
    · exact TabS.nil (hH _ mem1)
    · exact TabS.nil (hH _ mem2)
  have tb1 := TB _ mem1
  have tb2 := TB _ mem2
  have hu1 : ∀ p ∈ tab4 cSa PSa cPa PPa, p.1 = PSa → p.2 = (envOfC "_law_sites_right" (defScope sSitesR) 0 0 (.ref cSa)).qual ++ "<lambda>" := fun p hp e => by
    simp only [tab4, List.mem_cons, List.not_mem_nil, or_false] at hp
    rcases hp with rfl | rfl
    · rfl
    · exact absurd e.symm neP
  have hu2 : ∀ p ∈ tab4 cSa PSa cPa PPa, p.1 = PPa → p.2 = (envOfC "_law_places_right" (defScope sPlacesR) 0 0 (.ref cPa)).qual ++ "<lambda>" := fun p hp e => by
    simp only [tab4, List.mem_cons, List.not_mem_nil, or_false] at hp
    rcases hp with rfl | rfl
    · exact absurd e neP
    · rfl
  have GA := fun k => ok_tos (P := l.prog) (w := w) (base := base) (k := k) FA misinstance mtuple mint mlen
  have GAX := fun k => ok_tosX (P := l.prog) (w := w) (base := base) (k := k) FA misinstance mtuple mint mlen
  have GSt := fun k => ok_issite (P := l.prog) (w := w) (base := base) (k := k) FSt misinstance mtuple mint mlen
  have GNs := fun k => ok_nosite (P := l.prog) (w := w) (base := base) (k := k) FSt misinstance mtuple mint mlen
  have GIB := fun k => ok_initB (P := l.prog) (w := w) (mg := mg) (base := base) (k := k) FIB
  have GIN := fun k => ok_init (P := l.prog) (w := w) (mg := mg) (base := base) (k := k) FIN
  have GCk := ok_checkG (k := 0) FCk (FnOk.both (GSt 1) (GNs 1)) gSt kSt bSt TCB FCB tkB (GIB 0) bIB mcB
  have GCkV := fun k => ok_check (k := k) FCk (GSt k) gSt kSt bSt
  have G3 := ok_threeX (k := 3) FK GCk gCk kCk bCk
  have GSd := (ok_sideR (k := 1) FSd (GAX 2) gA kA bA GCk gCk kCk bCk TCB FCB tkB (GIB 1) bIB mcB).mono (show 4 ≤ 8 by decide)
  have GBt := (ok_btw3 (k := 4) FBt (GAX 3) gA kA bA G3 gK kK bK).mono (show 5 ≤ 8 by decide)
  have GCi := (ok_circle3 (k := 4) FCi (GAX 3) gA kA bA G3 gK kK bK).mono (show 5 ≤ 8 by decide)
  have GLs := ok_lside3 (k := 4) FLs (GAX 3) gA kA bA G3 gK kK bK
  have GIc := (ok_inc3 (k := 5) FIc GLs gLs kLs bLs).mono (show 6 ≤ 8 by decide)
  have GLsD := ok_lsideD (k := 3) FLs (GA 2) gA kA bA GCk gCk kCk bCk
  have GIcD := (ok_incD (k := 4) FIc GLsD gLs kLs bLs).mono (show 5 ≤ 8 by decide)
  have GCiR := (ok_circleX (k := 2) FCi (GA 3) gA kA bA TCN (GIN 2) bIN mcN).mono (show 5 ≤ 8 by decide)
  have GLsR := ok_lsideX (k := 2) FLs (GA 3) gA kA bA (GCkV 2) gCk kCk bCk TCN (GIN 2) bIN mcN
  have GIcR := (ok_incX (k := 5) FIc GLsR gLs kLs bLs).mono (show 6 ≤ 8 by decide)
  have GPc := fun k => ok_ispl (P := l.prog) (w := w) (base := base) (k := k + 1) FPc misinstance mtuple mint mlen mgcd
  have GPcN := fun k => ok_nopl (P := l.prog) (w := w) (base := base) (k := k + 1) FPc misinstance mtuple mint mlen mgcd
  have GCp := ok_checkPG (k := 0) FCp (FnOk.both (GPc 0) (GPcN 0)) gPc kPc bPc TCB FCB tkB (GIB 0) bIB mcB
  have GCpV := fun k => ok_checkp (k := k + 1) FCp (GPc k) gPc kPc bPc
  have GNe := (ok_nearR (k := 3) FNe GCp gCp kCp bCp GCk gCk kCk bCk).mono (show 4 ≤ 8 by decide)
  have GSq := (ok_squareR (k := 3) FSq GCp gCp kCp bCp GCk gCk kCk bCk).mono (show 4 ≤ 8 by decide)
  have GSp := fun k => ok_spread (P := l.prog) (w := w) (mg := mg) (base := base) (k := k) FSp
  have GF := fun k => ok_frac (P := l.prog) (w := w) (base := base) (k := k) FF mgcd
  have GSv := (ok_square (k := 5) FSq (GCkV 4) gCk kCk bCk (GCpV 3) gCp kCp bCp (GSp 5) gSp kSp bSp (GF 5) gF kF bF).mono (show 7 ≤ 8 by decide)
  have GBv := (ok_btw (k := 3) FBt (GA 3) gA kA bA).mono (show 5 ≤ 8 by decide)
  have GRa := ok_raised (P := l.prog) (w := w) (base := base) (k := 9) FRa mcB mcN mCE XCB noB sBB sNB sNN
  have GAl := ok_allr (k := 9) FAl GRa gRa kRa bRa
  have GSi := ok_sitesr (T := tab4 cSa PSa cPa PPa) lSi cSi tb1 List.mem_cons_self hu1 GSd gSd kSd bSd GBt gBt kBt bBt GCi gCi kCi bCi GIc gIc kIc bIc (GLs.mono (show 5 ≤ 8 by decide)) gLs kLs bLs GNe gNe kNe bNe GSq gSq kSq bSq GCiR GIcR (GLsR.mono (show 5 ≤ 8 by decide)) GIcD (GLsD.mono (show 4 ≤ 8 by decide)) GBv GRa gRa kRa bRa GAl gAl kAl bAl
  have GPr := ok_placesr (NC := eN) (T := tab4 cSa PSa cPa PPa) lPr cPr tb2 (List.mem_cons_of_mem _ List.mem_cons_self) hu2 GNe gNe kNe bNe GSq gSq kSq bSq GSv GAl gAl kAl bAl
  have GEr := ok_errsr (k := 1) FEr mcS TCS ECS kES kAS FCS tkS (ok_initS (P := l.prog) (w := w) (mg := mg) (base := base) (k := 1) FIS) (fun s u v => .of_eq rfl) XCS noS kSS kST kSB kSC kSN kSL mcT TCT ECT kET kAT FCT tkT (ok_initT (P := l.prog) (w := w) (mg := mg) (base := base) (k := 1) FIT) (fun s u v => .of_eq rfl) XCT noT kTS kTT kTB kTC kTN kTL mcB TCB ECB kEB kAB FCB tkB (ok_initB (P := l.prog) (w := w) (mg := mg) (base := base) (k := 1) FIB) (fun s u v => .of_eq rfl) XCB noB kBS kBT kBB kBC kBN kBL mcC TCC ECC kEC kAC FCC tkC (ok_initC (P := l.prog) (w := w) (mg := mg) (base := base) (k := 1) FIC) (fun s u v => .of_eq rfl) XCC noC kCS kCT kCB kCC kCN kCL mcN TCN ECN kEN kAN (GIN 1) bIN kNS kNT kNB kNC kNN kNL mcL TCL ECL kEL kAL FCL tkL (ok_initL (P := l.prog) (w := w) (mg := mg) (base := base) (k := 1) FIL) (fun s u v => .of_eq rfl) XCL noL kLS kLT kLB kLC kLN kLL bIL mCE mArithmeticError misinstance menumerate
  have GI := ok_isint4 (P := l.prog) (w := w) (base := base) (k := 0) FI misinstance mint mbool
  have GSr := ok_src (P := l.prog) (w := w) (base := base) (k := 0) FSr mint
  have GN := ok_next (P := l.prog) (w := w) (base := base) (k := 0) FN mint
  have GC := ok_cell (P := l.prog) (w := w) (mg := mg) (base := base) (k := 0) FC
  exact ok_law FL GC gC kC bC GSr gSr kSr bSr GN gN kN bN GEr gEr kEr bEr GI gI kI bI kbI GSi gSi kSi bSi GPr gPr kPr bPr mrange
end NcK
open PySem PySem.W PyProof.Rows
set_option maxHeartbeats 0 in
theorem PySem.Challenge.cw_nearcells_k04_what_signs_refuse_holds : PySem.Challenge.rw_nearcells_k04_what_signs_refuse.Holds := by
  w_on; o_law; k_head; (case hw => w_witness2)
  k_fill
  refine LamX.walk_ofTs (l := PySem.Challenge.rw_nearcells_k04_what_signs_refuse) (n := 63) (k := 13) (x := "_law_script") (CX := fun _ => L2.CX0) rfl (by decide) rfl ⟨rfl, by decide, by decide⟩ (fun w h Y => PySem.W.km_in_of Y) ?F (fun _ _ _ _ _ h => h)
  case F =>
    intro w mg fa h Y KX G hmg
    have hT8 := PySem.W.km_tabs_of Y
    refine' NcK.all_mk KX G hmg ?aI ?lI ?cI ?kI ?aF ?lF ?cF ?kF ?aSt ?lSt ?cSt ?kSt ?aA ?lA ?cA ?kA ?aPc ?lPc ?cPc ?kPc ?aCk ?lCk ?cCk ?kCk ?aCp ?lCp ?cCp ?kCp ?aSp ?lSp ?cSp ?kSp ?aK ?lK ?cK ?kK ?aSd ?lSd ?cSd ?kSd ?aBt ?lBt ?cBt ?kBt ?aCi ?lCi ?cCi ?kCi ?aIc ?lIc ?cIc ?kIc ?aLs ?lLs ?cLs ?kLs ?aSq ?lSq ?cSq ?kSq ?aNe ?lNe ?cNe ?kNe ?aSr ?lSr ?cSr ?kSr ?aN ?lN ?cN ?kN ?aC ?lC ?cC ?kC ?aRa ?lRa ?cRa ?kRa ?aAl ?lAl ?cAl ?kAl ?aSi ?lSi ?cSi ?kSi ?aPr ?lPr ?cPr ?kPr ?aEr ?lEr ?cEr ?kEr ?aL ?lL ?cL ?kL ?zint ?zbool ?zisinstance ?ztuple ?zlen ?zenumerate ?zArithmeticError ?zrange ?ggcd ?aCE ?xsp ?xtk ?aCS ?lCS ?bCS ?iCS ?lIS ?cIS ?kIS ?fnS ?exS ?tyS ?kcS ?xaS ?xbS ?xdS ?xcS ?xmS ?kES ?kAS ?ovS ?stS ?tkS ?noS ?aCT ?lCT ?bCT ?iCT ?lIT ?cIT ?kIT ?fnT ?exT ?tyT ?kcT ?xaT ?xbT ?xdT ?xcT ?xmT ?kET ?kAT ?ovT ?stT ?tkT ?noT ?aCB ?lCB ?bCB ?iCB ?lIB ?cIB ?kIB ?fnB ?exB ?tyB ?kcB ?xaB ?xbB ?xdB ?xcB ?xmB ?kEB ?kAB ?ovB ?stB ?tkB ?noB ?aCC ?lCC ?bCC ?iCC ?lIC ?cIC ?kIC ?fnC ?exC ?tyC ?kcC ?xaC ?xbC ?xdC ?xcC ?xmC ?kEC ?kAC ?ovC ?stC ?tkC ?noC ?aCN ?lCN ?bCN ?iCN ?lIN ?cIN ?kIN ?fnN ?exN ?tyN ?kcN ?xaN ?xbN ?xdN ?xcN ?xmN ?kEN ?kAN ?aCL ?lCL ?bCL ?iCL ?lIL ?cIL ?kIL ?fnL ?exL ?tyL ?kcL ?xaL ?xbL ?xdL ?xcL ?xmL ?kEL ?kAL ?ovL ?stL ?tkL ?noL ?kSS ?kST ?kSB ?kSC ?kSN ?kSL ?kTS ?kTT ?kTB ?kTC ?kTN ?kTL ?kBS ?kBT ?kBB ?kBC ?kBN ?kBL ?kCS ?kCT ?kCB ?kCC ?kCN ?kCL ?kNS ?kNT ?kNB ?kNC ?kNN ?kNL ?kLS ?kLT ?kLB ?kLC ?kLN ?kLL ?sBB ?sNB ?sNN ?hHdS ?hHdP ?nPS ?nPP ?neP ?hTab1 ?hTab2
    (case aI => k_is); (case lI => k_is); (case cI => k_is); (case kI => k_is); (case aF => k_is); (case lF => k_is); (case cF => k_is); (case kF => k_is); (case aSt => k_is); (case lSt => k_is); (case cSt => k_is); (case kSt => k_is); (case aA => k_is); (case lA => k_is); (case cA => k_is); (case kA => k_is); (case aPc => k_is); (case lPc => k_is); (case cPc => k_is); (case kPc => k_is); (case aCk => k_is); (case lCk => k_is); (case cCk => k_is); (case kCk => k_is); (case aCp => k_is); (case lCp => k_is); (case cCp => k_is); (case kCp => k_is); (case aSp => k_is); (case lSp => k_is); (case cSp => k_is); (case kSp => k_is); (case aK => k_is); (case lK => k_is); (case cK => k_is); (case kK => k_is); (case aSd => k_is); (case lSd => k_is); (case cSd => k_is); (case kSd => k_is); (case aBt => k_is); (case lBt => k_is); (case cBt => k_is); (case kBt => k_is); (case aCi => k_is); (case lCi => k_is); (case cCi => k_is); (case kCi => k_is); (case aIc => k_is); (case lIc => k_is); (case cIc => k_is); (case kIc => k_is); (case aLs => k_is); (case lLs => k_is); (case cLs => k_is); (case kLs => k_is); (case aSq => k_is); (case lSq => k_is); (case cSq => k_is); (case kSq => k_is); (case aNe => k_is); (case lNe => k_is); (case cNe => k_is); (case kNe => k_is); (case aSr => k_is); (case lSr => k_is); (case cSr => k_is); (case kSr => k_is); (case aN => k_is); (case lN => k_is); (case cN => k_is); (case kN => k_is); (case aC => k_is); (case lC => k_is); (case cC => k_is); (case kC => k_is); (case aRa => k_is); (case lRa => k_is); (case cRa => k_is); (case kRa => k_is); (case aAl => k_is); (case lAl => k_is); (case cAl => k_is); (case kAl => k_is); (case aSi => k_is); (case lSi => k_is); (case cSi => k_is); (case kSi => k_is); (case aPr => k_is); (case lPr => k_is); (case cPr => k_is); (case kPr => k_is); (case aEr => k_is); (case lEr => k_is); (case cEr => k_is); (case kEr => k_is); (case aL => k_is); (case lL => k_is); (case cL => k_is); (case kL => k_is); (case zint => k_is); (case zbool => k_is); (case zisinstance => k_is); (case ztuple => k_is); (case zlen => k_is); (case zenumerate => k_is); (case zArithmeticError => k_is); (case zrange => k_is); (case hTab2 => exact hT8 _ List.mem_cons_self); (case hTab1 => exact hT8 _ (List.mem_cons_of_mem _ List.mem_cons_self)); (case ggcd => k_is); (case aCE => k_is); (case xsp => k_is); (case xtk => k_is); (case aCS => k_is); (case lCS => k_is); (case bCS => exact fun Y => by rw [List.contains_cons]; rfl); (case iCS => k_is); (case lIS => k_is); (case cIS => k_is); (case kIS => k_is); (case fnS => k_is); (case exS => k_is); (case tyS => k_is); (case kcS => k_is); (case xaS => k_is); (case xbS => k_is); (case xdS => k_is); (case xcS => k_is); (case xmS => k_is); (case kES => kernel_rfl); (case kAS => kernel_rfl); (case ovS => kernel_rfl); (case stS => k_is); (case tkS => kernel_rfl); (case noS => k_is); (case aCT => k_is); (case lCT => k_is); (case bCT => exact fun Y => by rw [List.contains_cons]; rfl); (case iCT => k_is); (case lIT => k_is); (case cIT => k_is); (case kIT => k_is); (case fnT => k_is); (case exT => k_is); (case tyT => k_is); (case kcT => k_is); (case xaT => k_is); (case xbT => k_is); (case xdT => k_is); (case xcT => k_is); (case xmT => k_is); (case kET => kernel_rfl); (case kAT => kernel_rfl); (case ovT => kernel_rfl); (case stT => k_is); (case tkT => kernel_rfl); (case noT => k_is); (case aCB => k_is); (case lCB => k_is); (case bCB => exact fun Y => by rw [List.contains_cons]; rfl); (case iCB => k_is); (case lIB => k_is); (case cIB => k_is); (case kIB => k_is); (case fnB => k_is); (case exB => k_is); (case tyB => k_is); (case kcB => k_is); (case xaB => k_is); (case xbB => k_is); (case xdB => k_is); (case xcB => k_is); (case xmB => k_is); (case kEB => kernel_rfl); (case kAB => kernel_rfl); (case ovB => kernel_rfl); (case stB => k_is); (case tkB => kernel_rfl); (case noB => k_is); (case aCC => k_is); (case lCC => k_is); (case bCC => exact fun Y => by rw [List.contains_cons]; rfl); (case iCC => k_is); (case lIC => k_is); (case cIC => k_is); (case kIC => k_is); (case fnC => k_is); (case exC => k_is); (case tyC => k_is); (case kcC => k_is); (case xaC => k_is); (case xbC => k_is); (case xdC => k_is); (case xcC => k_is); (case xmC => k_is); (case kEC => kernel_rfl); (case kAC => kernel_rfl); (case ovC => kernel_rfl); (case stC => k_is); (case tkC => kernel_rfl); (case noC => k_is); (case aCN => k_is); (case lCN => k_is); (case bCN => exact fun Y => by rw [List.contains_cons]; rfl); (case iCN => k_is); (case lIN => k_is); (case cIN => k_is); (case kIN => k_is); (case fnN => k_is); (case exN => k_is); (case tyN => k_is); (case kcN => k_is); (case xaN => k_is); (case xbN => k_is); (case xdN => k_is); (case xcN => k_is); (case xmN => k_is); (case kEN => kernel_rfl); (case kAN => kernel_rfl); (case aCL => k_is); (case lCL => k_is); (case bCL => exact fun Y => by rw [List.contains_cons]; rfl); (case iCL => k_is); (case lIL => k_is); (case cIL => k_is); (case kIL => k_is); (case fnL => k_is); (case exL => k_is); (case tyL => k_is); (case kcL => k_is); (case xaL => k_is); (case xbL => k_is); (case xdL => k_is); (case xcL => k_is); (case xmL => k_is); (case kEL => kernel_rfl); (case kAL => kernel_rfl); (case ovL => kernel_rfl); (case stL => k_is); (case tkL => kernel_rfl); (case noL => k_is); (case kSS => kernel_rfl); (case kST => kernel_rfl); (case kSB => kernel_rfl); (case kSC => kernel_rfl); (case kSN => kernel_rfl); (case kSL => kernel_rfl); (case kTS => kernel_rfl); (case kTT => kernel_rfl); (case kTB => kernel_rfl); (case kTC => kernel_rfl); (case kTN => kernel_rfl); (case kTL => kernel_rfl); (case kBS => kernel_rfl); (case kBT => kernel_rfl); (case kBB => kernel_rfl); (case kBC => kernel_rfl); (case kBN => kernel_rfl); (case kBL => kernel_rfl); (case kCS => kernel_rfl); (case kCT => kernel_rfl); (case kCB => kernel_rfl); (case kCC => kernel_rfl); (case kCN => kernel_rfl); (case kCL => kernel_rfl); (case kNS => kernel_rfl); (case kNT => kernel_rfl); (case kNB => kernel_rfl); (case kNC => kernel_rfl); (case kNN => kernel_rfl); (case kNL => kernel_rfl); (case kLS => kernel_rfl); (case kLT => kernel_rfl); (case kLB => kernel_rfl); (case kLC => kernel_rfl); (case kLN => kernel_rfl); (case kLL => kernel_rfl); (case sBB => kernel_rfl); (case sNB => kernel_rfl); (case sNN => kernel_rfl); (case hHdS => kernel_rfl); (case hHdP => kernel_rfl); (case nPS => kernel_rfl); (case nPP => kernel_rfl); (case neP => decide)
