import PyProof.Rows.All
import Wide.All
import OpenK.AllK
import Wide.FinOn
import HandS.ForMost
import HandS.TupLe
import HandS.IsInst
import HandS.Wide
import HandS.Walk
import HandS.Gcd
import HandS.Codes
import HandS.Style
import KE.KMathG
import HandS.NoneIn
import HandS.CallLocal
import HandS.IterVal
import HandS.TupSets
import HandS.Iter
import PyProof.MinMaxWalk
import HandS.SetKeys
import PyProof.DictMoreH
import HandS.SortRule
import HandS.Comp
import PyProof.Rows.TupDisplay
import KE.KNestM
import KE.KLam
import PySem.Challenge.RW_nearcells_k71_whole_far_shapes
set_option Elab.async false
set_option linter.all false
set_option maxRecDepth 100000
set_option maxHeartbeats 4000000
/-! Own rules: min and max of two things that are compared by the heap (pairs); a call by keywords alone. -/
namespace Nc
open PySem PySem.Spec PyProof.Rows L2
section
variable {prog : Program} {w : World} {A : Around} {E : Value → Shared → Prop} {s : Shared} {va vb : Value} {k : Bool}
/-- all that stood before stands -/
abbrev KeepH (h h' : Heap) : Prop := ∀ c o, h.get? c = some o → h'.get? c = some o


/-- the loop of min behind its first item: best so far vx (twice at S), one more item vy to come, or none -/
theorem min_round {R : Result → Shared → Prop} {I S T : Addr} {vx vy : Value} {its : Array Value} {b : Bool} {c i : Nat} {s : Shared} (hh : A.handled = none) (hIT : T ≠ I) (hIS : S ≠ I) (hST : S ≠ T)
    (hit : s.heap.IsTupleIter I T i ∧ s.heap.IsTuple T its) (hy : its[i]? = some vy) (hend : its.size = i + 1) (hS : s.heap.get? S = some { cls := .type "list", dict := none, data := .seq #[vx, vx] c, slots := #[] })
    (hc : ∀ h' tk, (∀ b o, b ≠ I → s.heap.get? b = some o → h'.get? b = some o) → Ob.RcOp .Lt A.in1 { s with heap := h', toks := tk } vy vx b)
    (hR : ∀ h' tk, (∀ b o, b ≠ I → b ≠ S → s.heap.get? b = some o → h'.get? b = some o) → R (.ok (.ret (if b = true then vy else vx))) { s with heap := h', toks := tk }) :
    codeAny (model prog w) A (.builtin "min.loop" ⟨[.ref I, .none, .ref S], []⟩) R s := by
  have nm : (toString "min" ++ toString ".loop" : String) = "min.loop" := by decide
  have W := Walks.tuple (prog := prog) (w := w) (A := A.in1) hh I T hIT its
  -- no item is left: vz is handed back
  have last : ∀ (vz : Value) (c' : Nat) (s1 : Shared), s1.heap.IsTupleIter I T (i + 1) ∧ s1.heap.IsTuple T its → s1.heap.get? S = some { cls := .type "list", dict := none, data := .seq #[vz, vz] c', slots := #[] } →
      (∀ h' tk, (∀ b o, b ≠ I → b ≠ S → s1.heap.get? b = some o → h'.get? b = some o) → R (.ok (.ret vz)) { s1 with heap := h', toks := tk }) → codeAny (model prog w) A (.builtin "min.loop" ⟨[.ref I, .none, .ref S], []⟩) R s1 := by
    intro vz c' s1 st1 g1 r1
    obtain ⟨hp, gg, dd, tt, os⟩ := s1
    refine codeAny_builtin PySem.F.entry_min_loop ?_
    rw [Around.under_plainId PySem.F.plain_min_loop _]
    refine wpAny_bind (wpAny_seqItems g1 rfl (wpAny_bind (wpAny_tryCatch (W.done _ _ _ (hend ▸ st1) fun hq tk hk => ?_))))
    have g2 := hk S _ (fun z => hIS (List.mem_singleton.mp z)) g1
    refine wpAny_bind (wpAny_updateSeq g2 rfl (wpAny_bind (wpAny_letGo (wpAny_pure ?_))))
    exact r1 _ tk fun d o n1 n2 e => (Heap.get?_update_other _ _ (Ne.symm n2)).trans (hk d o (fun z => n1 (List.mem_singleton.mp z)) e)
  obtain ⟨hp, gg, dd, tt, os⟩ := s
  refine codeAny_builtin PySem.F.entry_min_loop ?_
  rw [Around.under_plainId PySem.F.plain_min_loop _]
  refine wpAny_bind (wpAny_seqItems hS rfl (wpAny_bind (wpAny_tryCatch (W.item i _ _ _ (by omega) hit fun v hq tk hP st hk => ?_))))
  have ev : v = vy := Option.some.inj ((show its[i]? = some v from hP).symm.trans hy)
  subst ev
  have kk : ∀ d o, d ≠ I → hp.get? d = some o → hq.get? d = some o := fun d o n e => hk d o (fun z => n (List.mem_singleton.mp z)) e
  have g2 := kk S _ hIS hS
  refine wpAny_bind (wpAny_pure ?_)
  show wpAny _ _ (tryCatch (holding [v, v] (richCompare _ v vx >>= _)) _ >>= _) _ _ _
  refine wpAny_bind (wpAny_tryCatch (wpAny_holding (wpAny_bind ((hc hq tk kk) prog w _ _ ?_))))
  refine wpAny_bind (wpAny_holding (wpAny_truthy_bool (wpAny_bind (wpAny_letGo (wpAny_pure ?_)))))
  cases b with
  | true =>
    simp only [if_true]
    refine wpAny_bind (wpAny_updateSeq g2 rfl (wpAny_bind (wpAny_letGo ?_)))
    rw [nm]
    have fr : ∀ d o, d ≠ S → hq.get? d = some o → (hq.update S fun o => { o with data := .seq #[v, v] (c + 1) }).get? d = some o := fun d o n e => (Heap.get?_update_other _ _ (Ne.symm n)).trans e
    refine wpAny_pure ⟨plainId_quiet PySem.F.plain_min_loop _, last v _ _ (W.frame _ _ _ st fun d hd o e => ?_) (Heap.get?_update_self _ g2 rfl) fun h' tk' hk' => ?_⟩
    · refine (Heap.get?_update_other _ _ ?_).trans e
      intro z
      rcases List.mem_cons.mp hd with q | q
      · exact hIS (z.trans q)
      · exact hST (z.trans (List.mem_singleton.mp q))
    · exact hR h' tk' fun d o n1 n2 e => hk' d o n1 n2 ((Heap.get?_update_other _ _ (Ne.symm n2)).trans (kk d o n1 e))
  | false =>
    simp only [Bool.false_eq_true, if_false]
    refine wpAny_bind (wpAny_letGo ?_)
    rw [nm]
    refine wpAny_pure ⟨plainId_quiet PySem.F.plain_min_loop _, last vx _ _ st g2 fun h' tk' hk' => ?_⟩
    exact hR h' tk' fun d o n1 n2 e => hk' d o n1 n2 (kk d o n1 e)

theorem min2_by {Q : Value → Shared → Prop} (hh : A.handled = none)
    (hc : ∀ h' tk, KeepH s.heap h' → Ob.RcOp .Lt A.in1 { s with heap := h', toks := tk } vb va k)
    (hq : ∀ h' tk, KeepH s.heap h' → Q (if k = true then vb else va) { s with heap := h', toks := tk }) :
    wpAny (model prog w) A (call (.builtin "min") [va, vb]) Q E s := by
  have nm : (toString "min" ++ toString ".loop" : String) = "min.loop" := by decide
  obtain ⟨hp, gg, dd, tt, os⟩ := s
  refine call_function_tree PySem.F.kind_min PySem.F.plain_min PySem.F.entry_min (PySem.F.args_min2 _ _) ?_
  refine wpAny_bind (wpAny_of_eq (show Builtin.Builtins.bindParams "min" ["key", "default"] 0 ⟨[], []⟩ = pure [none, none] from rfl) ?_)
  show wpAny _ A.in1 (newTuple [va, vb] >>= _) _ _ _
  have hT : (hp.push { cls := .type "tuple", data := .seq #[va, vb] }).IsTuple hp.objs.size #[va, vb] := ⟨_, Heap.get?_push_size _ rfl, rfl, 0, rfl⟩
  have z1 : (hp.push { cls := .type "tuple", data := .seq #[va, vb] }).objs.size = hp.objs.size + 1 := Heap.size_push ..
  have k1 : KeepH hp (hp.push { cls := .type "tuple", data := .seq #[va, vb] }) := fun c o e => Heap.get?_push_of_some _ e
  refine wpAny_bind (wpAny_newObj_type (wpAny_bind (wpAny_pyIter_tuple hT (wpAny_bind (wpAny_newObj_type ?_)))))
  generalize hp.push { cls := .type "tuple", data := .seq #[va, vb] } = h1 at *
  generalize eT : hp.objs.size = T at *
  generalize eI : h1.objs.size = I at *
  have gI : (h1.push { cls := .type "tuple_iterator", data := .fields #[.ref T, .int 0 0] }).get? I = some { cls := .type "tuple_iterator", data := .fields #[.ref T, .int 0 0] } := by
    rw [← eI]
    exact Heap.get?_push_size _ rfl
  have k2 : KeepH h1 (h1.push { cls := .type "tuple_iterator", data := .fields #[.ref T, .int 0 0] }) := fun c o e => Heap.get?_push_of_some _ e
  have z2 : (h1.push { cls := .type "tuple_iterator", data := .fields #[.ref T, .int 0 0] }).objs.size = I + 1 := by
    rw [← eI]
    exact Heap.size_push ..
  have hIT : T ≠ I := by omega
  obtain ⟨oT, gT, cT, nT, dT⟩ := hT
  generalize h1.push { cls := .type "tuple_iterator", data := .fields #[.ref T, .int 0 0] } = h2 at *
  have gS : (h2.push { cls := .type "list", data := .seq #[] }).get? h2.objs.size = some { cls := .type "list", data := .seq #[] } := Heap.get?_push_size _ rfl
  have k3 : KeepH h2 (h2.push { cls := .type "list", data := .seq #[] }) := fun c o e => Heap.get?_push_of_some _ e
  show wpAny _ _ (pure (Fin.again (Code.builtin (toString "min" ++ toString ".loop") ⟨[.ref I, .none, .ref h2.objs.size], []⟩))) _ _ ⟨h2.push { cls := .type "list", data := .seq #[] }, gg, dd, tt, os⟩
  rw [nm]
  generalize eS : h2.objs.size = S at *
  generalize h2.push { cls := .type "list", data := .seq #[] } = h3 at *
  have hIS : S ≠ I := by
    omega
  have hST : S ≠ T := by omega
  have W := Walks.tuple (prog := prog) (w := w) (A := A.in1) hh I T hIT #[va, vb]
  refine wpAny_pure ⟨plainId_quiet PySem.F.plain_min_loop _, ?_⟩
  refine codeAny_builtin PySem.F.entry_min_loop ?_
  rw [Around.under_plainId PySem.F.plain_min_loop _]
  have st0 : h3.IsTupleIter I T 0 ∧ h3.IsTuple T #[va, vb] := ⟨⟨_, k3 _ _ gI, rfl, rfl⟩, ⟨oT, k3 _ _ (k2 _ _ gT), cT, nT, dT⟩⟩
  refine wpAny_bind (wpAny_seqItems gS rfl (wpAny_bind (wpAny_tryCatch (W.item 0 ⟨h3, gg, dd, tt, os⟩ _ _ (by show 0 < 2; decide) st0 fun v hq' tk hP st hk => ?_))))
  have ev : v = va := (Option.some.inj (show some va = some v from hP)).symm
  subst ev
  refine wpAny_bind (wpAny_pure ?_)
  have kk : ∀ d o, d ≠ I → h3.get? d = some o → hq'.get? d = some o := fun d o n e => hk d o (fun z => n (List.mem_singleton.mp z)) e
  have g2 := kk S _ hIS gS
  show wpAny _ _ (updateSeq S (fun _ => #[v, v]) >>= _) _ _ _
  refine wpAny_bind (wpAny_updateSeq g2 rfl ?_)
  rw [nm]
  have all : ∀ d o, hp.get? d = some o → d ≠ I ∧ d ≠ S ∧ hq'.get? d = some o := fun d o e => by
    have l : d < T := eT ▸ Heap.lt_size e
    have lI : T < I := by omega
    have lS : T < S := by omega
    have n1 : d ≠ I := Nat.ne_of_lt (Nat.lt_trans l lI)
    exact ⟨n1, Nat.ne_of_lt (Nat.lt_trans l lS), kk d o n1 (k3 _ _ (k2 _ _ (k1 _ _ e)))⟩
  refine wpAny_pure ⟨plainId_quiet PySem.F.plain_min_loop _, min_round (i := 1) (its := #[v, vb]) (vy := vb) (vx := v) (T := T) (b := k) hh hIT hIS hST ?_ rfl rfl (Heap.get?_update_self _ g2 rfl) (fun h' tk' kp => ?_) fun h' tk' kp => ?_⟩
  · refine W.frame _ _ _ st fun d hd o e => (Heap.get?_update_other _ _ ?_).trans e
    intro z
    rcases List.mem_cons.mp hd with q | q
    · exact hIS (z.trans q)
    · exact hST (z.trans (List.mem_singleton.mp q))
  · refine hc h' tk' fun d o e => ?_
    obtain ⟨n1, n2, e2⟩ := all d o e
    exact kp d o n1 ((Heap.get?_update_other _ _ (Ne.symm n2)).trans e2)
  · refine hq h' tk' fun d o e => ?_
    obtain ⟨n1, n2, e2⟩ := all d o e
    exact kp d o n1 n2 ((Heap.get?_update_other _ _ (Ne.symm n2)).trans e2)


/-- the loop of max behind its first item: best so far vx (twice at S), one more item vy to come, or none -/
theorem max_round {R : Result → Shared → Prop} {I S T : Addr} {vx vy : Value} {its : Array Value} {b : Bool} {c i : Nat} {s : Shared} (hh : A.handled = none) (hIT : T ≠ I) (hIS : S ≠ I) (hST : S ≠ T)
    (hit : s.heap.IsTupleIter I T i ∧ s.heap.IsTuple T its) (hy : its[i]? = some vy) (hend : its.size = i + 1) (hS : s.heap.get? S = some { cls := .type "list", dict := none, data := .seq #[vx, vx] c, slots := #[] })
    (hc : ∀ h' tk, (∀ b o, b ≠ I → s.heap.get? b = some o → h'.get? b = some o) → Ob.RcOp .Gt A.in1 { s with heap := h', toks := tk } vy vx b)
    (hR : ∀ h' tk, (∀ b o, b ≠ I → b ≠ S → s.heap.get? b = some o → h'.get? b = some o) → R (.ok (.ret (if b = true then vy else vx))) { s with heap := h', toks := tk }) :
    codeAny (model prog w) A (.builtin "max.loop" ⟨[.ref I, .none, .ref S], []⟩) R s := by
  have nm : (toString "max" ++ toString ".loop" : String) = "max.loop" := by decide
  have W := Walks.tuple (prog := prog) (w := w) (A := A.in1) hh I T hIT its
  -- no item is left: vz is handed back
  have last : ∀ (vz : Value) (c' : Nat) (s1 : Shared), s1.heap.IsTupleIter I T (i + 1) ∧ s1.heap.IsTuple T its → s1.heap.get? S = some { cls := .type "list", dict := none, data := .seq #[vz, vz] c', slots := #[] } →
      (∀ h' tk, (∀ b o, b ≠ I → b ≠ S → s1.heap.get? b = some o → h'.get? b = some o) → R (.ok (.ret vz)) { s1 with heap := h', toks := tk }) → codeAny (model prog w) A (.builtin "max.loop" ⟨[.ref I, .none, .ref S], []⟩) R s1 := by
    intro vz c' s1 st1 g1 r1
    obtain ⟨hp, gg, dd, tt, os⟩ := s1
    refine codeAny_builtin PySem.F.entry_max_loop ?_
    rw [Around.under_plainId PySem.F.plain_max_loop _]
    refine wpAny_bind (wpAny_seqItems g1 rfl (wpAny_bind (wpAny_tryCatch (W.done _ _ _ (hend ▸ st1) fun hq tk hk => ?_))))
    have g2 := hk S _ (fun z => hIS (List.mem_singleton.mp z)) g1
    refine wpAny_bind (wpAny_updateSeq g2 rfl (wpAny_bind (wpAny_letGo (wpAny_pure ?_))))
    exact r1 _ tk fun d o n1 n2 e => (Heap.get?_update_other _ _ (Ne.symm n2)).trans (hk d o (fun z => n1 (List.mem_singleton.mp z)) e)
  obtain ⟨hp, gg, dd, tt, os⟩ := s
  refine codeAny_builtin PySem.F.entry_max_loop ?_
  rw [Around.under_plainId PySem.F.plain_max_loop _]
  refine wpAny_bind (wpAny_seqItems hS rfl (wpAny_bind (wpAny_tryCatch (W.item i _ _ _ (by omega) hit fun v hq tk hP st hk => ?_))))
  have ev : v = vy := Option.some.inj ((show its[i]? = some v from hP).symm.trans hy)
  subst ev
  have kk : ∀ d o, d ≠ I → hp.get? d = some o → hq.get? d = some o := fun d o n e => hk d o (fun z => n (List.mem_singleton.mp z)) e
  have g2 := kk S _ hIS hS
  refine wpAny_bind (wpAny_pure ?_)
  show wpAny _ _ (tryCatch (holding [v, v] (richCompare _ v vx >>= _)) _ >>= _) _ _ _
  refine wpAny_bind (wpAny_tryCatch (wpAny_holding (wpAny_bind ((hc hq tk kk) prog w _ _ ?_))))
  refine wpAny_bind (wpAny_holding (wpAny_truthy_bool (wpAny_bind (wpAny_letGo (wpAny_pure ?_)))))
  cases b with
  | true =>
    simp only [if_true]
    refine wpAny_bind (wpAny_updateSeq g2 rfl (wpAny_bind (wpAny_letGo ?_)))
    rw [nm]
    have fr : ∀ d o, d ≠ S → hq.get? d = some o → (hq.update S fun o => { o with data := .seq #[v, v] (c + 1) }).get? d = some o := fun d o n e => (Heap.get?_update_other _ _ (Ne.symm n)).trans e
    refine wpAny_pure ⟨plainId_quiet PySem.F.plain_max_loop _, last v _ _ (W.frame _ _ _ st fun d hd o e => ?_) (Heap.get?_update_self _ g2 rfl) fun h' tk' hk' => ?_⟩
    · refine (Heap.get?_update_other _ _ ?_).trans e
      intro z
      rcases List.mem_cons.mp hd with q | q
      · exact hIS (z.trans q)
      · exact hST (z.trans (List.mem_singleton.mp q))
    · exact hR h' tk' fun d o n1 n2 e => hk' d o n1 n2 ((Heap.get?_update_other _ _ (Ne.symm n2)).trans (kk d o n1 e))
  | false =>
    simp only [Bool.false_eq_true, if_false]
    refine wpAny_bind (wpAny_letGo ?_)
    rw [nm]
    refine wpAny_pure ⟨plainId_quiet PySem.F.plain_max_loop _, last vx _ _ st g2 fun h' tk' hk' => ?_⟩
    exact hR h' tk' fun d o n1 n2 e => hk' d o n1 n2 (kk d o n1 e)

theorem max2_by {Q : Value → Shared → Prop} (hh : A.handled = none)
    (hc : ∀ h' tk, KeepH s.heap h' → Ob.RcOp .Gt A.in1 { s with heap := h', toks := tk } vb va k)
    (hq : ∀ h' tk, KeepH s.heap h' → Q (if k = true then vb else va) { s with heap := h', toks := tk }) :
    wpAny (model prog w) A (call (.builtin "max") [va, vb]) Q E s := by
  have nm : (toString "max" ++ toString ".loop" : String) = "max.loop" := by decide
  obtain ⟨hp, gg, dd, tt, os⟩ := s
  refine call_function_tree PySem.F.kind_max PySem.F.plain_max PySem.F.entry_max (PySem.F.args_max2 _ _) ?_
  refine wpAny_bind (wpAny_of_eq (show Builtin.Builtins.bindParams "max" ["key", "default"] 0 ⟨[], []⟩ = pure [none, none] from rfl) ?_)
  show wpAny _ A.in1 (newTuple [va, vb] >>= _) _ _ _
  have hT : (hp.push { cls := .type "tuple", data := .seq #[va, vb] }).IsTuple hp.objs.size #[va, vb] := ⟨_, Heap.get?_push_size _ rfl, rfl, 0, rfl⟩
  have z1 : (hp.push { cls := .type "tuple", data := .seq #[va, vb] }).objs.size = hp.objs.size + 1 := Heap.size_push ..
  have k1 : KeepH hp (hp.push { cls := .type "tuple", data := .seq #[va, vb] }) := fun c o e => Heap.get?_push_of_some _ e
  refine wpAny_bind (wpAny_newObj_type (wpAny_bind (wpAny_pyIter_tuple hT (wpAny_bind (wpAny_newObj_type ?_)))))
  generalize hp.push { cls := .type "tuple", data := .seq #[va, vb] } = h1 at *
  generalize eT : hp.objs.size = T at *
  generalize eI : h1.objs.size = I at *
  have gI : (h1.push { cls := .type "tuple_iterator", data := .fields #[.ref T, .int 0 0] }).get? I = some { cls := .type "tuple_iterator", data := .fields #[.ref T, .int 0 0] } := by
    rw [← eI]
    exact Heap.get?_push_size _ rfl
  have k2 : KeepH h1 (h1.push { cls := .type "tuple_iterator", data := .fields #[.ref T, .int 0 0] }) := fun c o e => Heap.get?_push_of_some _ e
  have z2 : (h1.push { cls := .type "tuple_iterator", data := .fields #[.ref T, .int 0 0] }).objs.size = I + 1 := by
    rw [← eI]
    exact Heap.size_push ..
  have hIT : T ≠ I := by omega
  obtain ⟨oT, gT, cT, nT, dT⟩ := hT
  generalize h1.push { cls := .type "tuple_iterator", data := .fields #[.ref T, .int 0 0] } = h2 at *
  have gS : (h2.push { cls := .type "list", data := .seq #[] }).get? h2.objs.size = some { cls := .type "list", data := .seq #[] } := Heap.get?_push_size _ rfl
  have k3 : KeepH h2 (h2.push { cls := .type "list", data := .seq #[] }) := fun c o e => Heap.get?_push_of_some _ e
  show wpAny _ _ (pure (Fin.again (Code.builtin (toString "max" ++ toString ".loop") ⟨[.ref I, .none, .ref h2.objs.size], []⟩))) _ _ ⟨h2.push { cls := .type "list", data := .seq #[] }, gg, dd, tt, os⟩
  rw [nm]
  generalize eS : h2.objs.size = S at *
  generalize h2.push { cls := .type "list", data := .seq #[] } = h3 at *
  have hIS : S ≠ I := by
    omega
  have hST : S ≠ T := by omega
  have W := Walks.tuple (prog := prog) (w := w) (A := A.in1) hh I T hIT #[va, vb]
  refine wpAny_pure ⟨plainId_quiet PySem.F.plain_max_loop _, ?_⟩
  refine codeAny_builtin PySem.F.entry_max_loop ?_
  rw [Around.under_plainId PySem.F.plain_max_loop _]
  have st0 : h3.IsTupleIter I T 0 ∧ h3.IsTuple T #[va, vb] := ⟨⟨_, k3 _ _ gI, rfl, rfl⟩, ⟨oT, k3 _ _ (k2 _ _ gT), cT, nT, dT⟩⟩
  refine wpAny_bind (wpAny_seqItems gS rfl (wpAny_bind (wpAny_tryCatch (W.item 0 ⟨h3, gg, dd, tt, os⟩ _ _ (by show 0 < 2; decide) st0 fun v hq' tk hP st hk => ?_))))
  have ev : v = va := (Option.some.inj (show some va = some v from hP)).symm
  subst ev
  refine wpAny_bind (wpAny_pure ?_)
  have kk : ∀ d o, d ≠ I → h3.get? d = some o → hq'.get? d = some o := fun d o n e => hk d o (fun z => n (List.mem_singleton.mp z)) e
  have g2 := kk S _ hIS gS
  show wpAny _ _ (updateSeq S (fun _ => #[v, v]) >>= _) _ _ _
  refine wpAny_bind (wpAny_updateSeq g2 rfl ?_)
  rw [nm]
  have all : ∀ d o, hp.get? d = some o → d ≠ I ∧ d ≠ S ∧ hq'.get? d = some o := fun d o e => by
    have l : d < T := eT ▸ Heap.lt_size e
    have lI : T < I := by omega
    have lS : T < S := by omega
    have n1 : d ≠ I := Nat.ne_of_lt (Nat.lt_trans l lI)
    exact ⟨n1, Nat.ne_of_lt (Nat.lt_trans l lS), kk d o n1 (k3 _ _ (k2 _ _ (k1 _ _ e)))⟩
  refine wpAny_pure ⟨plainId_quiet PySem.F.plain_max_loop _, max_round (i := 1) (its := #[v, vb]) (vy := vb) (vx := v) (T := T) (b := k) hh hIT hIS hST ?_ rfl rfl (Heap.get?_update_self _ g2 rfl) (fun h' tk' kp => ?_) fun h' tk' kp => ?_⟩
  · refine W.frame _ _ _ st fun d hd o e => (Heap.get?_update_other _ _ ?_).trans e
    intro z
    rcases List.mem_cons.mp hd with q | q
    · exact hIS (z.trans q)
    · exact hST (z.trans (List.mem_singleton.mp q))
  · refine hc h' tk' fun d o e => ?_
    obtain ⟨n1, n2, e2⟩ := all d o e
    exact kp d o n1 ((Heap.get?_update_other _ _ (Ne.symm n2)).trans e2)
  · refine hq h' tk' fun d o e => ?_
    obtain ⟨n1, n2, e2⟩ := all d o e
    exact kp d o n1 n2 ((Heap.get?_update_other _ _ (Ne.symm n2)).trans e2)

end
/-! ### min(t, u), max(t, u) of two tuples of ints -/
/-- t < u by the model's own look from place to place -/
def lexP (lt : Int → Int → Bool) (e : Bool) (ns ms : List Int) : Bool := Ob.lexAt (fun j => decide (ns.getD j 0 = ms.getD j 0)) (fun j => lt (ns.getD j 0) (ms.getD j 0)) e 0 (min ns.length ms.length)
section
variable {X : Cx}
theorem tup_ops {s : Shared} {pins : List (Addr × Obj)} {σ : L2.St} {H : Hp} {a b : Addr} {ns ms : List Int} (I : L2.Inv X pins σ H s) (ha : H a = some (.tup (ns.map V.int))) (hb : H b = some (.tup (ms.map V.int))) (hu : X.A.units + 1 < cLine) (h' : Heap) (tk : Nat) (kp : KeepH s.heap h') :
    Ob.RcOp .Lt X.A.in1 { s with heap := h', toks := tk } (.ref a) (.ref b) (lexP (fun x y => decide (x < y)) (decide (ns.length < ms.length)) ns ms) ∧
    Ob.RcOp .Gt X.A.in1 { s with heap := h', toks := tk } (.ref a) (.ref b) (lexP (fun x y => decide (x > y)) (decide (ns.length > ms.length)) ns ms) := by
  obtain ⟨its, r1, p1, _⟩ := I.tuple (SqT.of ha)
  obtain ⟨its2, r2, p2, _⟩ := I.tuple (SqT.of hb)
  have i1 : IntsAre its ns := Vals.ints r1
  have i2 : IntsAre its2 ms := Vals.ints r2
  have e1 : its.toArray.size = ns.length := by rw [List.size_toArray]; exact i1.length
  have e2 : its2.toArray.size = ms.length := by rw [List.size_toArray]; exact i2.length
  obtain ⟨o1, g1, c1, n1, d1⟩ := p1
  obtain ⟨o2, g2, c2, n2, d2⟩ := p2
  have q1 : Heap.IsTuple h' a its.toArray := ⟨o1, kp _ _ g1, c1, n1, d1⟩
  have q2 : Heap.IsTuple h' b its2.toArray := ⟨o2, kp _ _ g2, c2, n2, d2⟩
  have at1 : ∀ j (h1 : j < its.toArray.size), ∃ t, its.toArray[j] = .int (ns.getD j 0) t := fun j h1 => PyProof.Rows.IntsAre.int_at i1 _ _ (by simp at h1; simp [h1])
  have at2 : ∀ j (h1 : j < its2.toArray.size), ∃ t, its2.toArray[j] = .int (ms.getD j 0) t := fun j h1 => PyProof.Rows.IntsAre.int_at i2 _ _ (by simp at h1; simp [h1])
  have eqs : ∀ (B : Around) (s2 : Shared) j (h1 : j < its.toArray.size) (h2 : j < its2.toArray.size), SeqAt.EqAt B s2 its.toArray[j] its2.toArray[j] (decide (ns.getD j 0 = ms.getD j 0)) := fun B s2 j h1 h2 => by
    obtain ⟨t, et⟩ := at1 j h1
    obtain ⟨t', et'⟩ := at2 j h2
    rw [et, et', ← Bool.beq_eq_decide_eq]
    exact SeqAt.EqAt.int_int _ _ _ _
  constructor
  · have R := Ob.RcOp.tuples_lt (A := X.A.in1) (s := { s with heap := h', toks := tk }) (e := fun j => decide (ns.getD j 0 = ms.getD j 0)) (r := fun j => decide (ns.getD j 0 < ms.getD j 0)) q1 q2 hu (eqs _ _) (fun j h1 h2 _ => by
      obtain ⟨t, et⟩ := at1 j h1
      obtain ⟨t', et'⟩ := at2 j h2
      rw [et, et']
      exact Ob.RcOp.lt_int _ _ _ _)
    rw [e1, e2] at R
    exact R
  · have R := Ob.RcOp.tuples_gt (A := X.A.in1) (s := { s with heap := h', toks := tk }) (e := fun j => decide (ns.getD j 0 = ms.getD j 0)) (r := fun j => decide (ns.getD j 0 > ms.getD j 0)) q1 q2 hu (eqs _ _) (fun j h1 h2 _ => by
      obtain ⟨t, et⟩ := at1 j h1
      obtain ⟨t', et'⟩ := at2 j h2
      rw [et, et']
      exact Ob.RcOp.gt_int _ _ _ _)
    rw [e1, e2] at R
    exact R
/-- min(t, u), max(t, u), both tracked tuples of ints: one of the two themselves -/
def rBest (lt : List Int → List Int → Bool) : List V → Hp → VK → Prop := fun xs H Q => ∃ (a b : Addr) (ns ms : List Int), xs = [.ref a, .ref b] ∧ H a = some (.tup (ns.map V.int)) ∧ H b = some (.tup (ms.map V.int)) ∧ Q (.ref (if lt ms ns = true then b else a)) H
theorem call_minT (hc : X.calm = true) (hu : X.A.units + 1 < cLine) : CallR X (.builtin "min") (rBest fun ns ms => lexP (fun x y => decide (x < y)) (decide (ns.length < ms.length)) ns ms) := by
  intro pins s σ H xs us Q I r h
  obtain ⟨a, b, ns, ms, rfl, ha, hb, q⟩ := h
  obtain ⟨u, w', rfl, r1, r2⟩ := vals2 r
  cases r1
  cases r2
  refine min2_by (I.ok.hd hc) (fun h' tk kp => (tup_ops I hb ha hu h' tk kp).1) fun h' tk kp => ⟨_, H, I.kept kp, ?_, q⟩
  split <;> rfl
theorem call_maxT (hc : X.calm = true) (hu : X.A.units + 1 < cLine) : CallR X (.builtin "max") (rBest fun ns ms => lexP (fun x y => decide (x > y)) (decide (ns.length > ms.length)) ns ms) := by
  intro pins s σ H xs us Q I r h
  obtain ⟨a, b, ns, ms, rfl, ha, hb, q⟩ := h
  obtain ⟨u, w', rfl, r1, r2⟩ := vals2 r
  cases r1
  cases r2
  refine max2_by (I.ok.hd hc) (fun h' tk kp => (tup_ops I hb ha hu h' tk kp).2) fun h' tk kp => ⟨_, H, I.kept kp, ?_, q⟩
  split <;> rfl
end
/-! ### f(k = v, ..), keywords alone -/
section
variable {X : Cx} {CX : CXT} {k : Nat} {f : Addr} {fd : FuncData} {ps ks : List Str} {sp : Sp} {x : Str} {p pos : Pos} {E : XK} {tk : TA} {kws : List Keyword} {g : List Value → List Value → List Value} {gV : List V → List V → List V}
theorem pe_callKw (F : FnOk X.prog X.w X.K X.mg X.base CX k f fd ps sp) (hr : Room k X.A) (hg : Gl X x) (hm : X.mg x = some (.ref f)) (hk : PySem.W.keepIn X.K (.ref f) = true) (hb : KBinds X.K fd ps ks g gV) (hx : Passes CX X E)
    (hkw : PK X kws tk) (hall : (backToKw pos (keywordEach kws X.env)).all (·.1.isSome) = true := by rfl) (hks : (backToKw pos (keywordEach kws X.env)).filterMap (·.1) = ks := by rfl)
    (hdb : (x == ("__debug__" : Str)) = false := by decide) (hpl : ((backTo pos (starEach [] X.env)).any (·.1) || (backToKw pos (keywordEach kws X.env)).any (·.1.isNone)) = false := by rfl) :
    PE X (.Call (.Name x p) [] kws pos) (fun σ H Q => tk σ H fun zs H2 => sp (gV [] zs) H2 Q E) := by
  refine ⟨fun pins s σ H Q I h => ?_⟩
  refine wpAny_Call_Name_kw (ld_glob I hg hm ?_ hdb)
  refine PySem.W.callWith_KW0 (h₀ := X.base) I.ok.mod.kin hk hall (thn (hkw.run pos pins s σ H _ I h) fun ws s2 ⟨zs, H2, I2, rz, q2⟩ => ⟨I2.kIn, ?_⟩) hpl
  rw [hks]
  exact run_fnk (us := []) (vs := []) F hr hb hx I2 .nil rz q2
end
/-! ### what a source is, and what a step leaves -/
/-- a source at s: three ints -/
def Src (H : Hp) (s : Addr) : Prop := ∃ a b c : Int, H s = some (.lst [.int a, .int b, .int c])
theorem Src.ne {H : Hp} {s p : Addr} {o : HO} (h : Src H s) (e : H p = some o) (d : ∀ a b c : Int, o ≠ .lst [.int a, .int b, .int c]) : p ≠ s := by
  obtain ⟨a, b, c, q⟩ := h
  exact ne_of e q (d a b c)
theorem Src.nen {H : Hp} {s p : Addr} (h : Src H s) (e : H p = none) : p ≠ s := by
  obtain ⟨a, b, c, q⟩ := h
  exact (ne_of_none q e).symm
/-- from H to H' all stands but the source at s, which is still one -/
structure Stp (s : Addr) (H H' : Hp) : Prop where
  keep : ∀ b o, b ≠ s → H b = some o → H' b = some o
  src : Src H' s
theorem Stp.refl {s : Addr} {H : Hp} (h : Src H s) : Stp s H H := ⟨fun _ _ _ e => e, h⟩
theorem Stp.trans {s : Addr} {H H1 H2 : Hp} (a : Stp s H H1) (b : Stp s H1 H2) : Stp s H H2 := ⟨fun c o n e => b.keep c o n (a.keep c o n e), b.src⟩
theorem Stp.new {s : Addr} {H H' : Hp} {p : Addr} {o : HO} (a : Stp s H H') (n : H' p = none) : Stp s H (upd H' p o) := by
  obtain ⟨x, y, z, e⟩ := a.src
  refine ⟨fun b u nb eb => ?_, x, y, z, ?_⟩
  · have q := a.keep b u nb eb
    rw [upd_ne (ne_of_none q n)]
    exact q
  · rw [upd_ne (ne_of_none e n)]
    exact e
theorem Stp.turn {s : Addr} {H H' : Hp} (a : Stp s H H') (x y z : Int) : Stp s H (upd H' s (.lst [.int x, .int y, .int z])) :=
  ⟨fun b u nb eb => by rw [upd_ne nb]; exact a.keep b u nb eb, x, y, z, upd_same⟩
theorem Stp.free {s p : Addr} {H H' : Hp} (a : Stp s H H') (n : H' p = none) : H p = none := by
  cases q : H p with
  | none => rfl
  | some o =>
    have np : p ≠ s := a.src.nen n
    rw [a.keep _ _ np q] at n
    cases n
theorem Stp.set {s : Addr} {H H' : Hp} {p : Addr} {o : HO} (a : Stp s H H') (n : H p = none) (np : p ≠ s) : Stp s H (upd H' p o) := by
  obtain ⟨x, y, z, e⟩ := a.src
  refine ⟨fun b u nb eb => ?_, x, y, z, ?_⟩
  · rw [upd_ne (ne_of_none eb n)]
    exact a.keep b u nb eb
  · rw [upd_ne np.symm]
    exact e
/-- a site at t -/
def Sit (H : Hp) (t : Addr) (x y : Int) : Prop := H t = some (.tup [.int x, .int y])
theorem Sit.ne {H : Hp} {s t : Addr} {x y : Int} (h : Sit H t x y) (q : Src H s) : t ≠ s := q.ne h fun _ _ _ z => by cases z
theorem Sit.stp {H H' : Hp} {s t : Addr} {x y : Int} (h : Sit H t x y) (q : Src H s) (a : Stp s H H') : Sit H' t x y := a.keep _ _ (h.ne q) h
theorem Sit.same {H H' : Hp} {t : Addr} {x y : Int} (h : Sit H t x y) (a : Same H H') : Sit H' t x y := a _ _ h

theorem b2i_small (b : Bool) : -(2 ^ 64) < (if b = true then (1 : Int) else 0) ∧ (if b = true then (1 : Int) else 0) < 2 ^ 64 := by cases b <;> decide
theorem sm {m : Int} (h : m.natAbs < 2 ^ 64) : m.natAbs < 2 ^ 8000 := Nat.lt_of_lt_of_le h (Nat.pow_le_pow_right (by decide) (by decide))
theorem Same.upd {H : Hp} {p : Addr} {o : HO} (h : H p = none) : Same H (upd H p o) := fun b x e => by
  rw [upd_ne (ne_of_none e h)]
  exact e
theorem Stp.same {s : Addr} {H H1 H2 : Hp} (a : Stp s H H1) (b : Same H1 H2) : Stp s H H2 := by
  obtain ⟨x, y, z, e⟩ := a.src
  exact ⟨fun c o n q => b _ _ (a.keep c o n q), x, y, z, b _ _ e⟩
/-! ### ** 2 and // of great numbers, of either sign -/
def CSq (i j : Int) : Prop := j = 2 ∧ i.natAbs < 2 ^ 1000
theorem op_sq {X : Cx} : OpR X (binaryOp .Pow) (rI CSq fun i _ => .int (i * i)) := opI fun i j _ _ _ _ _ hc q => by
  obtain ⟨rfl, hb⟩ := hc
  refine pow_int (by decide) ?_ (by rw [show i ^ (2 : Int).toNat = i * i from Int.pow_succ i 1 ▸ by rw [Int.pow_one]]; exact q)
  have b : Builtin.Int.intBits i ≤ i.natAbs.log2 + 1 := by
    unfold Builtin.Int.intBits
    split <;> omega
  have l := PySem.Flt.log2_lt_of (by decide : 0 < 1000) hb
  omega
def CDivE (_ j : Int) : Prop := j ≠ 0 ∧ j.natAbs < 2 ^ 8000
theorem op_fdivE {X : Cx} : OpR X (binaryOp .FloorDiv) (rI CDivE fun i j => .int (i.fdiv j)) := opI fun i j _ _ _ _ _ hc q =>
  floordiv_int hc.1 q (.inl (PyProof.noPylong_of_log2 (Nat.lt_of_lt_of_le (PySem.Flt.log2_lt_of (by decide) hc.2) (by decide))))
/-! ### readings made weaker -/
theorem peOf {X : Cx} {e : Expr} {t t' : TE} (h : PE X e t) (m : ∀ σ H Q, t' σ H Q → t σ H Q) : PE X e t' := ⟨fun pins s σ H Q I hw => h.run pins s σ H Q I (m σ H Q hw)⟩
theorem paOf {X : Cx} {es : List Expr} {t t' : TA} (h : PA X es t) (m : ∀ σ H Q, t' σ H Q → t σ H Q) : PA X es t' := ⟨fun pos pins s σ H Q I hw => h.run pos pins s σ H Q I (m σ H Q hw)⟩
theorem psOf {X : Cx} {st : Stmt} {t t' : TS} (h : PS X st t) (m : ∀ D σ H, t' D σ H → t D σ H) : PS X st t' := ⟨fun pins s σ H D I hw => h.run pins s σ H D I (m D σ H hw)⟩
theorem pssOf {X : Cx} {st : List Stmt} {t t' : TS} (h : PSs X st t) (m : ∀ D σ H, t' D σ H → t D σ H) : PSs X st t' := ⟨fun pins s σ H D I hw => h.run pins s σ H D I (m D σ H hw)⟩
/-- a written number with a minus -/
theorem pe_neg {X : Cx} {i : Int} {j : Nat} {p p2 : Pos} : PE X (.UnaryOp .USub (.Constant (.int i) j p) p2) (tC (.int (-i))) := peOf (pe_un un_neg pe_int) fun _ _ _ h => ⟨_, rfl, h⟩
/-! ### displays of sites -/
def Bd (b x y : Int) : Prop := -b ≤ x ∧ x ≤ b ∧ -b ≤ y ∧ y ≤ b
theorem Bd.mono {b c x y : Int} (h : Bd b x y) (l : b ≤ c) : Bd c x y := by
  obtain ⟨h1, h2, h3, h4⟩ := h
  exact ⟨by omega, by omega, by omega, by omega⟩
/-- every address of ps a site within b -/
def Sits (b : Int) (H : Hp) (ps : List Addr) : Prop := ∀ p ∈ ps, ∃ x y, Sit H p x y ∧ Bd b x y
theorem Sits.same {b : Int} {H H' : Hp} {ps : List Addr} (h : Sits b H ps) (a : Same H H') : Sits b H' ps := fun p m => by
  obtain ⟨x, y, e, d⟩ := h p m
  exact ⟨x, y, a _ _ e, d⟩
theorem Sits.stp {b : Int} {s : Addr} {H H' : Hp} {ps : List Addr} (h : Sits b H ps) (q : Src H s) (a : Stp s H H') : Sits b H' ps := fun p m => by
  obtain ⟨x, y, e, d⟩ := h p m
  exact ⟨x, y, e.stp q a, d⟩
theorem Sits.put {b : Int} {H : Hp} {ps : List Addr} {p : Addr} {o : HO} (h : Sits b H ps) (n : ∀ x y, H p ≠ some (.tup [.int x, .int y])) : Sits b (upd H p o) ps := fun r m => by
  obtain ⟨x, y, e, d⟩ := h r m
  refine ⟨x, y, ?_, d⟩
  show upd H p o r = _
  rw [upd_ne (fun z => n x y (by rw [← z]; exact e))]
  exact e
def tSit (b : Int) : TE := fun _ H Q => ∀ (p : Addr) H' (x y : Int), Same H H' → H p = none → Sit H' p x y → Bd b x y → Q (.ref p) H'
def tSits (b : Int) (n : Nat) : TA := fun _ H Q => ∀ (ps : List Addr) H', Same H H' → ps.length = n → Sits b H' ps → Q (ps.map V.ref) H'
theorem two_line : 2 ≤ sizeLine := by decide
theorem pe_sit {X : Cx} {e1 e2 : Expr} {k : Nat} {pos : Pos} {x y b : Int} (h : PA X [e1, e2] (tCons (tC (.int x)) (tCons (tC (.int y)) tNil))) (hb : Bd b x y) : PE X (.Tuple [e1, e2] k pos) (tSit b) :=
  peOf (pe_tup h) fun _ H Q q => ⟨two_line, fun p np => q p _ x y (Same.upd np) np upd_same hb⟩
theorem sits_nil {b : Int} : ∀ σ H Q, tSits b 0 σ H Q → tNil σ H Q := fun _ H Q q => q [] H (Same.refl _) rfl (fun _ m => nomatch m)
theorem sits_cons {b : Int} {n : Nat} : ∀ σ H Q, tSits b (n + 1) σ H Q → tCons (tSit b) (tSits b n) σ H Q := fun _ H Q q p H1 x y s1 _ e d ps H2 s2 l h => by
  refine q (p :: ps) H2 (s1.trans s2) (by rw [List.length_cons, l]) fun r m => ?_
  rcases List.mem_cons.mp m with rfl | m
  · exact ⟨x, y, s2 _ _ e, d⟩
  · exact h r m
theorem pa_sits0 {X : Cx} {b : Int} : PA X [] (tSits b 0) := paOf pa_nil sits_nil
theorem pa_sits {X : Cx} {e : Expr} {es : List Expr} {b : Int} {n : Nat} (h : PE X e (tSit b)) (hs : PA X es (tSits b n)) (st : starEach (e :: es) X.env = (false, eval e X.env) :: starEach es X.env := by rfl) : PA X (e :: es) (tSits b (n + 1)) := paOf (pa_cons h hs st) sits_cons
end Nc


/-! Own rules: math.gcd of three ints. -/
namespace Nc
open PySem PySem.Spec PyProof.Rows L2
section
open PySem.Calls
theorem gcd3_run (a : Int) (t : Tok) (b : Int) (u : Tok) (c : Int) (v : Tok) :
    Gives (Builtin.«math.gcd» ⟨[.int a t, .int b u, .int c v], []⟩) (.int (((((Nat.gcd 0 a.natAbs).gcd b.natAbs).gcd c.natAbs : Nat) : Int))) :=
  .of_wp fun M A E s Q h => by obtain ⟨hp, g, d, tk, os⟩ := s; wp_walk; exact ⟨_, rfl, h⟩
theorem gcd3_args (a b c : Value) : argsOk "math.gcd" ⟨[a, b, c], []⟩ := by unfold argsOk; kernel_rfl
end
section
variable {X : Cx}
def rGcd3 : List V → Hp → VK → Prop := fun vs H Q => ∃ a b c : Int, vs = [.int a, .int b, .int c] ∧ Q (.int ((Nat.gcd (Nat.gcd a.natAbs b.natAbs) c.natAbs : Nat) : Int)) H
theorem cr_gcd3 : CallR X (.builtin "math.gcd") rGcd3 := by
  intro pins s σ H vs us Q I r h
  obtain ⟨a, b, c, rfl, q⟩ := h
  cases r with
  | cons r1 r => cases r with
    | cons r2 r => cases r with
      | cons r3 r =>
        cases r
        obtain ⟨t1, rfl⟩ := r1
        obtain ⟨t2, rfl⟩ := r2
        obtain ⟨t3, rfl⟩ := r3
        have g := gcd3_run a t1 b t2 c t3
        rw [Nat.gcd_zero_left] at g
        exact call_function_meets PySem.W.MGF.kind_gcd PySem.W.MGF.plain_gcd PySem.W.MGF.entry_gcd (gcd3_args _ _ _) g.meets ⟨.int _, H, I.tok _, ⟨_, rfl⟩, q⟩
end
end Nc

/-! Own rules: small steps that answer what a term asks: used by the local macros of walk.txt. -/
namespace Nc
open PySem PySem.Spec PyProof.Rows L2
section
variable {K : PySem.W.Frag} {H : Hp} {Q : VK} {p q : Addr} {xs ys : List V} {i j : Int} {v x y : V}
theorem w_ixT (h : H p = some (.tup xs)) (e : atI xs i = some v) (z : Q v H) : rIxT K (.ref p) (.int i) H Q := ⟨_, _, _, _, rfl, rfl, SqT.of h, e, z⟩
theorem w_ixL (h : H p = some (.lst xs)) (e : atI xs i = some v) (z : Q v H) : rIxL K (.ref p) (.int i) H Q := ⟨_, _, _, _, rfl, rfl, SqL.of h, e, z⟩
theorem w_gtup {n : Nat} {t : TGs} {σ : L2.St} {Qs : L2.St → Hp → Prop} (h : H p = some (.tup xs)) (e : xs.length = n) (z : t xs σ H Qs) : gTup K n t (.ref p) σ H Qs := ⟨_, _, rfl, SqT.of h, e, z⟩
theorem w_itt {p A B : Prop} [Decidable p] (h : p) (a : A) : if decide p = true then A else B := by
  rw [decide_eq_true h, if_pos rfl]
  exact a
theorem w_itf {p A B : Prop} [Decidable p] (h : ¬ p) (b : B) : if decide p = true then A else B := by
  rw [decide_eq_false h, if_neg (by decide)]
  exact b
theorem w_ntt {p A B : Prop} [Decidable p] (h : p) (b : B) : if (!decide p) = true then A else B := by
  rw [decide_eq_true h, if_neg (by decide)]
  exact b
theorem w_ntf {p A B : Prop} [Decidable p] (h : ¬ p) (a : A) : if (!decide p) = true then A else B := by
  rw [decide_eq_false h, if_pos (by decide)]
  exact a
theorem w_ifd {p A B : Prop} [Decidable p] (h1 : p → A) (h2 : ¬ p → B) : if decide p = true then A else B := by
  by_cases h : p
  · exact w_itt h (h1 h)
  · exact w_itf h (h2 h)
theorem w_ifnd {p A B : Prop} [Decidable p] (h1 : p → B) (h2 : ¬ p → A) : if (!decide p) = true then A else B := by
  by_cases h : p
  · exact w_ntt h (h1 h)
  · exact w_ntf h (h2 h)
theorem w_if {c : Bool} {A B : Prop} (h1 : c = true → A) (h2 : c = false → B) : if c = true then A else B := by
  cases c
  · exact h2 rfl
  · exact h1 rfl
end
/-! bits -/
theorem nbm {a b : Int} {k : Nat} (ha : a.natAbs < 2 ^ (k / 2)) (hb : b.natAbs < 2 ^ (k / 2)) : (a * b).natAbs < 2 ^ k := by
  have h : a.natAbs * b.natAbs < 2 ^ (k / 2) * 2 ^ (k / 2) := Nat.mul_lt_mul'' ha hb
  rw [Int.natAbs_mul]
  rw [← Nat.pow_add] at h
  exact Nat.lt_of_lt_of_le h (Nat.pow_le_pow_right (by decide) (by omega))
theorem nba {a b : Int} {k : Nat} (h : 0 < k) (ha : a.natAbs < 2 ^ (k - 1)) (hb : b.natAbs < 2 ^ (k - 1)) : (a + b).natAbs < 2 ^ k := by
  obtain ⟨m, rfl⟩ : ∃ m, k = m + 1 := ⟨k - 1, by omega⟩
  rw [Nat.add_sub_cancel] at ha hb
  rw [Nat.pow_succ]
  omega
theorem nbs {a b : Int} {k : Nat} (h : 0 < k) (ha : a.natAbs < 2 ^ (k - 1)) (hb : b.natAbs < 2 ^ (k - 1)) : (a - b).natAbs < 2 ^ k := by
  obtain ⟨m, rfl⟩ : ∃ m, k = m + 1 := ⟨k - 1, by omega⟩
  rw [Nat.add_sub_cancel] at ha hb
  rw [Nat.pow_succ]
  omega
theorem nbn {a : Int} {k : Nat} (ha : a.natAbs < 2 ^ k) : (-a).natAbs < 2 ^ k := by rwa [Int.natAbs_neg]
theorem nbu {a : Int} {j k : Nat} (ha : a.natAbs < 2 ^ j) (h : j ≤ k) : a.natAbs < 2 ^ k := Nat.lt_of_lt_of_le ha (Nat.pow_le_pow_right (by decide) h)
theorem nbd {a b : Int} {k : Nat} (ha : a.natAbs < 2 ^ k) : (a.fdiv b).natAbs < 2 ^ (k + 1) := by
  rw [Nat.pow_succ]
  have h := ha
  rcases Int.lt_trichotomy b 0 with hb | hb | hb
  · have e : a.fdiv b = (-a).fdiv (-b) := (Int.neg_fdiv_neg a b).symm
    rw [e, Int.fdiv_eq_ediv_of_nonneg _ (by omega)]
    have := Int.natAbs_ediv_le_natAbs (-a) (-b)
    omega
  · subst hb
    rw [Int.fdiv_zero]
    omega
  · rw [Int.fdiv_eq_ediv_of_nonneg _ (by omega)]
    have := Int.natAbs_ediv_le_natAbs a b
    omega
theorem cmw {a b : Int} (ha : a.natAbs < 2 ^ 8000) (hb : b.natAbs < 2 ^ 8000) : CMulW a b := wide_mul ha hb (by decide) (by decide) (by decide)
end Nc

/-! Own rules: a def of the text with all that a caller needs, in one. -/
namespace Nc
open PySem PySem.Spec PyProof.Rows L2
/-- the def x as it stands behind the top -/
structure Df (K : PySem.W.Frag) (mg : Str → Option Value) (x : Str) (st : Stmt) (ps : List Str) : Prop where
  ex : ∃ (f : Addr) (fd : FuncData), Fun K x x st f fd ∧ mg x = some (.ref f) ∧ PySem.W.keepIn K (.ref f) = true ∧ Binds K fd ps []
/-- the def x keeps its promise -/
structure Cl (P : Program) (w : World) (K : PySem.W.Frag) (mg : Str → Option Value) (base : Heap) (CX : CXT) (x : Str) (k : Nat) (ps : List Str) (sp : Sp) : Prop where
  ex : ∃ (f : Addr) (fd : FuncData), FnOk P w K mg base CX k f fd ps sp ∧ mg x = some (.ref f) ∧ PySem.W.keepIn K (.ref f) = true ∧ Binds K fd ps []
section
variable {P : Program} {w : World} {K : PySem.W.Frag} {mg : Str → Option Value} {base : Heap} {CX : CXT} {x : Str} {k : Nat} {ps : List Str} {sp : Sp} {st : Stmt}
theorem Df.mk' {f : Addr} {fd : FuncData} (F : Fun K x x st f fd) (g : mg x = some (.ref f)) (k : PySem.W.keepIn K (.ref f) = true) (b : Binds K fd ps []) : Df K mg x st ps := ⟨f, fd, F, g, k, b⟩
theorem Df.cl (D : Df K mg x st ps) (h : ∀ f fd, Fun K x x st f fd → FnOk P w K mg base CX k f fd ps sp) : Cl P w K mg base CX x k ps sp := by
  obtain ⟨f, fd, F, g, kk, b⟩ := D.ex
  exact ⟨f, fd, h f fd F, g, kk, b⟩
theorem Cl.imp {sp' : Sp} (C : Cl P w K mg base CX x k ps sp) (h : ∀ vs H Q E, sp' vs H Q E → sp vs H Q E) : Cl P w K mg base CX x k ps sp' := by
  obtain ⟨f, fd, F, g, kk, b⟩ := C.ex
  exact ⟨f, fd, F.imp h, g, kk, b⟩
theorem Cl.up {j : Nat} (C : Cl P w K mg base CX x j ps sp) (h : j ≤ k) : Cl P w K mg base CX x k ps sp := by
  obtain ⟨f, fd, F, g, kk, b⟩ := C.ex
  exact ⟨f, fd, F.mono h, g, kk, b⟩
end
section
variable {X : Cx} {CX : CXT} {k : Nat} {ps : List Str} {sp : Sp} {E : XK} {x : Str} {p pos : Pos} {e : Expr} {es : List Expr} {t : TA}
theorem pe_cl (C : Cl X.prog X.w X.K X.mg X.base CX x k ps sp) (hr : Room k X.A) (hg : Gl X x) (hx : Passes CX X E) (ha : PA X (e :: es) t) (hdb : (x == ("__debug__" : Str)) = false := by decide) (he : starEach (e :: es) X.env = (false, eval e X.env) :: starEach es X.env := by rfl) (hpl : (backTo pos (starEach es X.env)).any (·.1) = false := by rfl) :
    PE X (.Call (.Name x p) (e :: es) [] pos) (tCall sp [] E t) := by
  obtain ⟨f, fd, F, g, kk, b⟩ := C.ex
  exact pe_call F hr hg g kk b .nil hx ha hdb he hpl
theorem pe_cl0 (C : Cl X.prog X.w X.K X.mg X.base CX x k ps sp) (hr : Room k X.A) (hg : Gl X x) (hx : Passes CX X E) (hdb : (x == ("__debug__" : Str)) = false := by decide) : PE X (.Call (.Name x p) [] [] pos) (tCall sp [] E tNil) := by
  obtain ⟨f, fd, F, g, kk, b⟩ := C.ex
  exact pe_call0 F hr hg g kk b .nil hx hdb
end
/-! ### tuples of ints that are compared -/
section
variable {K : PySem.W.Frag} {H : Hp} {Q : VK} {p q : Addr} {ns ms : List Int}
theorem dpa_ints : ∀ (ns : List Int), DpAll K H (ns.map V.int) (ns.map PyData.int)
  | [] => .nil
  | n :: ns => .cons (.int n) (dpa_ints ns)
theorem dp_ints (h : H p = some (.tup (ns.map V.int))) : Dp K H (.ref p) (.tuple (ns.map PyData.int)) := .tup (SqT.of h) (dpa_ints ns)
theorem dpl_ints (h : H p = some (.lst (ns.map V.int))) : Dp K H (.ref p) (.list (ns.map PyData.int)) := .lst (SqL.of h) (dpa_ints ns)
theorem eqva_ints : ∀ (ns ms : List Int), PyData.eqvAll (ns.map PyData.int) (ms.map PyData.int) = decide (ns = ms)
  | [], [] => rfl
  | [], m :: ms => rfl
  | n :: ns, [] => rfl
  | n :: ns, m :: ms => by
    have ih := eqva_ints ns ms
    simp only [List.map_cons, PyData.eqvAll, PyData.eqv]
    rw [ih]
    by_cases e : n = m
    · subst e
      simp
    · simp [e]
theorem eqv_ints (ns ms : List Int) : PyData.eqv (.tuple (ns.map PyData.int)) (.tuple (ms.map PyData.int)) = decide (ns = ms) := by
  rw [← eqva_ints ns ms]
  simp only [PyData.eqv]
theorem shaped_all : ∀ ns : List Int, PyData.canLayAll0 (ns.map PyData.int) = true ∧ PyData.depthAll (ns.map PyData.int) = 0
  | [] => ⟨rfl, rfl⟩
  | n :: ns => by
    obtain ⟨h1, h2⟩ := shaped_all ns
    simp only [List.map_cons, PyData.canLayAll0, PyData.canLay0, PyData.depthAll, PyData.depth, h1, h2]
    exact ⟨rfl, rfl⟩
theorem shaped_ints (ns : List Int) : SeqAt.shaped (.tuple (ns.map PyData.int)) = true := by
  obtain ⟨h1, h2⟩ := shaped_all ns
  simp only [SeqAt.shaped, PyData.canLay0, PyData.depth, h1, h2]
  rfl
theorem shapedl_ints (ns : List Int) : SeqAt.shaped (.list (ns.map PyData.int)) = true := by
  obtain ⟨h1, h2⟩ := shaped_all ns
  simp only [SeqAt.shaped, PyData.canLay0, PyData.depth, h1, h2]
  rfl
/-- two tuples of ints, a != b, a == b -/
theorem w_neT (h : H p = some (.tup (ns.map V.int))) (h2 : H q = some (.tup (ms.map V.int))) (z : Q (.bl (!decide (ns = ms))) H) : rNeD K (.ref p) (.ref q) H Q := ⟨_, _, dp_ints h, dp_ints h2, shaped_ints _, shaped_ints _, by rw [eqv_ints]; exact z⟩
theorem w_eqT (h : H p = some (.tup (ns.map V.int))) (h2 : H q = some (.tup (ms.map V.int))) (z : Q (.bl (decide (ns = ms))) H) : rEqD K (.ref p) (.ref q) H Q := ⟨_, _, dp_ints h, dp_ints h2, shaped_ints _, shaped_ints _, by rw [eqv_ints]; exact z⟩
theorem w_neT' (h : H p = some (.tup (ns.map V.int))) (h2 : H q = some (.tup (ms.map V.int))) (e : ns = ms) (z : Q (.bl false) H) : rNeD K (.ref p) (.ref q) H Q := w_neT h h2 (by rw [decide_eq_true e]; exact z)
theorem w_eqT' (h : H p = some (.tup (ns.map V.int))) (h2 : H q = some (.tup (ms.map V.int))) (e : ns = ms) (z : Q (.bl true) H) : rEqD K (.ref p) (.ref q) H Q := w_eqT h h2 (by rw [decide_eq_true e]; exact z)
theorem eqvl_ints (ns ms : List Int) : PyData.eqv (.list (ns.map PyData.int)) (.list (ms.map PyData.int)) = decide (ns = ms) := by
  rw [← eqva_ints ns ms]
  simp only [PyData.eqv]
end
section
theorem all_flat (zs : List Int) : (zs.map V.int).all flatV = true := by
  induction zs with
  | nil => rfl
  | cons z zs ih => simpa [flatV] using ih
theorem inV_ints (z : Int) (zs : List Int) : inV (V.int z) (zs.map V.int) = decide (z ∈ zs) := by
  induction zs with
  | nil => rfl
  | cons y zs ih =>
    unfold inV at *
    rw [List.map_cons, List.any_cons, ih]
    simp [eqV]
    by_cases h : y = z
    · subst h; simp
    · have : ¬ z = y := fun e => h e.symm
      simp [h, this]
theorem int_at {zs : List Int} {i : Nat} {x : V} (h : (zs.map V.int)[i]? = some x) : ∃ z, zs[i]? = some z ∧ x = .int z := by
  rw [List.getElem?_map] at h
  obtain ⟨z, e, e2⟩ := Option.map_eq_some_iff.mp h
  exact ⟨z, e, e2.symm⟩
end
end Nc

/-! Own rules: sets of tuples of ints: set(), t in s (not there), s.add(t), len(s). -/
namespace Nc
open PySem PySem.Spec PyProof.Rows L2
def run0 (m : Nat) (h : Int) : SetTable.Probe := runAt m (SetTable.bits h % (m + 1)) (SetTable.bits h)
theorem dummy_nth (m : Nat) : ∀ (n : Nat) (p : SetTable.Probe), p.dummy = none → (nth m p n).dummy = none
  | 0, _, e => e
  | n + 1, p, e => dummy_nth m n (adv m p) (by unfold adv; split <;> exact e)
section
variable {P : Program} {w : World} {A : Around} {E : Value → Shared → Prop} {s : Shared} {a : Addr} {L : List (Addr × List Int)} {es : Array (Int × Value)} {ep : Nat} {t : SetTable}
abbrev hashOf (es : Array (Int × Value)) : Nat → Int := fun i => (es[i]?.map (·.1)).getD 0
/-- from the c-th place of the way on, of a key that isn't there -/
theorem probe_free (R : SetTR P w s.heap a L es ep t) {h : Int} {K c : Nat} (far : K < 10 * SetTable.turns t.mask) (free : way t.mask h K ∉ t.place.toList) (full : ∀ d, d < K → way t.mask h d ∈ t.place.toList) (le : c ≤ K) :
    (∃ q i p, c + q < K ∧ L[i]? = some p ∧ t.place.toList[i]? = some (way t.mask h (c + q)) ∧ t.probe (hashOf es) h (nth t.mask (run0 t.mask h) c) = some (.candidate (way t.mask h (c + q)) i (nth t.mask (run0 t.mask h) (c + q + 1)))) ∨
    t.probe (hashOf es) h (nth t.mask (run0 t.mask h) c) = some (.empty (way t.mask h K) none) := by
  have sh : ∀ q, nth t.mask (nth t.mask (run0 t.mask h) c) q = nth t.mask (run0 t.mask h) (c + q) := fun q => (nth_add t.mask c _ q).symm
  have wj : ∀ q, (nth t.mask (nth t.mask (run0 t.mask h) c) q).j = way t.mask h (c + q) := fun q => congrArg SetTable.Probe.j (sh q)
  have back : c + (K - c) = K := by omega
  rcases go_spec t R.tab.ris R.tab.dm (hashOf es) h (10 * SetTable.turns t.mask) (K - c) (nth t.mask (run0 t.mask h) c) (dummy_nth _ _ _ rfl) (by omega) (fun q hq => by rw [wj]; exact full _ (by omega)) (by rw [wj, back]; exact free) with ⟨q, i, hq, hi, _, _, e⟩ | ⟨_, e⟩
  · rw [wj] at hi
    have il : i < L.length := by
      have l1 : i < t.place.toList.length := (List.getElem?_eq_some_iff.mp hi).1
      have l2 := R.tab.sz
      rw [List.length_map] at l2
      rw [Array.length_toList, l2] at l1
      exact l1
    refine .inl ⟨q, i, L[i], by omega, List.getElem?_eq_getElem il, hi, ?_⟩
    rw [wj, sh] at e
    exact e
  · rw [wj, back] at e
    exact .inr e
theorem mem_at {α : Type} {l : List α} {i : Nat} {p : α} (e : l[i]? = some p) : p ∈ l := List.mem_of_getElem? e
/-- a search for what isn't there ends at the free place -/
theorem search_free (R : SetTR P w s.heap a L es ep t) {x : Addr} {k : List Int} (hx : IsT P w s.heap k x) (room : A.units < cLine) (out : k ∉ L.map (·.2)) {K : Nat} (far : K < 10 * SetTable.turns t.mask)
    (free : way t.mask (thash P w k) K ∉ t.place.toList) (full : ∀ d, d < K → way t.mask (thash P w k) d ∈ t.place.toList) {Q : SetFound → Shared → Prop} (q : ∀ j, Q (.free j false) s) :
    ∀ (f c : Nat) (stand : Option SetTable.Probe), stand.getD (t.probeStart (thash P w k)) = nth t.mask (run0 t.mask (thash P w k)) c → c ≤ K → K < c + f →
      wpAny (model P w) A (setSearchFrom a (.ref x) (thash P w k) false f stand) Q E s := by
  obtain ⟨o, ho, _, hd⟩ := R.ob
  intro f
  induction f with
  | zero =>
    intro c stand _ le lt
    exact absurd lt (by omega)
  | succ f ih =>
    intro c stand e le lt
    rw [setSearchFrom_succ]
    refine wpAny_bind (wpAny_setState_of ho hd R.fits ?_)
    dsimp only
    refine wp_if_neg R.gw ?_
    try refine wpAny_bind (wpAny_pure ?_)
    rw [e]
    rcases probe_free R far free full le with ⟨m, i, p, lt2, at_, pl, z⟩ | z
    · rw [z]
      dsimp only
      have hp := R.tup p (mem_at at_)
      have ne : p.2 ≠ k := fun b => out (List.mem_map.mpr ⟨p, mem_at at_, b⟩)
      have go : wpAny (model P w) A (searchRest a (.ref x) (thash P w k) false f es t (way t.mask (thash P w k) (c + m)) i (nth t.mask (run0 t.mask (thash P w k)) (c + m + 1))) Q E s := by
        unfold searchRest
        rw [R.entry at_]
        dsimp only
        refine wpAny_bind (wpAny_holding (wpAny_eqBool_tuple room hp hx ?_))
        refine wpAny_bind (wpAny_setState_of ho hd R.fits ?_)
        dsimp only
        refine wp_if_neg Bool.false_ne_true ?_
        try refine wpAny_bind (wpAny_pure ?_)
        rw [sameMem]
        dsimp only
        simp only [if_true, slot_live R.tab.ris pl, R.entry at_]
        refine wpAny_bind (wpAny_isSame_ref_self (wpAny_bind (wpAny_pure ?_)))
        simp only [if_true]
        refine wp_if_neg (by simp [ne]) ?_
        exact ih (c + m + 1) _ rfl (by omega) (by omega)
      by_cases led : t.led = true
      · refine wp_if_neg (by simp [led]) ?_
        try refine wpAny_bind (wpAny_pure ?_)
        exact go
      · refine wp_if_pos (by simp [led]) ?_
        refine wpAny_bind (seen_tup hx (fun y my => ?_) ?_)
        · obtain ⟨r, mr, er⟩ := List.mem_map.mp my
          have m1 : r ∈ es ∧ r.1 = thash P w k := by simpa using mr
          have m2 : r ∈ es.toList := by simpa using m1.1
          rw [R.rows] at m2
          obtain ⟨u, mu, eu⟩ := List.mem_map.mp m2
          exact ⟨u.2, u.1, by rw [← er, ← eu], R.tup u mu⟩
        · refine wp_if_neg (by decide) ?_
          try refine wpAny_bind (wpAny_pure ?_)
          exact go
    · rw [z]
      dsimp only
      exact wpAny_pure (q _)
/-- the search that a membership asks for: nothing -/
theorem find_free (R : SetTR P w s.heap a L es ep t) {x : Addr} {k : List Int} (hx : IsT P w s.heap k x) (room : A.units < cLine) (out : k ∉ L.map (·.2)) {Q : Option Nat → Shared → Prop} (q : Q none s) :
    wpAny (model P w) A (setFind a (.ref x) (thash P w k)) Q E s := by
  obtain ⟨o, ho, _, hd⟩ := R.ob
  have far := R.room
  obtain ⟨K, k1, k2, k3⟩ := R.tab.first (by rw [List.length_map]; omega) (thash P w k)
  have big : 10 * SetTable.turns t.mask ≤ 1420 := by
    unfold SetTable.turns
    rcases R.tab.mok with e | e | e <;> omega
  unfold setFind; rw [show (100000 : Nat) = 99999 + 1 from rfl]; unfold setFindIn
  refine wpAny_bind (wpAny_setState_of ho hd R.fits ?_)
  dsimp only
  refine wp_if_neg (by simp [byScan, Value.scannable]) ?_
  try refine wpAny_bind (wpAny_pure ?_)
  unfold setSearch
  refine wpAny_bind (search_free R hx room out k1 k2 k3 (fun j => ?_) 100000 0 none rfl (Nat.zero_le _) (by omega))
  dsimp only
  exact wpAny_pure q
/-- t in s, t not there -/
theorem contains_free (R : SetTR P w s.heap a L es ep t) {x : Addr} {k : List Int} (hx : IsT P w s.heap k x) (room : A.units + 1 < cLine) (out : k ∉ L.map (·.2)) {Q : Value → Shared → Prop} (q : ∀ tk, Q (.bool false) { s with toks := tk }) :
    wpAny (model P w) A (compareOp .In (.ref x) (.ref a)) Q E s := by
  have ty : s.TypeIs (.ref a) "set" := let ⟨o, ho, hc, _⟩ := R.ob; ⟨o, ho, hc.1⟩
  show wpAny _ _ (do return .bool (← contains (.ref a) (.ref x))) Q E s
  refine wpAny_bind ?_; unfold contains; (try with_reducible refine wpAny_holding ?_); refine wpAny_bind (wpAny_specialOf ty F.slot_set_contains.lookup ?_)
  show wpAny _ _ (if (some (Value.builtin "set.__contains__") == some Value.none) = true then _ else _) _ E s
  rw [if_neg (by rw [beq_builtin_none]; decide)]
  refine wpAny_bind (wpAny_callSpecialUnlessNone?_slot (name := Str.ofString "__contains__") ty F.slot_set_contains (wpAny_call_entry F.slot_set_contains ty entry_set_contains ?_ (F.args_set_contains_2 _ _)))
  unfold Builtin.«frozenset.__contains__» Builtin.Frozenset.oneOther; simp only [List.isEmpty_nil, bind_assoc]; unfold Builtin.Frozenset.addrOf Builtin.Frozenset.withSetAsKey setContains
  refine wpAny_bind (wpAny_pure ?_); (try dsimp only); refine wpAny_bind (wpAny_pure ?_); (try dsimp only); refine wpAny_bind (wpAny_tryCatch (wpAny_holding ?_))
  refine wpAny_bind (wpAny_pyHash_tuple (by exact room) hx (wpAny_bind (find_free (s := { s with toks := s.toks + (k.length + 1) }) ⟨R.ob, R.rows, R.tab, R.nd, R.tup, R.plain, R.led, R.room, R.few⟩ hx (by exact room) out (wpAny_pure ?_))))
  show wpAny _ _ (ret (Value.bool false)) _ _ _
  exact wpAny_pure ⟨_, rfl, wpAny_truthy_bool (wpAny_pure (q _))⟩
/-- s.add(t) -/
theorem adds (R : SetTR P w s.heap a L es ep t) {x : Addr} {k : List Int} (hx : IsT P w s.heap k x) (room : A.units + 1 < cLine) (few : L.length + 1 < 64) {Q : Value → Shared → Prop}
    (q : ∀ h' L' es' ep' t' tk, Heap.SameBut a s.heap h' → SetTR P w h' a L' es' ep' t' → (k ∈ L.map (·.2) → L' = L) → (k ∉ L.map (·.2) → L'.Perm ((x, k) :: L)) → Q .none { s with heap := h', toks := tk }) :
    wpAny (model P w) A (call (.builtin "set.add") [.ref a, .ref x]) Q E s := by
  have ty : s.TypeIs (.ref a) "set" := let ⟨o, ho, hc, _⟩ := R.ob; ⟨o, ho, hc.1⟩
  refine wpAny_call_entry F.slot_set_add ty F.entry_set_add ?_ (F.args_set_add_2 _ _)
  unfold Builtin.«set.add» Builtin.Frozenset.oneOther; simp only [List.isEmpty_nil, bind_assoc]; unfold Builtin.Frozenset.addrOf setAdd
  refine wpAny_bind (wpAny_pure ?_); (try dsimp only); refine wpAny_bind (wpAny_pure ?_); (try dsimp only); refine wpAny_bind (wpAny_holding ?_)
  refine wpAny_bind (wpAny_pyHash_tuple (by exact room) hx ?_)
  refine add_at (s := { s with toks := s.toks + (k.length + 1) }) ⟨R.ob, R.rows, R.tab, R.nd, R.tup, R.plain, R.led, R.room, R.few⟩ hx (by exact room) few fun b h' L' es' ep' t' sb R' c1 c2 => ?_
  show wpAny _ _ (ret Value.none) _ _ _
  exact wpAny_pure ⟨_, rfl, q h' L' es' ep' t' _ sb R' c1 c2⟩
end
section
variable {X : Cx}
/-- set() -/
def rSet0T (P : Program) (w : World) : List V → Hp → VK → Prop := fun xs H Q => xs = [] ∧ ∀ p, H p = none → Q (.ref p) (upd H p (SetTO P w p []))
theorem cr_set0T : CallR X (.type "set") (rSet0T X.prog X.w) := by
  intro pins s σ H xs us Q I r h
  obtain ⟨rfl, q⟩ := h
  cases r
  refine setR_new fun _ => ?_
  have new : SetT0 X.prog X.w (s.heap.push { cls := .type "set", dict := none, data := .set #[] 0 (.fresh 0 0 (!X.w.params.followText "set-order")) }) s.heap.objs.size [] := (setTR_fresh (Heap.get?_push_size _ rfl)).t0
  exact ⟨.ref _, upd H s.heap.objs.size (SetTO X.prog X.w s.heap.objs.size []), I.laid (t' := s.toks) (fun b u e => Heap.get?_push_of_some _ e) (Nat.le_refl _) (setTO_new new), rfl, q _ (I.hok.fresh (Nat.le_refl _))⟩
/-- t in s, t a tuple of ints that isn't there -/
def rNotIn (K : PySem.W.Frag) (P : Program) (w : World) : V → V → Hp → VK → Prop := fun x y H Q => ∃ (b a : Addr) (k : List Int) (L : List (Addr × List Int)), x = .ref b ∧ y = .ref a ∧ SqT K H b (k.map V.int) ∧ H a = some (SetTO P w a L) ∧ (∀ p ∈ L, SqT K H p.1 (p.2.map V.int)) ∧ k ∉ L.map (·.2) ∧ Q (.bl false) H
theorem op_notIn (hu : X.A.units + 1 < cLine) : OpR X (compareOp .In) (rNotIn X.K X.prog X.w) := by
  intro pins s σ H x y v u Q I rx ry h
  obtain ⟨b, a, k, L, rfl, rfl, hb, ha, hL, out, q⟩ := h
  cases rx
  cases ry
  have R0 : SetT0 X.prog X.w s.heap a L := (I.hok a _ ha).1
  obtain ⟨es, ep, t, R⟩ := R0.full fun p hp => I.isT (hL p hp)
  exact contains_free R (I.isT hb) hu out fun tk => ⟨.bl false, H, I.tok _, rfl, q⟩
/-- s.add(t), t a tuple of ints that isn't there -/
def tSAddT (K : PySem.W.Frag) (P : Program) (w : World) (to : TE) (t : TA) : TE := fun σ H Q => to σ H fun x H1 => (∃ a L, x = V.ref a ∧ H1 a = some (SetTO P w a L) ∧ ∀ p ∈ L, SqT K H1 p.1 (p.2.map V.int)) ∧ t σ H1 fun xs H2 => ∃ (a b : Addr) (k : List Int) (L : List (Addr × List Int)), x = .ref a ∧ xs = [.ref b] ∧ SqT K H2 b (k.map V.int) ∧ H2 a = some (SetTO P w a L) ∧ (∀ p ∈ L, SqT K H2 p.1 (p.2.map V.int)) ∧ k ∉ L.map (·.2) ∧ L.length + 1 < 64 ∧
  ∀ L', L'.Perm ((b, k) :: L) → Q .non (upd H2 a (SetTO P w a L'))
variable {o e : Expr} {es : List Expr} {to : TE} {t : TA} {apos cpos : Pos}
theorem pe_saddT (hu : X.A.units + 1 < cLine) (ho : PE X o to) (ha : PA X (e :: es) t)
    (hbase : attributeBase o "add" X.env (eval o X.env) = eval o X.env := by rfl)
    (hfew : ((backTo cpos (starEach (e :: es) X.env)).all (fun x => !x.1) && (backToKw cpos (keywordEach [] X.env)).all (fun x => x.1.isSome) && decide ((e :: es).length + ([] : List Keyword).length + (if ([] : List Keyword).isEmpty then 0 else 1) < 30)) = true := by rfl)
    (hline : (apos.endLine == cpos.line) = true := by rfl) (hs : starEach (e :: es) X.env = (false, eval e X.env) :: starEach es X.env := by rfl) (hplain : (backTo cpos (starEach es X.env)).any (·.1) = false := by rfl) :
    PE X (.Call (.Attribute o "add" apos) (e :: es) [] cpos) (tSAddT X.K X.prog X.w to t) := by
  refine ⟨fun pins s σ H Q I h => wpAny_Call_method_late hbase hfew hline rfl (thn (ho.run pins s σ H _ I h) fun v s1 ⟨x, H1, I1, r1, ⟨a, L, ex, hL, hT⟩, q1⟩ => ?_)⟩
  subst ex
  cases r1
  have R1 : SetT0 X.prog X.w s1.heap a L := (I1.hok a _ hL).1
  have ty : s1.TypeIs (.ref a) "set" := let ⟨_, _, _, ⟨o, ho, hc, _⟩, _⟩ := R1.ex; ⟨o, ho, hc.1⟩
  refine ⟨"set", "set.add", F.plainAttrs_set, F.slot_set_add, F.type_set_add, ty, ?_, ?_⟩
  · rintro b eb; cases eb; obtain ⟨_, _, _, ⟨o, ho, hc, _⟩, _⟩ := R1.ex; exact ⟨o, ho, hc.2.1⟩
  have hA := ha.run cpos pins s1 σ H1 _ I1 q1
  rw [hs] at hA ⊢
  refine Calls.callWith_builtin (by show (false || (backTo cpos (starEach es X.env)).any (·.1)) = false; rw [hplain]; rfl) (Calls.evalArgs_plain ?_)
  refine thn hA fun us s2 ⟨vs, H2, I2, r2, a', b, k, L2, e1, e2, hb, hL2, hT2, out, few, q2⟩ => ?_
  cases e1
  subst e2
  rw [Vals.ref1 r2]
  have R0 : SetT0 X.prog X.w s2.heap a L2 := (I2.hok a _ hL2).1
  obtain ⟨es, ep, tt, R⟩ := R0.full fun p hp => I2.isT (hT2 p hp)
  refine adds R (I2.isT hb) hu few fun h' L' es' ep' t' tk sb R' _ c2 => ?_
  have he : ∃ u, h'.get? a = some u := let ⟨o, ho, _⟩ := R'.ob; ⟨o, ho⟩
  exact ⟨.non, upd H2 a (SetTO X.prog X.w a L'), I2.write (e := a) (t' := tk) (by rw [hL2]; trivial) (.inl rfl) (fun c u hc hu => (sb.2 c hc).trans hu) he (setTO_new R'.t0), rfl, q2 L' (c2 out)⟩
end
end Nc

/-! Own rules: min(d), d a dict with pairs of ints as keys; d.setdefault(t, x) of such. -/
namespace Nc
open PySem PySem.Spec PyProof.Rows L2
section
variable {prog : Program} {w : World} {A : Around} {R : Result → Shared → Prop} {I S : Addr} {fp wr : List Addr} {n : Nat} {P : Nat → Value → Prop} {St : Nat → Heap → Prop} {h0 : Heap} {bt : Nat → Nat → Bool}
/-- a walk's steps leave an older heap as it was -/
theorem keep_walk {h h' : Heap} (old : ∀ b ∈ wr, h0.get? b = none) (k : KeepH h0 h) (k' : ∀ b o, b ∉ wr → h.get? b = some o → h'.get? b = some o) : KeepH h0 h' := fun c o e =>
  k' c o (fun m => by rw [old c m] at e; cases e) (k c o e)
theorem keep_at {h : Heap} {g : Obj → Obj} (old : h0.get? S = none) (k : KeepH h0 h) : KeepH h0 (h.update S g) := fun c o e =>
  (Heap.get?_update_other _ _ (fun z => by rw [← z, old] at e; cases e)).trans (k c o e)
/-- min's loop from its (j + 1)-th item on: what is compared may stand in the heap -/
theorem min_rounds (W : Walks prog w A.in1 I fp wr n P St) (cmp : ∀ i j vi vj (s : Shared), KeepH h0 s.heap → P i vi → P j vj → Ob.RcOp .Lt A.in1 s vi vj (bt i j)) (out : S ∉ fp) (old : ∀ b ∈ wr, h0.get? b = none) (oldS : h0.get? S = none) :
    ∀ (k j : Nat) (s : Shared) (best : Value) (c : Nat), k + (j + 1) = n → St (j + 1) s.heap → KeepH h0 s.heap → P (argBest bt j) best → s.heap.get? S = some { cls := .type "list", dict := none, data := .seq #[best, best] c, slots := #[] } →
      (∀ v h' tk, P (argBest bt (n - 1)) v → KeepH h0 h' → R (.ok (.ret v)) { s with heap := h', toks := tk }) → codeAny (model prog w) A (.builtin "min.loop" ⟨[.ref I, .none, .ref S], []⟩) R s := by
  have outW : S ∉ wr := fun m => out (W.sub _ m)
  have nm : (toString "min" ++ toString ".loop" : String) = "min.loop" := by decide
  intro k
  induction k with
  | zero =>
    intro j s best c e st kp pb hS fin
    have jn : j + 1 = n := by omega
    subst jn
    refine codeAny_builtin F.entry_min_loop ?_; rw [Around.under_plainId F.plain_min_loop _]
    refine wpAny_bind (wpAny_seqItems hS rfl (wpAny_bind (wpAny_tryCatch (W.done s _ _ st fun h' tk k' => ?_))))
    refine wpAny_bind (wpAny_updateSeq (k' S _ outW hS) rfl (wpAny_bind (wpAny_letGo (wpAny_pure ?_))))
    exact fin best _ tk pb (keep_at oldS (keep_walk old kp k'))
  | succ k ih =>
    intro j s best c e st kp pb hS fin
    refine codeAny_builtin F.entry_min_loop ?_; rw [Around.under_plainId F.plain_min_loop _]
    refine wpAny_bind (wpAny_seqItems hS rfl (wpAny_bind (wpAny_tryCatch (W.item (j + 1) s _ _ (by omega) st fun v h' tk pv st' k' => ?_))))
    have hS' := k' S _ outW hS
    have kp' := keep_walk old kp k'
    refine wpAny_bind (wpAny_pure ?_)
    show wpAny _ _ (tryCatch (holding [v, v] (richCompare _ v best >>= _)) _ >>= _) _ _ _
    refine wpAny_bind (wpAny_tryCatch (wpAny_holding (wpAny_bind ((cmp (j + 1) (argBest bt j) v best _ kp' pv pb) prog w _ _ ?_))))
    refine wpAny_bind (wpAny_holding (wpAny_truthy_bool (wpAny_bind (wpAny_letGo (wpAny_pure ?_)))))
    cases hb : bt (j + 1) (argBest bt j) with
    | true =>
      simp only [if_true]
      refine wpAny_bind (wpAny_updateSeq hS' rfl (wpAny_bind (wpAny_letGo ?_))); rw [nm]
      refine wpAny_pure ⟨plainId_quiet F.plain_min_loop _, ih (j + 1) _ v _ (by omega) (W.frame _ _ _ st' fun b m o eb => (Heap.get?_update_other _ _ (fun z : S = b => out (by rw [z]; exact m))).trans eb) (keep_at oldS kp') (by unfold argBest; rw [hb]; exact pv) (Heap.get?_update_self _ hS' rfl) fun u h2 tk2 pu k2 => fin u h2 tk2 pu k2⟩
    | false =>
      simp only [Bool.false_eq_true, if_false]
      refine wpAny_bind (wpAny_letGo ?_); rw [nm]
      refine wpAny_pure ⟨plainId_quiet F.plain_min_loop _, ih (j + 1) _ best c (by omega) st' kp' (by unfold argBest; rw [hb]; exact pb) hS' fun u h2 tk2 pu k2 => fin u h2 tk2 pu k2⟩
end
section
variable {prog : Program} {w : World} {A : Around} {E : Value → Shared → Prop} {s : Shared}
/-- min of a walk -/
theorem min_over {x : Value} {Q : Value → Shared → Prop} {n : Nat} {P : Nat → Value → Prop} {bt : Nat → Nat → Bool} (n0 : 0 < n) (cmp : ∀ i j vi vj (s2 : Shared), KeepH s.heap s2.heap → P i vi → P j vj → Ob.RcOp .Lt A.in1 s2 vi vj (bt i j))
    (h : wpAny (model prog w) A.in1 (pyIter x) (fun it s2 => ∃ I fp wr St, it = .ref I ∧ Walks prog w A.in1 I fp wr n P St ∧ St 0 s2.heap ∧ (∀ b ∈ fp, b < s2.heap.objs.size) ∧ (∀ b ∈ wr, s.heap.get? b = none) ∧ KeepH s.heap s2.heap ∧ s.heap.objs.size ≤ s2.heap.objs.size ∧
      ∀ v h' tk, P (argBest bt (n - 1)) v → KeepH s.heap h' → Q v { s2 with heap := h', toks := tk }) E s) : wpAny (model prog w) A (call (.builtin "min") [x]) Q E s := by
  have nm : (toString "min" ++ toString ".loop" : String) = "min.loop" := by decide
  refine call_function_tree F.kind_min F.plain_min F.entry_min (F.args_min1 _) ?_
  refine wpAny_bind (wpAny_of_eq (show Builtin.Builtins.bindParams "min" ["key", "default"] 0 ⟨[], []⟩ = pure [none, none] from rfl) (wpAny_bind (wpAny_pure (wpAny_bind (wpAny_mono h (fun it s2 q => ?_) fun _ _ e => e)))))
  obtain ⟨I, fp, wr, St, rfl, W, st, inF, old, kp, sz, fin⟩ := q
  refine wpAny_bind (wpAny_newObj_type ?_); rw [nm]
  have out : s2.heap.objs.size ∉ fp := fun m => Nat.lt_irrefl _ (inF _ m)
  have outW : s2.heap.objs.size ∉ wr := fun m => out (W.sub _ m)
  have oldS : s.heap.get? s2.heap.objs.size = none := by
    cases z : s.heap.get? s2.heap.objs.size with
    | none => rfl
    | some o => exact absurd (Nat.lt_of_lt_of_le (Heap.lt_size z) sz) (Nat.lt_irrefl _)
  refine wpAny_pure ⟨plainId_quiet F.plain_min_loop _, ?_⟩
  refine codeAny_builtin F.entry_min_loop ?_; rw [Around.under_plainId F.plain_min_loop _]
  have hS : (s2.heap.push { cls := .type "list", data := .seq #[] }).get? s2.heap.objs.size = some { cls := .type "list", data := .seq #[] } := Heap.get?_push_size _ rfl
  have kp1 : KeepH s.heap (s2.heap.push { cls := .type "list", data := .seq #[] }) := fun c o e => Heap.get?_push_of_some _ (kp c o e)
  refine wpAny_bind (wpAny_seqItems hS rfl (wpAny_bind (wpAny_tryCatch (W.item 0 { s2 with heap := s2.heap.push { cls := .type "list", data := .seq #[] } } _ _ n0 (W.frame _ _ _ st fun b _ o e => Heap.get?_push_of_some _ e) fun v h' tk pv st' k' => ?_))))
  have hS' := k' _ _ outW hS
  refine wpAny_bind (wpAny_pure ?_)
  show wpAny _ _ (updateSeq s2.heap.objs.size (fun _ => #[v, v]) >>= _) _ _ _
  refine wpAny_bind (wpAny_updateSeq hS' rfl ?_); rw [nm]
  refine wpAny_pure ⟨plainId_quiet F.plain_min_loop _, min_rounds (h0 := s.heap) W cmp out old oldS (n - 1) 0 _ v _ (by omega) (W.frame _ _ _ st' fun b m o e => (Heap.get?_update_other _ _ (fun z => out (by rw [z]; exact m))).trans e) (keep_at oldS (keep_walk old kp1 k')) pv (Heap.get?_update_self _ hS' rfl) fun u h2 tk2 pu k2 => fin u h2 tk2 pu k2⟩
/-- the walk over a dict's keys, as they stand -/
theorem walks_keys (hh : A.handled = none) {I d : Addr} (ne : d ≠ I) {od : Obj} {es : Array DictEntry} {ep : Nat} (hd : od.data = .dict es ep) :
    Walks prog w A I [I, d] [I] es.size (fun i v => ∃ en, es[i]? = some en ∧ v = en.key) (fun i h => h.IsKeyIter I d i es.size ep ∧ h.get? d = some od) where
  sub := fun b m => by rw [List.mem_singleton.mp m]; exact List.mem_cons_self
  frame := fun i h h' st k => ⟨st.1.at fun o e => k I List.mem_cons_self o e, k d (List.mem_cons_of_mem _ List.mem_cons_self) _ st.2⟩
  item := fun i s Q E lt st q => next_key_item st.1 st.2 hd rfl (Array.getElem?_eq_getElem lt) fun h' st' sb => q _ h' s.toks ⟨_, Array.getElem?_eq_getElem lt, rfl⟩ ⟨st', (sb.2 d ne).trans st.2⟩ fun b o m e => (sb.2 b fun z => m (by rw [z]; exact List.mem_cons_self)).trans e
  done := fun s Q E st q => next_key_end hh st.1 st.2 hd rfl (Nat.le_refl _) fun h' x => q h' s.toks fun b o m e => x b o (fun z => m (by rw [z]; exact List.mem_cons_self)) e
  self := fun i s Q E st q => wpAny_pyIter_keyiter st.1 q
end
/-- t < u of two tracked tuples, in any state that keeps what stood -/
theorem tup_less {X : Cx} {s s2 : Shared} {pins : List (Addr × Obj)} {σ : L2.St} {H : Hp} {a b : Addr} {ns ms : List Int} (I : L2.Inv X pins σ H s) (ha : H a = some (.tup (ns.map V.int))) (hb : H b = some (.tup (ms.map V.int))) (hu : X.A.units + 1 < cLine) (kp : KeepH s.heap s2.heap) :
    Ob.RcOp .Lt X.A.in1 s2 (.ref a) (.ref b) (lexP (fun x y => decide (x < y)) (decide (ns.length < ms.length)) ns ms) := by
  obtain ⟨us, r1, ⟨o1, g1, c1, n1, d1⟩, _⟩ := I.tuple (SqT.of ha)
  obtain ⟨vs, r2, ⟨o2, g2, c2, n2, d2⟩, _⟩ := I.tuple (SqT.of hb)
  have i1 : IntsAre us ns := Vals.ints r1
  have i2 : IntsAre vs ms := Vals.ints r2
  have at1 : ∀ j (h1 : j < us.toArray.size), ∃ t, us.toArray[j] = .int (ns.getD j 0) t := fun j h1 => IntsAre.int_at i1 _ _ (by simp at h1; simp [h1])
  have at2 : ∀ j (h1 : j < vs.toArray.size), ∃ t, vs.toArray[j] = .int (ms.getD j 0) t := fun j h1 => IntsAre.int_at i2 _ _ (by simp at h1; simp [h1])
  have R := Ob.RcOp.tuples_lt (A := X.A.in1) (s := s2) (e := fun j => decide (ns.getD j 0 = ms.getD j 0)) (r := fun j => decide (ns.getD j 0 < ms.getD j 0)) ⟨o1, kp _ _ g1, c1, n1, d1⟩ ⟨o2, kp _ _ g2, c2, n2, d2⟩ hu (fun j h1 h2 => by
    obtain ⟨t, et⟩ := at1 j h1
    obtain ⟨u, eu⟩ := at2 j h2
    rw [et, eu, ← Bool.beq_eq_decide_eq]
    exact SeqAt.EqAt.int_int _ _ _ _) (fun j h1 h2 _ => by
    obtain ⟨t, et⟩ := at1 j h1
    obtain ⟨u, eu⟩ := at2 j h2
    rw [et, eu]
    exact Ob.RcOp.lt_int _ _ _ _)
  rw [List.size_toArray, List.size_toArray, i1.length, i2.length] at R
  exact R
/-! the order of pairs -/
def lexLe (p q : Int × Int) : Prop := p.1 < q.1 ∨ (p.1 = q.1 ∧ p.2 ≤ q.2)
instance (p q : Int × Int) : Decidable (lexLe p q) := by unfold lexLe; infer_instance
theorem lexLe.trans {p q r : Int × Int} (a : lexLe p q) (b : lexLe q r) : lexLe p r := by unfold lexLe at *; omega
theorem lexLe.refl (p : Int × Int) : lexLe p p := .inr ⟨rfl, Int.le_refl _⟩
theorem lexLe.total (p q : Int × Int) : lexLe p q ∨ lexLe q p := by unfold lexLe; omega
theorem lexLe.anti {p q : Int × Int} (a : lexLe p q) (b : lexLe q p) : p = q := by
  unfold lexLe at *
  exact Prod.ext (by omega) (by omega)
theorem lexP_pair (p q : Int × Int) : lexP (fun x y => decide (x < y)) (decide ((2 : Nat) < 2)) [p.1, p.2] [q.1, q.2] = decide (¬ lexLe q p) := by
  show (if decide (p.1 = q.1) = true then (if decide (p.2 = q.2) = true then decide ((2 : Nat) < 2) else decide (p.2 < q.2)) else decide (p.1 < q.1)) = _
  unfold lexLe
  by_cases a : p.1 = q.1
  · rw [if_pos (decide_eq_true a)]
    by_cases b : p.2 = q.2
    · rw [if_pos (decide_eq_true b), decide_eq_false (by omega), decide_eq_false (by omega)]
    · rw [if_neg (by simpa using b)]
      by_cases c : p.2 < q.2
      · rw [decide_eq_true c, decide_eq_true (by omega)]
      · rw [decide_eq_false c, decide_eq_false (by omega)]
  · rw [if_neg (by simpa using a)]
    by_cases c : p.1 < q.1
    · rw [decide_eq_true c, decide_eq_true (by omega)]
    · rw [decide_eq_false c, decide_eq_false (by omega)]
theorem argBest_le (f : Nat → Int × Int) : ∀ k, argBest (fun i j => decide (¬ lexLe (f j) (f i))) k ≤ k ∧ ∀ i, i ≤ k → lexLe (f (argBest (fun i j => decide (¬ lexLe (f j) (f i))) k)) (f i)
  | 0 => ⟨Nat.le_refl _, fun i h => by rw [Nat.le_zero.mp h]; exact lexLe.refl _⟩
  | k + 1 => by
    obtain ⟨h1, h2⟩ := argBest_le f k
    unfold argBest
    by_cases c : lexLe (f (argBest (fun i j => decide (¬ lexLe (f j) (f i))) k)) (f (k + 1))
    · rw [if_neg (by simpa using c)]
      refine ⟨by omega, fun i hi => ?_⟩
      by_cases e : i = k + 1
      · rw [e]; exact c
      · exact h2 i (by omega)
    · rw [if_pos (by simpa using c)]
      refine ⟨Nat.le_refl _, fun i hi => ?_⟩
      by_cases e : i = k + 1
      · rw [e]; exact lexLe.refl _
      · rcases lexLe.total (f (argBest (fun i j => decide (¬ lexLe (f j) (f i))) k)) (f (k + 1)) with z | z
        · exact absurd z c
        · exact z.trans (h2 i (by omega))
section
variable {X : Cx}
/-- a key of two ints -/
def k2 (p : Int × Int) : List L2.Key := [Sum.inl p.1, Sum.inl p.2]
def rMinT : List V → Hp → VK → Prop := fun vs H Q => ∃ (a : Addr) (kvs : List (List L2.Key × V)) (ps : List (Int × Int)), vs = [V.ref a] ∧ H a = some (.dT kvs) ∧ kvs.map (·.1) = ps.map k2 ∧ ps ≠ [] ∧
  ∀ (q : Addr) (p : Int × Int), p ∈ ps → (∀ p' ∈ ps, lexLe p p') → H q = some (.tup [.int p.1, .int p.2]) → Q (.ref q) H
theorem cr_minT (hc : X.calm = true) (hu : X.A.units + 1 < cLine) : CallR X (.builtin "min") rMinT := by
  intro pins s σ H vs us Q I r h
  obtain ⟨a, kvs, ps, rfl, ha, hk, hne, q⟩ := h
  rw [Vals.ref1 r]
  obtain ⟨_, hsys, xs, rel, o, es, ep, ho, hx, hd, he, _⟩ := dt_of I.hok ha
  have hes : es.size = ps.length := by
    have e1 := congrArg List.length he
    have e2 := Paired.length rel
    have e3 := congrArg List.length hk
    rw [List.length_map] at e1
    rw [List.length_map, List.length_map] at e3
    rw [Array.length_toList] at e1
    omega
  have ent : ∀ (i : Nat) (v : Value), (∃ en, es[i]? = some en ∧ v = en.key) → ∃ b, v = .ref b ∧ i < ps.length ∧ H b = some (.tup [.int (ps.getD i (0, 0)).1, .int (ps.getD i (0, 0)).2]) := by
    rintro i v ⟨en, e1, rfl⟩
    have lt : i < ps.length := by
      rw [← hes]
      exact (Array.getElem?_eq_some_iff.mp e1).1
    have lk : i < kvs.length := by
      have e3 := congrArg List.length hk
      rw [List.length_map, List.length_map] at e3
      omega
    obtain ⟨b, hb, e4, e5, _⟩ := paired_get rel (List.getElem?_eq_getElem lk)
    have z := entry_at he i
    rw [hb] at z
    have z2 : es[i]? = some (entryOfKey (tupleKind (mixKind X.prog X.w)) b) := z
    rw [e1] at z2
    have z3 := Option.some.inj z2
    have ek : kvs[i].1 = k2 (ps.getD i (0, 0)) := by
      have w := congrArg (fun l => l[i]?) hk
      simp only [List.getElem?_map, List.getElem?_eq_getElem lk, List.getElem?_eq_getElem lt, Option.map_some] at w
      rw [Option.some.inj w, List.getD_eq_getElem?_getD, List.getElem?_eq_getElem lt]
      rfl
    refine ⟨b.2.1, by rw [z3]; rfl, lt, ?_⟩
    rw [e5, ek]
    rfl
  have n0 : 0 < es.size := by
    rw [hes]
    exact List.length_pos_iff.mpr hne
  refine min_over (n := es.size) (P := fun i v => ∃ en, es[i]? = some en ∧ v = en.key) (bt := fun i j => decide (¬ lexLe (ps.getD j (0, 0)) (ps.getD i (0, 0)))) n0 (fun i j vi vj s2 kp pi pj => ?_) (iter_keys hsys ho hx hd ?_)
  · obtain ⟨b, rfl, _, hb⟩ := ent i vi pi
    obtain ⟨c, rfl, _, hc'⟩ := ent j vj pj
    have z := (tup_less (ns := [(ps.getD i (0, 0)).1, (ps.getD i (0, 0)).2]) (ms := [(ps.getD j (0, 0)).1, (ps.getD j (0, 0)).2]) I hb hc' hu kp)
    have e2 : lexP (fun x y => decide (x < y)) (decide ([(ps.getD i (0, 0)).1, (ps.getD i (0, 0)).2].length < [(ps.getD j (0, 0)).1, (ps.getD j (0, 0)).2].length)) [(ps.getD i (0, 0)).1, (ps.getD i (0, 0)).2] [(ps.getD j (0, 0)).1, (ps.getD j (0, 0)).2] = decide (¬ lexLe (ps.getD j (0, 0)) (ps.getD i (0, 0))) := lexP_pair _ _
    rw [e2] at z
    exact z
  · have lt := Heap.lt_size ho
    refine ⟨s.heap.objs.size, _, _, _, rfl, walks_keys (prog := X.prog) (w := X.w) (A := X.A.in1) (I.ok.hd hc) (Nat.ne_of_lt lt) hd, ⟨⟨_, Heap.get?_push_size _ rfl, rfl, rfl⟩, Heap.get?_push_of_some _ ho⟩, fun b m => ?_, fun b m => ?_, fun c o e => Heap.get?_push_of_some _ e, ?_, fun v h' tk pv kp => ?_⟩
    · show b < (s.heap.push _).objs.size
      rw [Heap.size_push]
      rcases List.mem_cons.mp m with e | m
      · rw [e]; exact Nat.lt_succ_self _
      · rw [List.mem_singleton.mp m]; exact Nat.lt_succ_of_lt lt
    · rw [List.mem_singleton.mp m]
      cases z : s.heap.get? s.heap.objs.size with
      | none => rfl
      | some o => exact absurd (Heap.lt_size z) (Nat.lt_irrefl _)
    · show _ ≤ (s.heap.push _).objs.size
      rw [Heap.size_push]
      omega
    · obtain ⟨b, rfl, lt2, hb⟩ := ent _ v pv
      obtain ⟨b1, b2⟩ := argBest_le (fun i => ps.getD i (0, 0)) (es.size - 1)
      have at_ : ∀ i, i < ps.length → ps.getD i (0, 0) ∈ ps := fun i hi => by
        rw [List.getD_eq_getElem?_getD, List.getElem?_eq_getElem hi]
        exact List.getElem_mem hi
      refine ⟨.ref b, H, I.kept (t' := tk) fun c o e => kp c o e, rfl, q b _ (at_ _ lt2) (fun p' m => ?_) hb⟩
      obtain ⟨i, hi, e⟩ := List.mem_iff_getElem.mp m
      have e2 : ps.getD i (0, 0) = p' := by rw [List.getD_eq_getElem?_getD, List.getElem?_eq_getElem hi, ← e]; rfl
      rw [← e2]
      exact b2 i (by omega)
end
end Nc

/-! Own rules: d.setdefault(t, x) of a dict with tuples as keys; len(s) of a set of tuples. -/
namespace Nc
open PySem PySem.Spec PyProof.Rows L2
section
variable {X : Cx} {pins : List (Addr × Obj)} {σ : L2.St} {H : Hp} {s : Shared} {a b : Addr} {r : Value} {z : V} {ks : List L2.Key} {A : Around} {E : Value → Shared → Prop}
theorem setd_tup {kvs : List (List L2.Key × V)} {Q : Value → Shared → Prop} (hu : A.units + 1 < cLine) (I : L2.Inv X pins σ H s) (e : H a = some (.dT kvs)) (eb : H b = some (.tup (ks.map kV))) (rz : RelV z r) (room : kvs.length < sizeLine)
    (old : ∀ v, valV kvs ks = some v → ∀ w' s', L2.Inv X pins σ H s' → RelV v w' → Q w' s') (new : valV kvs ks = none → ∀ s', L2.Inv X pins σ (upd H a (.dT (putK kvs ks z))) s' → Q r s') :
    wpAny (model X.prog X.w) A (call (.builtin "dict.setdefault") [.ref a, .ref b, r]) Q E s := by
  obtain ⟨len, sys, xs, rel, dd⟩ := dt_of I.hok e
  have lx : xs.length ≤ sizeLine := by rw [← Paired.length rel]; exact len
  refine call_setdefault_heap (hsz := lx) (knd := tupleKind (mixKind X.prog X.w)) (tupleKind_room_in1 hu) (key_of I.hok eb) sys dd (fun p hp => ?_) fun hn h' dd' hs => ?_
  · have q := rel.val ks
    rw [hp] at q
    cases ev : valV kvs ks with
    | none => rw [ev] at q; exact (show False from q).elim
    | some v => rw [ev] at q; exact old v ev _ _ (I.tok _) q
  · have q := rel.val ks
    rw [hn] at q
    have ev : valV kvs ks = none := by
      cases ev : valV kvs ks with
      | none => rfl
      | some v => rw [ev] at q; exact (show False from q).elim
    have l2 : (putK kvs ks z).length ≤ sizeLine := Nat.le_trans (length_putK kvs ks z) room
    obtain ⟨o, es, ep, ho, c1, c2, c3, _, c4⟩ := dd'
    refine new ev _ (d_write I (by rw [e]; exact True.intro) hs ⟨o, ho⟩ ⟨l2, sys, _, (rel.put ks eb rz).keeps fun c ys ec => ?_, o, es, ep, ho, c1, c2, c3, c4⟩)
    rw [upd_ne (ne_of ec e (fun z => nomatch z))]; exact ec
end
/-- d.setdefault(t, x) -/
def tDSetdT (td ty tx : TE) : TE := fun σ H Q => td σ H fun x H1 => ∃ a, x = .ref a ∧ IsD H1 a ∧ ty σ H1 fun y H2 => tx σ H2 fun z H3 => ∃ (kvs : List (List L2.Key × V)) (ks : List L2.Key) (b : Addr), H3 a = some (.dT kvs) ∧ y = .ref b ∧ H3 b = some (.tup (ks.map kV)) ∧ kvs.length < sizeLine ∧
  (∀ v, valV kvs ks = some v → Q v H3) ∧ (valV kvs ks = none → Q z (upd H3 a (.dT (putK kvs ks z))))
theorem pe_dsetdT {X : Cx} {o e f : Expr} {td ty tx : TE} {apos cpos : Pos} (hu : X.A.units + 1 < cLine) (ho : PE X o td) (he : PE X e ty) (hf : PE X f tx) (m : M2 X o "setdefault" apos e f cpos) : PE X (.Call (.Attribute o "setdefault" apos) [e, f] [] cpos) (tDSetdT td ty tx) := by
  constructor
  intro pins s σ H Q I h
  refine wpAny_Call_method m.base m.few m.line PySem.F.plainAttrs_dict PySem.F.slot_dict_setdefault PySem.F.type_dict_setdefault (thn (ho.run pins s σ H _ I h) ?_)
  rintro u s1 ⟨x, H1, I1, rx, a, rfl, d, q1⟩
  cases rx
  obtain ⟨t1, t2, _⟩ := isD_at I1 d
  refine ⟨t1, t2, ?_⟩; rw [m.trees]
  refine Calls.callWith_builtin rfl (Calls.evalArgs_plain (Calls.spliced_cons (thn (he.run pins s1 σ H1 _ I1 q1) ?_)))
  rintro iv s2 ⟨y, H2, I2, ry, q2⟩
  refine Calls.spliced_cons (thn (hf.run pins s2 σ H2 _ I2 q2) ?_)
  rintro fv s3 ⟨z, H3, I3, rz, kvs, ks, b, ea, rfl, eb, room, q3, q4⟩
  cases ry
  exact Calls.spliced_nil (setd_tup hu I3 ea eb rz room (fun v hv w' s4 I4 rw' => ⟨v, _, I4, rw', q3 v hv⟩) fun hn s4 I4 => ⟨z, _, I4, rz, q4 hn⟩)
/-- len(s), s a set of tuples -/
def rLenT2 (P : Program) (w : World) : List V → Hp → VK → Prop := fun vs H Q => ∃ (a : Addr) (L : List (Addr × List Int)), vs = [.ref a] ∧ H a = some (SetTO P w a L) ∧ Q (.int (L.length : Nat)) H
theorem call_len_setT {X : Cx} : CallR X (.builtin "len") (rLenT2 X.prog X.w) := by
  intro pins s σ H xs us Q I r h
  obtain ⟨a, L, rfl, ha, q⟩ := h
  rw [Vals.ref1 r]
  have R0 : SetT0 X.prog X.w s.heap a L := (I.hok a _ ha).1
  obtain ⟨es, ep, t, ⟨o, ho, hex, hd⟩, rows, tab, _, _, _, room, few⟩ := R0.ex
  have sz : es.size = L.length := by
    have h := congrArg List.length rows
    unfold rowsOf at h
    rw [Array.length_toList, List.length_map] at h
    exact h
  have fits : t.fits es.size = true := by
    have h1 := tab.sz
    rw [List.length_map] at h1
    unfold SetTable.fits SetTable.fill
    rw [tab.dm, Bool.and_eq_true, beq_iff_eq, decide_eq_true_eq]
    show t.place.size = es.size ∧ t.place.size + 0 ≤ t.mask
    omega
  refine call_len_set ho hex hd fits (by omega) ?_
  rw [sz]
  exact ⟨.int (L.length : Nat), H, I.tok _, ⟨_, rfl⟩, q⟩
end Nc

/-! Own rules: readings with heaps that are told by what is true of them alone; walks over enumerate; sorted sites. -/
namespace Nc
open PySem PySem.Spec PyProof.Rows L2
section
variable {X : Cx}
def tTupG (t : TA) : TE := fun σ H Q => t σ H fun vs H1 => vs.length ≤ sizeLine ∧ ∀ p H2, Same H1 H2 → H1 p = none → H2 p = some (.tup vs) → Q (.ref p) H2
def tLstG (t : TA) : TE := fun σ H Q => t σ H fun vs H1 => vs.length ≤ sizeLine ∧ ∀ p H2, Same H1 H2 → H1 p = none → H2 p = some (.lst vs) → Q (.ref p) H2
def tDicG : TE := fun _ H Q => ∀ p H2, Same H H2 → H p = none → H2 p = some (.dK []) → Q (.ref p) H2
theorem pe_tupG {es : List Expr} {k : Nat} {pos : Pos} {t : TA} (h : PA X es t) : PE X (.Tuple es k pos) (tTupG t) := ⟨fun pins s σ H Q I w => by
  have step := h.run pos pins s σ H _ I w
  refine wpAny_Tuple_spliced (thn step fun us s1 got => ?_)
  rcases got with ⟨vs, H1, I1, rv, len, q⟩
  refine ⟨rv.length ▸ len, ?_⟩
  have free : H1 s1.heap.objs.size = none := I1.hok.fresh (Nat.le_refl _)
  have new : ObjOk X.prog X.w (upd H1 s1.heap.objs.size (.tup vs)) (s1.heap.push { cls := .type "tuple", data := .seq us.toArray }) s1.heap.objs.size (.tup vs) := ⟨len, us, rv, _, Heap.get?_push_size _ rfl, rfl, _, rfl⟩
  exact ⟨.ref _, _, I1.laid (t' := s1.toks) (fun _ _ e => Heap.get?_push_of_some _ e) (Nat.le_refl _) new, rfl, q _ _ (Same.upd free) free upd_same⟩⟩
theorem pe_lstG {es : List Expr} {pos : Pos} {t : TA} (h : PA X es t) : PE X (.List es pos) (tLstG t) := ⟨fun pins s σ H Q I w => by
  have step := h.run pos pins s σ H _ I w
  refine wpAny_List_spliced (thn step fun us s1 got => ?_)
  rcases got with ⟨vs, H1, I1, rv, len, q⟩
  refine ⟨rv.length ▸ len, ?_⟩
  have free : H1 s1.heap.objs.size = none := I1.hok.fresh (Nat.le_refl _)
  have new : ObjOk X.prog X.w (upd H1 s1.heap.objs.size (.lst vs)) (s1.heap.push { cls := .type "list", data := .seq us.toArray 0 }) s1.heap.objs.size (.lst vs) := ⟨len, us, 0, rv, Heap.get?_push_size _ rfl⟩
  exact ⟨.ref _, _, I1.laid (t' := s1.toks) (fun _ _ e => Heap.get?_push_of_some _ e) (Nat.le_refl _) new, rfl, q _ _ (Same.upd free) free upd_same⟩⟩
theorem pe_dicG {pos : Pos} : PE X (.Dict [] [] pos) tDicG := peOf pe_dnewK fun σ H Q q p np => q p _ (Same.upd np) np upd_same
def rCatG : R2 := fun x y H Q => ∃ l b xs zs, x = .ref l ∧ y = .ref b ∧ H l = some (.lst xs) ∧ H b = some (.lst zs) ∧ xs.length + zs.length ≤ sizeLine ∧ ∀ p H2, Same H H2 → H p = none → H2 p = some (.lst (xs ++ zs)) → Q (.ref p) H2
theorem op_catG : OpR X (binaryOp .Add) rCatG := fun pins s σ H x y v u Q I rx ry w => by
  rcases w with ⟨l, b, xs, zs, e1, e2, h1, h2, z, q⟩
  exact op_cat pins s σ H x y v u Q I rx ry ⟨l, b, xs, zs, e1, e2, h1, h2, z, fun p np => q p _ (Same.upd np) np upd_same⟩
def tDnTG : TE := fun _ H Q => ∀ p H2, Same H H2 → H p = none → H2 p = some (.dT []) → Q (.ref p) H2
theorem pe_dnTG {pos : Pos} : PE X (.Dict [] [] pos) tDnTG := peOf pe_dnewT fun σ H Q q p np => q p _ (Same.upd np) np upd_same
def unref : V → Addr
  | .ref t => t
  | _ => 0
theorem unref_map : ∀ {ys : List V}, (∀ y ∈ ys, ∃ t, y = V.ref t) → ys = (ys.map unref).map V.ref
  | [], _ => rfl
  | y :: ys, h => by
    obtain ⟨t, rfl⟩ := h y List.mem_cons_self
    rw [List.map_cons, List.map_cons, ← unref_map fun z m => h z (List.mem_cons_of_mem _ m)]
    rfl
/-- sorted(xs), xs a list of pairs of ints, f the ints at each address -/
def rSortS (K : PySem.W.Frag) : List V → Hp → VK → Prop := fun vs H Q => ∃ (a : Addr) (ts : List Addr) (f : Addr → Int × Int), vs = [V.ref a] ∧ SqL K H a (ts.map V.ref) ∧ (∀ t ∈ ts, H t = some (.tup [.int (f t).1, .int (f t).2])) ∧
  ∀ (us : List Addr) (p : Addr) (H2 : Hp), us.Perm ts → us.Pairwise (fun a b => lexLe (f a) (f b)) → Same H H2 → H p = none → H2 p = some (.lst (us.map V.ref)) → Q (.ref p) H2
theorem cr_sortS : CallR X (.builtin "sorted") (rSortS X.K) := by
  intro pins s σ H vs us Q I r h
  obtain ⟨a, ts, f, rfl, hl, hk, q⟩ := h
  refine cr_sortedPO pins s σ H _ us Q I r ⟨a, ts.map V.ref, fun v => f (unref v), rfl, hl, fun x m => ?_, fun ys p so st np => ?_⟩
  · obtain ⟨t, mt, rfl⟩ := List.mem_map.mp m
    exact ⟨t, rfl, hk t mt⟩
  · have pm := st.perm
    have er : ys = (ys.map unref).map V.ref := unref_map fun y m => by
      obtain ⟨t, _, e⟩ := List.mem_map.mp (pm.mem_iff.mp m)
      exact ⟨t, e.symm⟩
    refine q (ys.map unref) p _ ?_ ?_ (Same.upd np) np (by rw [← er]; exact upd_same)
    · have z := pm.map unref
      rw [List.map_map, show (unref ∘ V.ref) = id from funext fun _ => rfl, List.map_id] at z
      exact z
    · rw [List.pairwise_map]
      refine List.Pairwise.imp_of_mem (fun {x y} mx my h => ?_) so
      have w := SrtO.lexB_no.mp h
      unfold lexLe
      dsimp only at w
      omega
/-- xs[a:b], a new list -/
def rSlG (K : PySem.W.Frag) : V → Option Int → Option Int → Hp → VK → Prop := fun x lo hi H Q => ∃ a xs, x = .ref a ∧ SqL K H a xs ∧ ∀ p H2, Same H H2 → H p = none → H2 p = some (.lst (cutV xs lo hi)) → Q (.ref p) H2
theorem sl_listG : SlR X (rSlG X.K) := fun pins s σ H x v vl vu lo hi sl Q I rx hs pl pu h => by
  rcases h with ⟨a, xs, e1, e2, q⟩
  exact sl_list pins s σ H x v vl vu lo hi sl Q I rx hs pl pu ⟨a, xs, e1, e2, fun p np => q p _ (Same.upd np) np upd_same⟩
end
theorem for_enumG {K : PySem.W.Frag} {a : Addr} {xs : List V} {g : TG} {tb : TS} {D : Ends} {σ : L2.St} {H : Hp} (Pv : Nat → L2.St → Hp → Prop) (start : Pv 0 σ H) (held : ∀ i σ H, i ≤ xs.length → Pv i σ H → SqL K H a xs)
    (turn : ∀ i x σ H, xs[i]? = some x → Pv i σ H → ∀ T H', Same H H' → H T = none → H' T = some (.tup [.int (i : Nat), x]) → g (.ref T) σ H' fun σ2 H2 => tb { D with nx := Pv (i + 1), ct := Pv (i + 1), bk := D.nx } σ2 H2) (done : ∀ σ H, Pv xs.length σ H → D.nx σ H) :
    ∃ W : Nat → Nat → L2.St → Hp → Prop, (∃ m, W 0 m σ H) ∧ ∀ i m σ H, W i m σ H → ((Ite K a).stop i H ∧ D.nx σ H) ∨ ((Ite K a).go i H ∧ ∃ N : L2.St → Hp → Prop, (∀ σ' H', N σ' H' → ∃ m', m' < m ∧ W (i + 1) m' σ' H') ∧ ∀ x H', (Ite K a).yld i H x H' → g x σ H' fun σ2 H2 => tb { D with nx := N, ct := N, bk := D.nx } σ2 H2) := by
  refine ⟨fun i m σ H => m = xs.length - i ∧ i ≤ xs.length ∧ Pv i σ H, ⟨_, rfl, Nat.zero_le _, start⟩, fun i m σ H w => ?_⟩
  obtain ⟨rfl, le, p⟩ := w
  have seq := held i σ H le p
  by_cases lt : i < xs.length
  · refine .inr ⟨⟨xs, xs[i], seq, List.getElem?_eq_getElem lt⟩, Pv (i + 1), fun σ' H' p' => ⟨_, by omega, rfl, lt, p'⟩, fun y H' yl => ?_⟩
    obtain ⟨T, x, rfl, free, rfl, at_⟩ := yl
    exact turn i x σ H (at_ xs seq) p T _ (Same.upd free) free upd_same
  · have e : i = xs.length := by omega
    subst e
    exact .inl ⟨⟨xs, seq, Nat.le_refl _⟩, done σ H p⟩
theorem lc_enumG {K : PySem.W.Frag} {a : Addr} {xs : List V} {g : TG} {tt : TT} {te : TE} {vs : List Nat} {σ : L2.St} {H1 : Hp} {D : Addr} {Qd : Hp → Prop} (Pv : Nat → Hp → Prop) (start : Pv 0 (upd H1 D (.lst []))) (held : ∀ i H, i ≤ xs.length → Pv i H → SqL K H a xs)
    (turn : ∀ i x H, xs[i]? = some x → Pv i H → ∀ T H', Same H H' → H T = none → H' T = some (.tup [.int (i : Nat), x]) → g (.ref T) (wipe σ vs) H' fun σ2 H2 => wipe σ2 vs = wipe σ vs ∧ tt σ2 H2 fun b H3 =>
      if b = true then te σ2 H3 fun y H4 => ∃ acc, H4 D = some (.lst acc) ∧ acc.length < sizeLine ∧ Pv (i + 1) (upd H4 D (.lst (acc ++ [y]))) else Pv (i + 1) H3) (done : ∀ H, Pv xs.length H → Qd H) :
    ∃ W : Nat → Nat → Hp → Prop, (∃ m, W 0 m (upd H1 D (.lst []))) ∧ ∀ i m H, W i m H → ((Ite K a).stop i H ∧ Qd H) ∨ ((Ite K a).go i H ∧ ∃ Nx : Hp → Prop, (∀ H', Nx H' → ∃ m', m' < m ∧ W (i + 1) m' H') ∧ ∀ x H', (Ite K a).yld i H x H' → g x (wipe σ vs) H' fun σ2 H2 => wipe σ2 vs = wipe σ vs ∧ tt σ2 H2 fun b H3 =>
        if b = true then te σ2 H3 fun y H4 => ∃ acc, H4 D = some (.lst acc) ∧ acc.length < sizeLine ∧ Nx (upd H4 D (.lst (acc ++ [y]))) else Nx H3) := by
  refine ⟨fun i m H => m = xs.length - i ∧ i ≤ xs.length ∧ Pv i H, ⟨_, rfl, Nat.zero_le _, start⟩, fun i m H w => ?_⟩
  obtain ⟨rfl, le, p⟩ := w
  have seq := held i H le p
  by_cases lt : i < xs.length
  · refine .inr ⟨⟨xs, xs[i], seq, List.getElem?_eq_getElem lt⟩, Pv (i + 1), fun H' p' => ⟨_, by omega, rfl, lt, p'⟩, fun y H' yl => ?_⟩
    obtain ⟨T, x, rfl, free, rfl, at_⟩ := yl
    exact turn i x H (at_ xs seq) p T _ (Same.upd free) free upd_same
  · have e : i = xs.length := by omega
    subst e
    exact .inl ⟨⟨xs, seq, Nat.le_refl _⟩, done H p⟩
end Nc

/-! Own rules: the readings of comprehensions with two for. -/
namespace Nc
open PySem PySem.Spec PyProof.Rows L2
section
variable {J : It} {n : Nat} {G : Hp → Prop} {Y : Nat → Hp → V → Hp → Prop}
theorem lc2_out (w : Walk J n G Y) {g : TG} {tt : TT} {B : L2.St → Hp → (Hp → Prop) → Prop} {vs : List Nat} {σ : L2.St} {H1 : Hp} {D : Addr} {Qd : Hp → Prop} (Pv : Nat → Hp → Prop) (start : Pv 0 (upd H1 D (.lst []))) (held : ∀ i H, i ≤ n → Pv i H → G H)
    (turn : ∀ i x H H', i < n → Pv i H → Y i H x H' → g x (wipe σ vs) H' fun σ2 H2 => wipe σ2 vs = wipe σ vs ∧ tt σ2 H2 fun b H3 => if b = true then B σ2 H3 (Pv (i + 1)) else Pv (i + 1) H3) (done : ∀ H, Pv n H → Qd H) :
    ∃ W : Nat → Nat → Hp → Prop, (∃ m, W 0 m (upd H1 D (.lst []))) ∧ ∀ i m H, W i m H → (J.stop i H ∧ Qd H) ∨ (J.go i H ∧ ∃ N : Hp → Prop, (∀ H', N H' → ∃ m', m' < m ∧ W (i + 1) m' H') ∧ ∀ x H', J.yld i H x H' → g x (wipe σ vs) H' fun σ2 H2 => wipe σ2 vs = wipe σ vs ∧ tt σ2 H2 fun b H3 => if b = true then B σ2 H3 N else N H3) := by
  refine ⟨fun i m H => m + i = n ∧ Pv i H, ⟨n, rfl, start⟩, fun i m H w' => ?_⟩
  have le : i ≤ n := by omega
  have g0 := held i H le w'.2
  by_cases lt : i < n
  · exact .inr ⟨w.goes i H lt g0, Pv (i + 1), fun H' p => ⟨m - 1, by omega, by omega, p⟩, fun x H' y => turn i x H H' lt w'.2 (w.yields i H x H' lt g0 y)⟩
  · have e : i = n := by omega
    subst e
    exact .inl ⟨w.stops H g0, done H w'.2⟩
theorem lc2_in (w : Walk J n G Y) {g : TG} {tt : TT} {te : TE} {vs : List Nat} {σ2 : L2.St} {H4 : Hp} {D : Addr} {N : Hp → Prop} (Pw : Nat → Hp → Prop) (start : Pw 0 H4) (held : ∀ j H, j ≤ n → Pw j H → G H)
    (turn : ∀ j x H H', j < n → Pw j H → Y j H x H' → g x (wipe σ2 vs) H' fun σ3 H5 => wipe σ3 vs = wipe σ2 vs ∧ tt σ3 H5 fun b H6 => if b = true then te σ3 H6 fun y H7 => ∃ acc, H7 D = some (.lst acc) ∧ acc.length < sizeLine ∧ Pw (j + 1) (upd H7 D (.lst (acc ++ [y]))) else Pw (j + 1) H6) (done : ∀ H, Pw n H → N H) :
    ∃ W : Nat → Nat → Hp → Prop, (∃ m, W 0 m H4) ∧ ∀ j k H, W j k H → (J.stop j H ∧ N H) ∨ (J.go j H ∧ ∃ N1 : Hp → Prop, (∀ H', N1 H' → ∃ k', k' < k ∧ W (j + 1) k' H') ∧ ∀ x H', J.yld j H x H' → g x (wipe σ2 vs) H' fun σ3 H5 => wipe σ3 vs = wipe σ2 vs ∧ tt σ3 H5 fun b H6 =>
      if b = true then te σ3 H6 fun y H7 => ∃ acc, H7 D = some (.lst acc) ∧ acc.length < sizeLine ∧ N1 (upd H7 D (.lst (acc ++ [y]))) else N1 H6) := by
  refine ⟨fun j m H => m + j = n ∧ Pw j H, ⟨n, rfl, start⟩, fun j m H w' => ?_⟩
  have le : j ≤ n := by omega
  have g0 := held j H le w'.2
  by_cases lt : j < n
  · exact .inr ⟨w.goes j H lt g0, Pw (j + 1), fun H' p => ⟨m - 1, by omega, by omega, p⟩, fun x H' y => turn j x H H' lt w'.2 (w.yields j H x H' lt g0 y)⟩
  · have e : j = n := by omega
    subst e
    exact .inl ⟨w.stops H g0, done H w'.2⟩
end
end Nc

/-! Own rules: a written dict whose keys are tuples. -/
namespace Nc
open PySem PySem.Spec PyProof.Rows L2
abbrev Ent := List L2.Key × Addr × V
section
variable {X : Cx} {pins : List (Addr × Obj)} {σ : L2.St} {a : Addr} {A : Around} {E : Value → Shared → Prop}
/-- pair by pair into a dict of tuple keys -/
theorem store_tups (hu : A.units < cLine) : ∀ (es : List Ent) (vs : List (Value × Value)) (kvs : List (List L2.Key × V)) (s : Shared) (H : Hp) (Q : PUnit → Shared → Prop), L2.Inv X pins σ H s → H a = some (.dT kvs) → VV (es.map fun e => (V.ref e.2.1, e.2.2)) vs → (∀ e ∈ es, H e.2.1 = some (.tup (e.1.map kV))) → kvs.length + es.length ≤ sizeLine →
    (∀ s', L2.Inv X pins σ (upd H a (.dT (es.foldl (fun acc e => putK acc e.1 e.2.2) kvs))) s' → Q PUnit.unit s') → wpAny (model X.prog X.w) A (storeAll a vs) Q E s := by
  intro es
  induction es with
  | nil =>
    intro vs kvs s H Q I e rv _ _ q
    cases rv
    unfold storeAll
    rw [List.forIn_nil]
    refine wpAny_pure (q s ?_)
    have back : upd H a (.dT kvs) = H := funext fun b => by
      by_cases c : b = a
      · rw [c, upd_same, e]
      · rw [upd_ne c]
    show L2.Inv X pins σ (upd H a (.dT kvs)) s
    rw [back]
    exact I
  | cons e es ih =>
    intro vs kvs s H Q I ea rv hk room q
    cases rv with
    | cons r0 rv =>
      rename_i v0 vs
      obtain ⟨u, r⟩ := v0
      obtain ⟨r1, r2⟩ := r0
      cases r1
      rw [List.length_cons] at room
      unfold storeAll
      rw [List.forIn_cons]
      obtain ⟨len, sys, xs, rel, dd⟩ := dt_of I.hok ea
      have lx : xs.length ≤ sizeLine := by rw [← Paired.length rel]; exact len
      refine wpAny_bind (wpAny_bind (wpAny_dictSet_heap (hsz := lx) (knd := tupleKind (mixKind X.prog X.w)) hu (key_of I.hok (hk e List.mem_cons_self)) dd fun h' dd' hs => wpAny_pure ?_))
      have l2 : (putK kvs e.1 e.2.2).length ≤ sizeLine := Nat.le_trans (length_putK kvs _ _) (by omega)
      obtain ⟨o, ds, ep, ho, c1, c2, c3, _, c4⟩ := dd'
      have I2 : L2.Inv X pins σ (upd H a (.dT (putK kvs e.1 e.2.2))) { s with heap := h', toks := s.toks + (tupleKind (mixKind X.prog X.w)).draws e.1 } := d_write I (by rw [ea]; exact True.intro) hs ⟨o, ho⟩ ⟨l2, sys, _, (rel.put e.1 (hk e List.mem_cons_self) r2).keeps fun c ys ec => (by rw [upd_ne (ne_of ec ea (fun z => nomatch z))]; exact ec), o, ds, ep, ho, c1, c2, c3, c4⟩
      have up : ∀ x y : HO, upd (upd H a x) a y = upd H a y := fun x y => funext fun b => by
        by_cases c : b = a
        · rw [c, upd_same, upd_same]
        · rw [upd_ne c, upd_ne c, upd_ne c]
      refine ih vs (putK kvs e.1 e.2.2) _ _ Q I2 upd_same rv (fun e' m => ?_) (by have := length_putK kvs e.1 e.2.2; omega) fun s' I' => q s' ?_
      · rw [upd_ne (ne_of (hk e' (List.mem_cons_of_mem _ m)) ea (fun z => nomatch z))]
        exact hk e' (List.mem_cons_of_mem _ m)
      · rw [up] at I'
        exact I'
end
/-- {t: v, ..}; the new dict stands empty while the pairs are made -/
def tDispT (trs : List (TE × TE)) : TE := fun σ H Q => ∀ p, H p = none → tPairs trs σ (upd H p (.dT [])) fun ps H2 => H2 p = some (.dT []) ∧ ∃ es : List Ent, ps = es.map (fun e => (V.ref e.2.1, e.2.2)) ∧ (∀ e ∈ es, H2 e.2.1 = some (.tup (e.1.map kV))) ∧ es.length ≤ 15 ∧ Q (.ref p) (upd H2 p (.dT (es.foldl (fun acc e => putK acc e.1 e.2.2) [])))
theorem pe_dispT {X : Cx} {pos : Pos} {keys : List (Option Expr)} {values : List Expr} {trs : List (TE × TE)} (hu : X.A.units < cLine) (h : PPs X pos keys values trs) (hall : keys.all (·.isSome) = true) (hl : keys.length = values.length) (h0 : keys ≠ []) (h15 : keys.length ≤ 15) : PE X (.Dict keys values pos) (tDispT trs) := by
  constructor
  intro pins s σ H Q I q
  have I1 := I.laid (a := s.heap.objs.size) (o := .dT []) (h' := s.heap.push { cls := .type "dict", data := .dict #[] }) (t' := s.toks) (fun _ _ q => Heap.get?_push_of_some _ q) (Nat.le_refl _) (dt_empty s.heap I.big)
  refine wpAny_Dict_any hall hl h0 h15 (thn (h.run pins _ σ _ _ I1 (q _ (I.hok.fresh (Nat.le_refl s.heap.objs.size)))) ?_)
  rintro ws s2 ⟨ps, H2, I2, rel, e, es, rfl, hk, few, q2⟩
  exact store_tups hu es ws [] s2 H2 _ I2 e rel hk (by rw [List.length_nil]; have : (15 : Nat) ≤ sizeLine := by decide
                                                       omega) fun s' I' => ⟨.ref s.heap.objs.size, _, I', rfl, q2⟩
end Nc

/-! Own rules: how many a set of tuples holds, no two alike. -/
namespace Nc
open PySem PySem.Spec PyProof.Rows L2
def rLenTN (P : Program) (w : World) : List V → Hp → VK → Prop := fun vs H Q => ∃ (a : Addr) (L : List (Addr × List Int)), vs = [.ref a] ∧ H a = some (SetTO P w a L) ∧ ((L.map (·.2)).Nodup → Q (.int (L.length : Nat)) H)
theorem call_len_setN {X : Cx} : CallR X (.builtin "len") (rLenTN X.prog X.w) := by
  intro pins s σ H xs us Q I r h
  obtain ⟨a, L, rfl, ha, q⟩ := h
  have R0 : SetT0 X.prog X.w s.heap a L := (I.hok a _ ha).1
  obtain ⟨es, ep, t, R⟩ := R0.ex
  exact call_len_setT pins s σ H _ us Q I r ⟨a, L, rfl, ha, q R.2.2.2.1⟩
/-- no two alike, all among others: no more than these -/
theorem len_le_of_sub {α : Type} [BEq α] [LawfulBEq α] : ∀ {l m : List α}, l.Nodup → (∀ x ∈ l, x ∈ m) → l.length ≤ m.length
  | [], _, _, _ => Nat.zero_le _
  | x :: l, m, n, h => by
    obtain ⟨n1, n2⟩ := List.nodup_cons.mp n
    have mx := h x List.mem_cons_self
    have := len_le_of_sub (l := l) (m := m.erase x) n2 fun y hy => (List.mem_erase_of_ne (fun e => n1 (by rw [← e]; exact hy))).mpr (h y (List.mem_cons_of_mem _ hy))
    rw [List.length_erase_of_mem mx] at this
    have pos : 0 < m.length := List.length_pos_of_mem mx
    rw [List.length_cons]
    omega
end Nc
namespace NcK
open PySem PySem.Spec PyProof.Rows L2 Nc
def topS (i : Nat) : Stmt := PySem.Challenge.pw_nearcells_k71_whole_far_shapes.main.body.getD i (.Pass ⟨0, 0, 0, 0⟩)
/-! words of this text: bits, what stands in the heap, one step of a reading -/
local macro_rules | `(tactic| array_mem_dec) => `(tactic| first
  | (refine nbu (by assumption) (by decide); done)
  | (refine nbu (j := 21) (by omega) (by decide); done)
  | (refine nbm ?_ ?_ <;> array_mem_dec)
  | (refine nba (by decide) ?_ ?_ <;> array_mem_dec)
  | (refine nbs (by decide) ?_ ?_ <;> array_mem_dec)
  | (refine nbn ?_; array_mem_dec)
  | (refine nbu (j := 64) (by decide) (by decide); done))
local macro_rules | `(tactic| sizeOf_list_dec) => `(tactic| first
  | assumption
  | exact upd_same
  | (refine (by assumption : Same _ _) _ _ ?_; sizeOf_list_dec))
local macro_rules | `(tactic| array_get_dec) => `(tactic| first
  | refine ⟨_, rfl, ?_⟩
  | refine ⟨_, _, rfl, rfl, ?_⟩
  | refine ⟨_, _, _, _, rfl, rfl, SqT.of (by sizeOf_list_dec), by rfl, ?_⟩
  | refine ⟨_, _, _, _, rfl, rfl, SqL.of (by sizeOf_list_dec), by rfl, ?_⟩
  | refine ⟨_, _, rfl, SqT.of (by sizeOf_list_dec), by rfl, ?_⟩
  | refine ⟨_, _, _, _, _, rfl, .ty _, .base (.int _), kit_ty (r := true) (by decide +kernel), ?_⟩
  | refine ⟨_, _, _, _, _, rfl, .ty _, .base (.tup (by sizeOf_list_dec)), kit_ty (r := true) (by decide +kernel), ?_⟩
  | refine ⟨_, _, _, _, _, rfl, .ty _, .base (.lst (by sizeOf_list_dec)), kit_ty (r := true) (by decide +kernel), ?_⟩
  | refine ⟨_, _, _, _, _, rfl, .ty _, .base (.int _), kit_ty (r := false) (by decide +kernel), ?_⟩
  | refine ⟨_, _, rfl, .inr (SqT.of (by sizeOf_list_dec)), ?_⟩
  | refine ⟨_, _, rfl, .inl (SqL.of (by sizeOf_list_dec)), ?_⟩
  | refine w_itf (by omega) ?_
  | refine w_itt (by omega) ?_
  | refine w_ntt (by omega) ?_
  | refine w_ntf (by omega) ?_
  | refine w_itt (congrArg V.int (by omega)) ?_
  | refine w_itf (fun e => absurd (V.int.inj e) (by omega)) ?_
  | refine w_ntt (congrArg V.int (by omega)) ?_
  | refine w_ntf (fun e => absurd (V.int.inj e) (by omega)) ?_
  | refine ⟨_, _, rfl, ?_⟩
  | refine ⟨(by refine cmw ?_ ?_ <;> array_mem_dec : CMulW _ _), ?_⟩
  | refine ⟨⟨by decide, by decide, by decide⟩, ?_⟩
  | refine ⟨Nat.le_trans (m := 64) (by simp) (by decide), ?_⟩
  | refine ⟨rfl, ?_⟩
  | refine ⟨_, _, _, rfl, ?_⟩
  | refine Or.inl ⟨_, rfl, ?_⟩
  | refine Or.inr ⟨_, rfl, ?_⟩)
/-! ### the program's own defs: what a site is -/
abbrev sIsSite : Stmt := topS 8
abbrev sToS : Stmt := topS 9
abbrev sCheck : Stmt := topS 10
theorem scIsSite : FnScope ["value", "x", "y"] ["value"] (defScope sIsSite) := ⟨rfl, rfl, rfl, by decide +kernel, rfl, by decide +kernel, by decide +kernel⟩
theorem scToS : FnScope ["a", "b", "c", "ax", "ay", "bx", "by", "cx", "cy"] ["a", "b", "c"] (defScope sToS) := ⟨rfl, rfl, rfl, by decide +kernel, rfl, by decide +kernel, by decide +kernel⟩
theorem scCheck : FnScope ["value", "name"] ["value", "name"] (defScope sCheck) := ⟨rfl, rfl, rfl, by decide +kernel, rfl, by decide +kernel, by decide +kernel⟩
section
variable {P : Program} {w : World} {K : PySem.W.Frag} {mg : Str → Option Value} {base : Heap}
/-- a number is neither True nor False -/
theorem op_isIB {X : Cx} : OpR X (compareOp .Is) (fun x y H Q => ∃ (n : Int) (b : Bool), x = .int n ∧ y = .bl b ∧ Q (.bl false) H) := by
  intro pins s σ H x y v u Q I rx ry h
  obtain ⟨n, b, rfl, rfl, q⟩ := h
  obtain ⟨t, rfl⟩ := rx
  cases (show u = Value.bool b from ry)
  exact wpAny_is_other rfl (fun z => by cases z) ⟨.bl false, H, I, rfl, q⟩
theorem itf {p A B : Prop} [Decidable p] (h : ¬ p) (b : B) : if decide p = true then A else B := by
  rw [decide_eq_false h]
  exact b
theorem itt {p A B : Prop} [Decidable p] (h : p) (a : A) : if decide p = true then A else B := by
  rw [decide_eq_true h]
  exact a
theorem kTT (K : PySem.W.Frag) : PySem.W.kitOne K (.type "tuple") (.type "tuple") = some true := kit_ty (by decide +kernel)
theorem kII (K : PySem.W.Frag) : PySem.W.kitOne K (.type "int") (.type "int") = some true := kit_ty (by decide +kernel)
/-- a site -/
def spIsSite : Sp := fun vs H Q _ => ∃ (t : Addr) (x y : Int), vs = [.ref t] ∧ Sit H t x y ∧ Bd 1000000 x y ∧ Q (.bl true) H
theorem ok_issite {f : Addr} {fd : FuncData} {k : Nat} (F : Fun K "is_site" "is_site" sIsSite f fd) (misinstance : mg "isinstance" = none) (mtuple : mg "tuple" = none) (mint : mg "int" = none) (mlen : mg "len" = none) : FnOk P w K mg base CX0 (k + 1) f fd ["value"] spIsSite := by
  refine F.ok scIsSite (fun vs H Q E h => ?_) (fun cdv A outer s H vs Q E hr h => ?_)
  · obtain ⟨t, x, y, rfl, _⟩ := h
    rfl
  · obtain ⟨t, x, y, rfl, h, d, q⟩ := h
    have nd := scIsSite.nd
    obtain ⟨d1, d2, d3, d4⟩ := d
    refine ⟨_, (pss_cons (ps_if (PW.pt (pw_or (pt_not (pt_val (pe_callB call_isi (by rfl) misinstance (by decide +kernel) (pa_cons (pv 0) (pa_cons (pe_bltn (v := .ty "tuple") (by rfl) mtuple (by decide +kernel) rfl) pa_nil))))) (pw_or1 (pt_cmpR op_ne (pe_callB call_len_seq (by rfl) mlen (by decide +kernel) (pa_cons (pv 0) pa_nil)) pe_int (nomark _))))) (pss_one (ps_ret pe_bl)) pss_nil) (pss_cons (ps_asg (pv 0) (pg_tup (by rfl) (pgs_cons (pg_name (i := 1) nd rfl (.inl rfl)) (pgs_cons (pg_name (i := 2) nd rfl (.inl rfl)) pgs_nil)))) (pss_cons (ps_if (PW.pt (pw_or (pt_not (pt_val (pe_callB call_isi (by rfl) misinstance (by decide +kernel) (pa_cons (pv 1) (pa_cons (pe_bltn (v := .ty "int") (by rfl) mint (by decide +kernel) rfl) pa_nil))))) (pw_or1 (pt_not (pt_val (pe_callB call_isi (by rfl) misinstance (by decide +kernel) (pa_cons (pv 2) (pa_cons (pe_bltn (v := .ty "int") (by rfl) mint (by decide +kernel) rfl) pa_nil)))))))) (pss_one (ps_ret pe_bl)) pss_nil) (pss_cons (ps_if (PW.pt (pw_or (pt_cmpR op_isIB (pv 1) pe_bl (nomark _)) (pw_or (pt_cmpR op_isIB (pv 1) pe_bl (nomark _)) (pw_or (pt_cmpR op_isIB (pv 2) pe_bl (nomark _)) (pw_or1 (pt_cmpR op_isIB (pv 2) pe_bl (nomark _))))))) (pss_one (ps_ret pe_bl)) pss_nil) (pss_cons (ps_if (PW.pt (pw_or (pt_cmpR op_gt (pv 1) pe_int (nomark _)) (pw_or (pt_cmpR op_lt (pv 1) pe_neg (nomark _)) (pw_or (pt_cmpR op_gt (pv 2) pe_int (nomark _)) (pw_or1 (pt_cmpR op_lt (pv 2) pe_neg (nomark _))))))) (pss_one (ps_ret pe_bl)) pss_nil) (pss_one (ps_ret pe_bl))))))), ?_⟩
    exact ⟨_, rfl, _, _, _, _, _, rfl, .ty "tuple", .base (.tup h), kTT K, _, rfl, _, rfl, _, _, rfl, .inr (SqT.of h), rfl, _, rfl, _, rfl, _, _, rfl, SqT.of h, rfl, _, _, rfl, _, _, rfl, rfl, _, rfl, _, _, _, _, _, rfl, .ty "int", .base (.int _), kII K, _, rfl, _, rfl, _, _, _, _, _, rfl, .ty "int", .base (.int _), kII K, _, rfl, _, rfl, _, _, rfl, rfl, _, rfl, _, rfl, _, _, rfl, rfl, _, rfl, _, rfl, _, _, rfl, rfl, _, rfl, _, rfl, _, _, rfl, rfl, _, rfl, _, rfl, _, _, rfl, rfl, _, rfl, itf (by omega) ⟨_, rfl, _, _, rfl, rfl, _, rfl, itf (by omega) ⟨_, rfl, _, _, rfl, rfl, _, rfl, itf (by omega) ⟨_, rfl, _, _, rfl, rfl, _, rfl, itf (by omega) q⟩⟩⟩⟩
def spCheck : Sp := fun vs H Q _ => ∃ (t : Addr) (x y : Int) (z : Str), vs = [.ref t, .str z] ∧ Sit H t x y ∧ Bd 1000000 x y ∧ Q .non H
theorem ok_check {f fS : Addr} {fd fdS : FuncData} {k : Nat} (F : Fun K "check_site" "check_site" sCheck f fd)
    (GS : FnOk P w K mg base CX0 (k + 1) fS fdS ["value"] spIsSite) (gS : mg "is_site" = some (.ref fS)) (kS : PySem.W.keepIn K (.ref fS) = true) (bS : Binds K fdS ["value"] []) : FnOk P w K mg base CX0 (k + 2) f fd ["value", "name"] spCheck := by
  refine F.ok scCheck (fun vs H Q E h => ?_) (fun cdv A outer s H vs Q E hr h => ?_)
  · obtain ⟨t, x, y, z, rfl, _⟩ := h
    rfl
  · obtain ⟨t, x, y, z, rfl, hx, d, q⟩ := h
    exact ⟨_, pss_one (ps_if (pt_not (pt_val (pe_call GS hr (by rfl) gS kS bS .nil pass0 (pa_cons (pv 0) pa_nil)))) (pss_one ps_never) pss_nil), _, rfl, t, x, y, rfl, hx, d, _, rfl, q⟩
/-- the double area -/
def tri (ax ay bx by' cx cy : Int) : Int := (bx - ax) * (cy - ay) - (by' - ay) * (cx - ax)
/-- three sites, and what is told of their numbers -/
def sp3 (K : PySem.W.Frag) (v : Int → Int → Int → Int → Int → Int → V) : Sp := fun vs H Q _ => ∃ (a b c : Addr) (ax ay bx by' cx cy : Int), vs = [.ref a, .ref b, .ref c] ∧ Sit H a ax ay ∧ Sit H b bx by' ∧ Sit H c cx cy ∧
  Bd 1000000 ax ay ∧ Bd 1000000 bx by' ∧ Bd 1000000 cx cy ∧ Q (v ax ay bx by' cx cy) H
theorem tri_m1 {ax ay bx cy : Int} (a : -1000000 ≤ ax ∧ ax ≤ 1000000) (b : -1000000 ≤ bx ∧ bx ≤ 1000000) : CMul (bx - ax) (cy - ay) := .inl ⟨by omega, by omega⟩
theorem ok_tos {f : Addr} {fd : FuncData} {k : Nat} (F : Fun K "turn_of_sites" "turn_of_sites" sToS f fd) (misinstance : mg "isinstance" = none) (mtuple : mg "tuple" = none) (mint : mg "int" = none) (mlen : mg "len" = none) : FnOk P w K mg base CX0 (k + 1) f fd ["a", "b", "c"] (sp3 K fun ax ay bx by' cx cy => .int (tri ax ay bx by' cx cy)) := by
  refine F.ok scToS (fun vs H Q E h => ?_) (fun cdv A outer s H vs Q E hr h => ?_)
  · obtain ⟨a, b, c, ax, ay, bx, by', cx, cy, rfl, _⟩ := h
    rfl
  · obtain ⟨a, b, c, ax, ay, bx, by', cx, cy, rfl, ha, hb, hc, da, db, dc, q⟩ := h
    have m1 : CMul (bx - ax) (cy - ay) := tri_m1 ⟨da.1, da.2.1⟩ ⟨db.1, db.2.1⟩
    have m2 : CMul (by' - ay) (cx - ax) := tri_m1 da.2.2 db.2.2
    have nd := scToS.nd
    obtain ⟨a1, a2, a3, a4⟩ := da
    obtain ⟨b1, b2, b3, b4⟩ := db
    obtain ⟨c1, c2, c3, c4⟩ := dc
    refine ⟨_, (pss_cons (ps_if (PW.pt (pw_or (pt_not (pt_val (pe_callB call_isi (by rfl) misinstance (by decide +kernel) (pa_cons (pv 0) (pa_cons (pe_bltn (v := .ty "tuple") (by rfl) mtuple (by decide +kernel) rfl) pa_nil))))) (pw_or (pt_not (pt_val (pe_callB call_isi (by rfl) misinstance (by decide +kernel) (pa_cons (pv 1) (pa_cons (pe_bltn (v := .ty "tuple") (by rfl) mtuple (by decide +kernel) rfl) pa_nil))))) (pw_or1 (pt_not (pt_val (pe_callB call_isi (by rfl) misinstance (by decide +kernel) (pa_cons (pv 2) (pa_cons (pe_bltn (v := .ty "tuple") (by rfl) mtuple (by decide +kernel) rfl) pa_nil))))))))) (pss_one (ps_ret pe_non)) pss_nil) (pss_cons (ps_if (PW.pt (pw_or (pt_cmpR op_ne (pe_callB call_len_seq (by rfl) mlen (by decide +kernel) (pa_cons (pv 0) pa_nil)) pe_int (nomark _)) (pw_or (pt_cmpR op_ne (pe_callB call_len_seq (by rfl) mlen (by decide +kernel) (pa_cons (pv 1) pa_nil)) pe_int (nomark _)) (pw_or1 (pt_cmpR op_ne (pe_callB call_len_seq (by rfl) mlen (by decide +kernel) (pa_cons (pv 2) pa_nil)) pe_int (nomark _)))))) (pss_one (ps_ret pe_non)) pss_nil) (pss_cons (ps_asg (pv 0) (pg_tup (by rfl) (pgs_cons (pg_name (i := 3) nd rfl (.inl rfl)) (pgs_cons (pg_name (i := 4) nd rfl (.inl rfl)) pgs_nil)))) (pss_cons (ps_asg (pv 1) (pg_tup (by rfl) (pgs_cons (pg_name (i := 5) nd rfl (.inl rfl)) (pgs_cons (pg_name (i := 6) nd rfl (.inl rfl)) pgs_nil)))) (pss_cons (ps_asg (pv 2) (pg_tup (by rfl) (pgs_cons (pg_name (i := 7) nd rfl (.inl rfl)) (pgs_cons (pg_name (i := 8) nd rfl (.inl rfl)) pgs_nil)))) (pss_cons (ps_if (PW.pt (pw_or (pt_not (pt_val (pe_callB call_isi (by rfl) misinstance (by decide +kernel) (pa_cons (pv 3) (pa_cons (pe_bltn (v := .ty "int") (by rfl) mint (by decide +kernel) rfl) pa_nil))))) (pw_or (pt_not (pt_val (pe_callB call_isi (by rfl) misinstance (by decide +kernel) (pa_cons (pv 5) (pa_cons (pe_bltn (v := .ty "int") (by rfl) mint (by decide +kernel) rfl) pa_nil))))) (pw_or1 (pt_not (pt_val (pe_callB call_isi (by rfl) misinstance (by decide +kernel) (pa_cons (pv 7) (pa_cons (pe_bltn (v := .ty "int") (by rfl) mint (by decide +kernel) rfl) pa_nil))))))))) (pss_one (ps_ret pe_non)) pss_nil) (pss_cons (ps_if (PW.pt (pw_or (pt_not (pt_val (pe_callB call_isi (by rfl) misinstance (by decide +kernel) (pa_cons (pv 4) (pa_cons (pe_bltn (v := .ty "int") (by rfl) mint (by decide +kernel) rfl) pa_nil))))) (pw_or (pt_not (pt_val (pe_callB call_isi (by rfl) misinstance (by decide +kernel) (pa_cons (pv 6) (pa_cons (pe_bltn (v := .ty "int") (by rfl) mint (by decide +kernel) rfl) pa_nil))))) (pw_or1 (pt_not (pt_val (pe_callB call_isi (by rfl) misinstance (by decide +kernel) (pa_cons (pv 8) (pa_cons (pe_bltn (v := .ty "int") (by rfl) mint (by decide +kernel) rfl) pa_nil))))))))) (pss_one (ps_ret pe_non)) pss_nil) (pss_cons (ps_if (PW.pt (pw_or (pt_cmpR op_isIB (pv 3) pe_bl (nomark _)) (pw_or (pt_cmpR op_isIB (pv 3) pe_bl (nomark _)) (pw_or (pt_cmpR op_isIB (pv 5) pe_bl (nomark _)) (pw_or (pt_cmpR op_isIB (pv 5) pe_bl (nomark _)) (pw_or (pt_cmpR op_isIB (pv 7) pe_bl (nomark _)) (pw_or1 (pt_cmpR op_isIB (pv 7) pe_bl (nomark _))))))))) (pss_one (ps_ret pe_non)) pss_nil) (pss_cons (ps_if (PW.pt (pw_or (pt_cmpR op_isIB (pv 4) pe_bl (nomark _)) (pw_or (pt_cmpR op_isIB (pv 4) pe_bl (nomark _)) (pw_or (pt_cmpR op_isIB (pv 6) pe_bl (nomark _)) (pw_or (pt_cmpR op_isIB (pv 6) pe_bl (nomark _)) (pw_or (pt_cmpR op_isIB (pv 8) pe_bl (nomark _)) (pw_or1 (pt_cmpR op_isIB (pv 8) pe_bl (nomark _))))))))) (pss_one (ps_ret pe_non)) pss_nil) (pss_cons (ps_if (PW.pt (pw_or (pt_cmpR op_gt (pv 3) pe_int (nomark _)) (pw_or (pt_cmpR op_lt (pv 3) pe_neg (nomark _)) (pw_or (pt_cmpR op_gt (pv 5) pe_int (nomark _)) (pw_or1 (pt_cmpR op_lt (pv 5) pe_neg (nomark _))))))) (pss_one (ps_ret pe_non)) pss_nil) (pss_cons (ps_if (PW.pt (pw_or (pt_cmpR op_gt (pv 4) pe_int (nomark _)) (pw_or (pt_cmpR op_lt (pv 4) pe_neg (nomark _)) (pw_or (pt_cmpR op_gt (pv 6) pe_int (nomark _)) (pw_or1 (pt_cmpR op_lt (pv 6) pe_neg (nomark _))))))) (pss_one (ps_ret pe_non)) pss_nil) (pss_cons (ps_if (PW.pt (pw_or (pt_cmpR op_gt (pv 7) pe_int (nomark _)) (pw_or (pt_cmpR op_lt (pv 7) pe_neg (nomark _)) (pw_or (pt_cmpR op_gt (pv 8) pe_int (nomark _)) (pw_or1 (pt_cmpR op_lt (pv 8) pe_neg (nomark _))))))) (pss_one (ps_ret pe_non)) pss_nil) (pss_one (ps_ret (pe_op op_sub (pe_op op_mul (pe_op op_sub (pv 5) (pv 3)) (pe_op op_sub (pv 8) (pv 4))) (pe_op op_mul (pe_op op_sub (pv 6) (pv 4)) (pe_op op_sub (pv 7) (pv 3)))))))))))))))))), ?_⟩
    exact ⟨_, rfl, _, _, _, _, _, rfl, .ty "tuple", .base (.tup ha), kTT K, _, rfl, _, rfl, _, _, _, _, _, rfl, .ty "tuple", .base (.tup hb), kTT K, _, rfl, _, rfl, _, _, _, _, _, rfl, .ty "tuple", .base (.tup hc), kTT K, _, rfl, _, rfl, _, _, rfl, .inr (SqT.of ha), rfl, _, rfl, _, rfl, _, _, rfl, .inr (SqT.of hb), rfl, _, rfl, _, rfl, _, _, rfl, .inr (SqT.of hc), rfl, _, rfl, _, rfl, _, _, rfl, SqT.of ha, rfl, _, _, rfl, _, _, rfl, rfl, _, rfl, _, _, rfl, SqT.of hb, rfl, _, _, rfl, _, _, rfl, rfl, _, rfl, _, _, rfl, SqT.of hc, rfl, _, _, rfl, _, _, rfl, rfl, _, rfl, _, _, _, _, _, rfl, .ty "int", .base (.int _), kII K, _, rfl, _, rfl, _, _, _, _, _, rfl, .ty "int", .base (.int _), kII K, _, rfl, _, rfl, _, _, _, _, _, rfl, .ty "int", .base (.int _), kII K, _, rfl, _, rfl, _, _, _, _, _, rfl, .ty "int", .base (.int _), kII K, _, rfl, _, rfl, _, _, _, _, _, rfl, .ty "int", .base (.int _), kII K, _, rfl, _, rfl, _, _, _, _, _, rfl, .ty "int", .base (.int _), kII K, _, rfl, _, rfl, _, _, rfl, rfl, _, rfl, _, rfl, _, _, rfl, rfl, _, rfl, _, rfl, _, _, rfl, rfl, _, rfl, _, rfl, _, _, rfl, rfl, _, rfl, _, rfl, _, _, rfl, rfl, _, rfl, _, rfl, _, _, rfl, rfl, _, rfl, _, rfl, _, _, rfl, rfl, _, rfl, _, rfl, _, _, rfl, rfl, _, rfl, _, rfl, _, _, rfl, rfl, _, rfl, _, rfl, _, _, rfl, rfl, _, rfl, _, rfl, _, _, rfl, rfl, _, rfl, _, rfl, _, _, rfl, rfl, _, rfl, _, rfl, _, _, rfl, rfl, _, rfl, itf (by omega) ⟨_, rfl, _, _, rfl, rfl, _, rfl, itf (by omega) ⟨_, rfl, _, _, rfl, rfl, _, rfl, itf (by omega) ⟨_, rfl, _, _, rfl, rfl, _, rfl, itf (by omega) ⟨_, rfl, _, _, rfl, rfl, _, rfl, itf (by omega) ⟨_, rfl, _, _, rfl, rfl, _, rfl, itf (by omega) ⟨_, rfl, _, _, rfl, rfl, _, rfl, itf (by omega) ⟨_, rfl, _, _, rfl, rfl, _, rfl, itf (by omega) ⟨_, rfl, _, _, rfl, rfl, _, rfl, itf (by omega) ⟨_, rfl, _, _, rfl, rfl, _, rfl, itf (by omega) ⟨_, rfl, _, _, rfl, rfl, _, rfl, itf (by omega) ⟨_, rfl, _, _, rfl, rfl, _, rfl, itf (by omega) ⟨_, rfl, _, rfl, _, _, rfl, rfl, _, rfl, _, rfl, _, _, rfl, rfl, _, _, rfl, rfl, m1, _, rfl, _, rfl, _, _, rfl, rfl, _, rfl, _, rfl, _, _, rfl, rfl, _, _, rfl, rfl, m2, _, _, rfl, rfl, q⟩⟩⟩⟩⟩⟩⟩⟩⟩⟩⟩⟩⟩
end
/-! ### signs, sites that are alike -/
section
variable {P : Program} {w : World} {K : PySem.W.Frag} {mg : Str → Option Value} {base : Heap}
def sg (n : Int) : Int := if n = 0 then 0 else if 0 < n then 1 else -1
theorem dpSit {H : Hp} {t : Addr} {x y : Int} (h : Sit H t x y) : Dp K H (.ref t) (.tuple [.int x, .int y]) := .tup (SqT.of h) (.cons (.int x) (.cons (.int y) .nil))
theorem eqv_sit (x y u v : Int) : PyData.eqv (.tuple [.int x, .int y]) (.tuple [.int u, .int v]) = decide (x = u ∧ y = v) := by
  simp [PyData.eqv, PyData.eqvAll, Bool.decide_and, Bool.beq_eq_decide_eq]
theorem at0_ (u v : V) : atI [u, v] 0 = some u := rfl
theorem at1_ (u v : V) : atI [u, v] 1 = some v := rfl
end
abbrev sSign : Stmt := topS 6
theorem scSign : FnScope ["number"] ["number"] (defScope sSign) := ⟨rfl, rfl, rfl, by decide +kernel, rfl, by decide +kernel, by decide +kernel⟩
section
variable {P : Program} {w : World} {K : PySem.W.Frag} {mg : Str → Option Value} {base : Heap}
def spSign : Sp := fun vs H Q _ => ∃ n : Int, vs = [.int n] ∧ Q (.int (sg n)) H
theorem ok_sign {f : Addr} {fd : FuncData} {k : Nat} (F : Fun K "sign" "sign" sSign f fd) : FnOk P w K mg base CX0 (k + 1) f fd ["number"] spSign := by
  refine F.ok scSign (fun vs H Q E h => ?_) (fun cdv A outer s H vs Q E hr h => ?_)
  · obtain ⟨n, rfl, _⟩ := h
    rfl
  · obtain ⟨n, rfl, q⟩ := h
    refine ⟨_, pss_cons (ps_if (pt_cmpR op_eq (pv 0) pe_int (nomark _)) (pss_one (ps_ret pe_int)) pss_nil)
      (pss_one (ps_ret (pe_ifExp (pt_cmpR op_gt (pv 0) pe_int (nomark _)) pe_int pe_neg))), ?_⟩
    unfold sg at q
    refine ⟨_, rfl, rfl, _, rfl, ite2 (fun c => ?_) fun c => ⟨_, rfl, _, _, rfl, rfl, _, rfl, ite2 (fun d => ?_) fun d => ?_⟩⟩
    · rw [if_pos (V.int.inj (of_decide_eq_true c))] at q
      exact q
    · rw [if_neg (fun z => c (by rw [z]; exact decide_eq_true rfl)), if_pos (of_decide_eq_true d)] at q
      exact q
    · rw [if_neg (fun z => c (by rw [z]; exact decide_eq_true rfl)), if_neg (fun z => d (decide_eq_true z))] at q
      exact q
end
/-! ### places, fractions: the mathematics -/
def g3 (x y d : Int) : Nat := Nat.gcd (Nat.gcd x.natAbs y.natAbs) d.natAbs
theorem g3_is (x y d : Int) : Nat.gcd (((Nat.gcd x.natAbs y.natAbs : Nat) : Int)).natAbs d.natAbs = g3 x y d := by
  rw [Int.natAbs_natCast]
  rfl
theorem g3_dx (x y d : Int) : ((g3 x y d : Nat) : Int) ∣ x := Int.ofNat_dvd_left.mpr (Nat.dvd_trans (Nat.gcd_dvd_left _ _) (Nat.gcd_dvd_left _ _))
theorem g3_dy (x y d : Int) : ((g3 x y d : Nat) : Int) ∣ y := Int.ofNat_dvd_left.mpr (Nat.dvd_trans (Nat.gcd_dvd_left _ _) (Nat.gcd_dvd_right _ _))
theorem g3_dd (x y d : Int) : ((g3 x y d : Nat) : Int) ∣ d := Int.ofNat_dvd_left.mpr (Nat.gcd_dvd_right _ _)
theorem g3_pos {x y d : Int} (h : d ≠ 0) : 0 < g3 x y d := Nat.gcd_pos_of_pos_right _ (Int.natAbs_pos.mpr h)
theorem g3_le {x y d : Int} (h : d ≠ 0) : g3 x y d ≤ d.natAbs := Nat.le_of_dvd (Int.natAbs_pos.mpr h) (Nat.gcd_dvd_right _ _)
/-- the divisor that makes the last number one of 1 and more -/
def gs (x y d : Int) : Int := if d < 0 then -((g3 x y d : Nat) : Int) else ((g3 x y d : Nat) : Int)
theorem gs_ne {x y d : Int} (h : d ≠ 0) : gs x y d ≠ 0 := by
  have := g3_pos (x := x) (y := y) h
  unfold gs
  split <;> omega
theorem gs_abs (x y d : Int) : (gs x y d).natAbs = g3 x y d := by
  unfold gs
  split <;> omega
theorem gs_dvd {x y d z : Int} (h : ((g3 x y d : Nat) : Int) ∣ z) : gs x y d ∣ z := by
  unfold gs
  split
  · exact Int.neg_dvd.mpr h
  · exact h
/-- a tuple of three numbers is a place -/
structure PlOk (x y d : Int) : Prop where
  x1 : -(10 ^ 30) < x
  x2 : x < 10 ^ 30
  y1 : -(10 ^ 30) < y
  y2 : y < 10 ^ 30
  d1 : 1 ≤ d
  d2 : d < 10 ^ 30
  g1 : g3 x y d = 1
theorem mul_fdiv {g z : Int} (h : g ∣ z) : g * z.fdiv g = z := by
  rw [Int.fdiv_eq_ediv_of_dvd h]
  exact Int.mul_ediv_cancel' h
theorem abs_le_of_mul {g z x : Int} (e : g * z = x) (h : g ≠ 0) : z.natAbs ≤ x.natAbs := by
  rw [← e, Int.natAbs_mul]
  exact Nat.le_mul_of_pos_left _ (Int.natAbs_pos.mpr h)
theorem place_ok {x y d : Int} (h : d ≠ 0) (hx : x.natAbs < 10 ^ 30) (hy : y.natAbs < 10 ^ 30) (hd : d.natAbs < 10 ^ 30) : PlOk (x.fdiv (gs x y d)) (y.fdiv (gs x y d)) (d.fdiv (gs x y d)) := by
  have ex := mul_fdiv (gs_dvd (g3_dx x y d))
  have ey := mul_fdiv (gs_dvd (g3_dy x y d))
  have ed := mul_fdiv (gs_dvd (g3_dd x y d))
  have hn := gs_ne (x := x) (y := y) h
  have bx := abs_le_of_mul ex hn
  have by' := abs_le_of_mul ey hn
  have bd := abs_le_of_mul ed hn
  have pos : 0 < d.fdiv (gs x y d) := by
    have gp := g3_pos (x := x) (y := y) h
    generalize d.fdiv (gs x y d) = D at ed
    unfold gs at ed
    split at ed
    · rename_i hneg
      rcases Int.lt_trichotomy D 0 with z | z | z
      · exfalso
        have w : 0 < -((g3 x y d : Nat) : Int) * D := Int.mul_pos_of_neg_of_neg (by omega) z
        omega
      · rw [z, Int.mul_zero] at ed
        omega
      · exact z
    · rcases Int.lt_trichotomy D 0 with z | z | z
      · exfalso
        have w : ((g3 x y d : Nat) : Int) * D < 0 := Int.mul_neg_of_pos_of_neg (by omega) z
        omega
      · rw [z, Int.mul_zero] at ed
        omega
      · exact z
  refine ⟨by omega, by omega, by omega, by omega, by omega, by omega, ?_⟩
  have nx : g3 x y d * (x.fdiv (gs x y d)).natAbs = x.natAbs := by rw [← gs_abs, ← Int.natAbs_mul, ex]
  have ny : g3 x y d * (y.fdiv (gs x y d)).natAbs = y.natAbs := by rw [← gs_abs, ← Int.natAbs_mul, ey]
  have nd : g3 x y d * (d.fdiv (gs x y d)).natAbs = d.natAbs := by rw [← gs_abs, ← Int.natAbs_mul, ed]
  have key : g3 x y d * g3 (x.fdiv (gs x y d)) (y.fdiv (gs x y d)) (d.fdiv (gs x y d)) = g3 x y d := by
    generalize hg : g3 x y d = g at nx ny nd
    unfold g3
    rw [← Nat.gcd_mul_left, ← Nat.gcd_mul_left, nx, ny, nd]
    exact hg
  exact Nat.eq_of_mul_eq_mul_left (g3_pos (x := x) (y := y) h) (by rw [key, Nat.mul_one])
theorem nb_add {i j : Int} {a : Nat} (hi : i.natAbs < 2 ^ a) (hj : j.natAbs < 2 ^ a) : (i + j).natAbs < 2 ^ (a + 1) := by
  rw [Nat.pow_succ]
  omega
theorem nb_sub {i j : Int} {a : Nat} (hi : i.natAbs < 2 ^ a) (hj : j.natAbs < 2 ^ a) : (i - j).natAbs < 2 ^ (a + 1) := by
  rw [Nat.pow_succ]
  omega
theorem nb_up {i : Int} {a b : Nat} (hi : i.natAbs < 2 ^ a) (h : a ≤ b) : i.natAbs < 2 ^ b := Nat.lt_of_lt_of_le hi (Nat.pow_le_pow_right (by decide) h)
theorem PlOk.bits {x y d : Int} (h : PlOk x y d) : x.natAbs < 2 ^ 100 ∧ y.natAbs < 2 ^ 100 ∧ d.natAbs < 2 ^ 100 := by
  obtain ⟨h1, h2, h3, h4, h5, h6, _⟩ := h
  refine ⟨by omega, by omega, by omega⟩
/-- the squared distance of a place and a site, times d * d -/
def spread (x y d u v : Int) : Int := (x - d * u) * (x - d * u) + (y - d * v) * (y - d * v)
theorem sq_nn (x : Int) : 0 ≤ x * x := by
  rw [← Int.natAbs_mul_self]
  exact Int.natCast_nonneg _
theorem spread_nonneg (x y d u v : Int) : 0 ≤ spread x y d u v := Int.add_nonneg (sq_nn _) (sq_nn _)
theorem far_bits {x d u : Int} (hx : x.natAbs < 2 ^ 100) (hd : d.natAbs < 2 ^ 100) (hu : -1000000 ≤ u ∧ u ≤ 1000000) : (x - d * u).natAbs < 2 ^ 121 := by
  have h1 : (d * u).natAbs < 2 ^ (100 + 20) := wide_lt hd (by omega)
  exact nb_sub (nb_up hx (by decide)) h1
/-- what lifts from a site are -/
def lz (u v : Int) : Int := u * u + v * v
def vol (ax ay bx by' cx cy dx dy : Int) : Int :=
  (dx - ax) * ((by' - ay) * lz (cx - ax) (cy - ay) - lz (bx - ax) (by' - ay) * (cy - ay)) + (dy - ay) * (lz (bx - ax) (by' - ay) * (cx - ax) - (bx - ax) * lz (cx - ax) (cy - ay)) + lz (dx - ax) (dy - ay) * ((bx - ax) * (cy - ay) - (by' - ay) * (cx - ax))
theorem vol_turn (ax ay bx by' cx cy dx dy : Int) : vol cx cy ax ay bx by' dx dy = vol ax ay bx by' cx cy dx dy := by
  unfold vol lz
  grind
theorem tri_turn (ax ay bx by' cx cy : Int) : tri cx cy ax ay bx by' = tri ax ay bx by' cx cy := by
  unfold tri
  grind
/-! ### fractions, places, circles, lifts -/
abbrev sHov : Stmt := topS 12
abbrev sInC : Stmt := topS 27
abbrev sLSide : Stmt := topS 28
theorem scHov : FnScope ["a", "b", "c", "d", "dx", "dy", "ax", "ay", "bx", "by", "cx", "cy"] ["a", "b", "c", "d"] (defScope sHov) := ⟨rfl, rfl, rfl, by decide +kernel, rfl, by decide +kernel, by decide +kernel⟩
theorem scInC : FnScope ["a", "b", "c", "d"] ["a", "b", "c", "d"] (defScope sInC) := ⟨rfl, rfl, rfl, by decide +kernel, rfl, by decide +kernel, by decide +kernel⟩
theorem scLSide : FnScope ["a", "b", "c", "d", "area"] ["a", "b", "c", "d"] (defScope sLSide) := ⟨rfl, rfl, rfl, by decide +kernel, rfl, by decide +kernel, by decide +kernel⟩
section
variable {P : Program} {w : World} {K : PySem.W.Frag} {mg : Str → Option Value} {base : Heap}
theorem three_line : 3 ≤ sizeLine := by decide
theorem a30_ (u v z : V) : atI [u, v, z] 0 = some u := rfl
theorem a31_ (u v z : V) : atI [u, v, z] 1 = some v := rfl
theorem a32_ (u v z : V) : atI [u, v, z] 2 = some z := rfl
def Tup2 (H : Hp) (p : Addr) (x y : Int) : Prop := H p = some (.tup [.int x, .int y])
def Pla (H : Hp) (p : Addr) (x y d : Int) : Prop := H p = some (.tup [.int x, .int y, .int d])
/-- a new thing is handed back, all else stands -/
def newRes (H : Hp) (Q : VK) (o : HO) : Prop := ∀ (p : Addr) H', Same H H' → H p = none → H' p = some o → Q (.ref p) H'
/-! fraction -/
def gcf (t b : Int) : Int := ((Nat.gcd t.natAbs b.natAbs : Nat) : Int)
def spFrac : Sp := fun vs H Q _ => ∃ t b : Int, vs = [.int t, .int b] ∧ 0 < b ∧ b.natAbs < 2 ^ 8000 ∧ newRes H Q (.tup [.int (t / gcf t b), .int (b / gcf t b)])
theorem gcf_pos {t b : Int} (h : 0 < b) : 0 < gcf t b := Int.natCast_pos.mpr (Nat.gcd_pos_of_pos_right _ (by omega))
theorem gcf_le {t b : Int} (h : 0 < b) : (gcf t b).natAbs ≤ b.natAbs := by
  unfold gcf
  rw [Int.natAbs_natCast]
  exact Nat.le_of_dvd (by omega) (Nat.gcd_dvd_right _ _)
/-! places -/
/-- a place -/
def spIsPl : Sp := fun vs H Q _ => ∃ (t : Addr) (x y d : Int), vs = [.ref t] ∧ Pla H t x y d ∧ PlOk x y d ∧ Q (.bl true) H
set_option pp.maxSteps 300 in
def spCheckP : Sp := fun vs H Q _ => ∃ (t : Addr) (x y d : Int) (z : Str), vs = [.ref t, .str z] ∧ Pla H t x y d ∧ PlOk x y d ∧ Q .non H
end
/-! ### circles: the mathematics -/
def cX1 (ax ay bx by' cx cy : Int) : Int := lz (bx - ax) (by' - ay) * (cy - ay) - lz (cx - ax) (cy - ay) * (by' - ay)
def cY1 (ax ay bx by' cx cy : Int) : Int := lz (cx - ax) (cy - ay) * (bx - ax) - lz (bx - ax) (by' - ay) * (cx - ax)
def cXn (ax ay bx by' cx cy : Int) : Int := ax * (2 * tri ax ay bx by' cx cy) + cX1 ax ay bx by' cx cy
def cYn (ax ay bx by' cx cy : Int) : Int := ay * (2 * tri ax ay bx by' cx cy) + cY1 ax ay bx by' cx cy
def cDn (ax ay bx by' cx cy : Int) : Int := 2 * tri ax ay bx by' cx cy
def cTop (ax ay bx by' cx cy : Int) : Int := cX1 ax ay bx by' cx cy * cX1 ax ay bx by' cx cy + cY1 ax ay bx by' cx cy * cY1 ax ay bx by' cx cy
def cBot (ax ay bx by' cx cy : Int) : Int := 2 * tri ax ay bx by' cx cy * (2 * tri ax ay bx by' cx cy)
/-- the centre's numbers -/
def ctx (ax ay bx by' cx cy : Int) : Int := (cXn ax ay bx by' cx cy).fdiv (gs (cXn ax ay bx by' cx cy) (cYn ax ay bx by' cx cy) (cDn ax ay bx by' cx cy))
def cty (ax ay bx by' cx cy : Int) : Int := (cYn ax ay bx by' cx cy).fdiv (gs (cXn ax ay bx by' cx cy) (cYn ax ay bx by' cx cy) (cDn ax ay bx by' cx cy))
def ctd (ax ay bx by' cx cy : Int) : Int := (cDn ax ay bx by' cx cy).fdiv (gs (cXn ax ay bx by' cx cy) (cYn ax ay bx by' cx cy) (cDn ax ay bx by' cx cy))
theorem cmL {i j : Int} (h : i.natAbs < 2 ^ 63) : CMul i j := .inl ⟨by omega, by omega⟩
theorem cmR {i j : Int} (h : j.natAbs < 2 ^ 63) : CMul i j := .inr ⟨by omega, by omega⟩
theorem df_bits {a b : Int} (ha : -1000000 ≤ a ∧ a ≤ 1000000) (hb : -1000000 ≤ b ∧ b ≤ 1000000) : (b - a).natAbs < 2 ^ 21 := by omega
theorem lz_bits {u v : Int} (hu : u.natAbs < 2 ^ 21) (hv : v.natAbs < 2 ^ 21) : (lz u v).natAbs < 2 ^ 43 := nb_add (wide_lt hu hu) (wide_lt hv hv)
structure Six (ax ay bx by' cx cy : Int) : Prop where
  a : Bd 1000000 ax ay
  b : Bd 1000000 bx by'
  c : Bd 1000000 cx cy
section
variable {ax ay bx by' cx cy : Int}
theorem Six.u1 (h : Six ax ay bx by' cx cy) : (bx - ax).natAbs < 2 ^ 21 := df_bits ⟨h.a.1, h.a.2.1⟩ ⟨h.b.1, h.b.2.1⟩
theorem Six.v1 (h : Six ax ay bx by' cx cy) : (by' - ay).natAbs < 2 ^ 21 := df_bits h.a.2.2 h.b.2.2
theorem Six.u2 (h : Six ax ay bx by' cx cy) : (cx - ax).natAbs < 2 ^ 21 := df_bits ⟨h.a.1, h.a.2.1⟩ ⟨h.c.1, h.c.2.1⟩
theorem Six.v2 (h : Six ax ay bx by' cx cy) : (cy - ay).natAbs < 2 ^ 21 := df_bits h.a.2.2 h.c.2.2
theorem Six.l1 (h : Six ax ay bx by' cx cy) : (lz (bx - ax) (by' - ay)).natAbs < 2 ^ 43 := lz_bits h.u1 h.v1
theorem Six.l2 (h : Six ax ay bx by' cx cy) : (lz (cx - ax) (cy - ay)).natAbs < 2 ^ 43 := lz_bits h.u2 h.v2
theorem Six.t (h : Six ax ay bx by' cx cy) : (tri ax ay bx by' cx cy).natAbs < 2 ^ 43 := nb_sub (wide_lt h.u1 h.v2) (wide_lt h.v1 h.u2)
theorem Six.t2 (h : Six ax ay bx by' cx cy) : (2 * tri ax ay bx by' cx cy).natAbs < 2 ^ 44 := by
  have := h.t
  omega
theorem Six.x1 (h : Six ax ay bx by' cx cy) : (cX1 ax ay bx by' cx cy).natAbs < 2 ^ 65 := nb_sub (wide_lt h.l1 h.v2) (wide_lt h.l2 h.v1)
theorem Six.y1 (h : Six ax ay bx by' cx cy) : (cY1 ax ay bx by' cx cy).natAbs < 2 ^ 65 := nb_sub (wide_lt h.l2 h.u1) (wide_lt h.l1 h.u2)
theorem Six.xn (h : Six ax ay bx by' cx cy) : (cXn ax ay bx by' cx cy).natAbs < 2 ^ 66 := nb_add (wide_lt (a := 21) (by have := h.a.1; have := h.a.2.1; omega) h.t2) h.x1
theorem Six.yn (h : Six ax ay bx by' cx cy) : (cYn ax ay bx by' cx cy).natAbs < 2 ^ 66 := nb_add (wide_lt (a := 21) (by have := h.a.2.2; omega) h.t2) h.y1
theorem Six.place (h : Six ax ay bx by' cx cy) (t : tri ax ay bx by' cx cy ≠ 0) : PlOk (ctx ax ay bx by' cx cy) (cty ax ay bx by' cx cy) (ctd ax ay bx by' cx cy) := by
  have h1 := h.xn
  have h2 := h.yn
  have h3 := h.t2
  exact place_ok (show cDn ax ay bx by' cx cy ≠ 0 by unfold cDn; omega) (by omega) (by omega) (by unfold cDn; omega)
/-- the centre is as far from all three, times its last number's square -/
theorem centre_far (t : tri ax ay bx by' cx cy ≠ 0) : ∃ g : Int, g ≠ 0 ∧ g * ctx ax ay bx by' cx cy = cXn ax ay bx by' cx cy ∧ g * cty ax ay bx by' cx cy = cYn ax ay bx by' cx cy ∧ g * ctd ax ay bx by' cx cy = cDn ax ay bx by' cx cy := by
  have hd : cDn ax ay bx by' cx cy ≠ 0 := by unfold cDn; omega
  exact ⟨_, gs_ne hd, mul_fdiv (gs_dvd (g3_dx _ _ _)), mul_fdiv (gs_dvd (g3_dy _ _ _)), mul_fdiv (gs_dvd (g3_dd _ _ _))⟩
theorem spread_scale (g x y d u v : Int) : g * g * spread x y d u v = spread (g * x) (g * y) (g * d) u v := by
  unfold spread
  grind
theorem far_a : spread (cXn ax ay bx by' cx cy) (cYn ax ay bx by' cx cy) (cDn ax ay bx by' cx cy) ax ay = cTop ax ay bx by' cx cy := by
  unfold spread cXn cYn cDn cTop
  grind
theorem far_b : spread (cXn ax ay bx by' cx cy) (cYn ax ay bx by' cx cy) (cDn ax ay bx by' cx cy) bx by' = cTop ax ay bx by' cx cy := by
  unfold spread cXn cYn cDn cTop cX1 cY1 tri lz
  grind
theorem far_c : spread (cXn ax ay bx by' cx cy) (cYn ax ay bx by' cx cy) (cDn ax ay bx by' cx cy) cx cy = cTop ax ay bx by' cx cy := by
  unfold spread cXn cYn cDn cTop cX1 cY1 tri lz
  grind
theorem sq_cancel {g p q : Int} (h : g ≠ 0) (e : g * g * p = g * g * q) : p = q := Int.eq_of_mul_eq_mul_left (Int.mul_ne_zero h h) e
theorem centre_ab (t : tri ax ay bx by' cx cy ≠ 0) : spread (ctx ax ay bx by' cx cy) (cty ax ay bx by' cx cy) (ctd ax ay bx by' cx cy) ax ay = spread (ctx ax ay bx by' cx cy) (cty ax ay bx by' cx cy) (ctd ax ay bx by' cx cy) bx by' := by
  obtain ⟨g, hg, e1, e2, e3⟩ := centre_far t
  refine sq_cancel hg ?_
  rw [spread_scale, spread_scale, e1, e2, e3, far_a, far_b]
theorem centre_ac (t : tri ax ay bx by' cx cy ≠ 0) : spread (ctx ax ay bx by' cx cy) (cty ax ay bx by' cx cy) (ctd ax ay bx by' cx cy) ax ay = spread (ctx ax ay bx by' cx cy) (cty ax ay bx by' cx cy) (ctd ax ay bx by' cx cy) cx cy := by
  obtain ⟨g, hg, e1, e2, e3⟩ := centre_far t
  refine sq_cancel hg ?_
  rw [spread_scale, spread_scale, e1, e2, e3, far_a, far_c]
end
section
variable {P : Program} {w : World} {K : PySem.W.Frag} {mg : Str → Option Value} {base : Heap}
def spLift : Sp := fun vs H Q _ => ∃ (a b : Addr) (ax ay bx by' : Int), vs = [.ref a, .ref b] ∧ Sit H a ax ay ∧ Sit H b bx by' ∧ Bd 1000000 ax ay ∧ Bd 1000000 bx by' ∧ newRes H Q (.tup [.int (bx - ax), .int (by' - ay), .int (lz (bx - ax) (by' - ay))])
def spPlOf : Sp := fun vs H Q _ => ∃ x y d : Int, vs = [.int x, .int y, .int d] ∧ d ≠ 0 ∧ d.natAbs < 2 ^ 8000 ∧ newRes H Q (.tup [.int (x.fdiv (gs x y d)), .int (y.fdiv (gs x y d)), .int (d.fdiv (gs x y d))])
theorem gs_div {x y d : Int} (h : d ≠ 0) (hd : d.natAbs < 2 ^ 8000) (z : Int) : CDivE z (gs x y d) := ⟨gs_ne h, by rw [gs_abs]; exact Nat.lt_of_le_of_lt (g3_le h) hd⟩
/-- the circle's tuple: a place and a fraction -/
structure Cir (H : Hp) (p : Addr) (X Y D n m : Int) : Prop where
  ex : ∃ pc pf : Addr, H p = some (.tup [.ref pc, .ref pf]) ∧ Pla H pc X Y D ∧ Tup2 H pf n m
def spCirT (K : PySem.W.Frag) : Sp := fun vs H Q _ => ∃ (a b c : Addr) (ax ay bx by' cx cy : Int), vs = [.ref a, .ref b, .ref c] ∧ Sit H a ax ay ∧ Sit H b bx by' ∧ Sit H c cx cy ∧ Six ax ay bx by' cx cy ∧ tri ax ay bx by' cx cy ≠ 0 ∧
  ∀ (p : Addr) H', Same H H' → H p = none → Cir H' p (ctx ax ay bx by' cx cy) (cty ax ay bx by' cx cy) (ctd ax ay bx by' cx cy) (cTop ax ay bx by' cx cy / gcf (cTop ax ay bx by' cx cy) (cBot ax ay bx by' cx cy)) (cBot ax ay bx by' cx cy / gcf (cTop ax ay bx by' cx cy) (cBot ax ay bx by' cx cy)) → Q (.ref p) H'
theorem sq_pos {t : Int} (h : t ≠ 0) : 0 < t * t := by
  have z := sq_nn t
  have w : t * t ≠ 0 := Int.mul_ne_zero h h
  omega
theorem g3_shift (a b x y d : Int) : g3 (a * d + x) (b * d + y) d = g3 x y d := by
  have key : ∀ a b x y : Int, g3 x y d ∣ g3 (a * d + x) (b * d + y) d := fun a b x y => by
    have h1 := g3_dx x y d
    have h2 := g3_dy x y d
    have h3 := g3_dd x y d
    refine Nat.dvd_gcd (Nat.dvd_gcd ?_ ?_) (Int.ofNat_dvd_left.mp h3)
    · exact Int.ofNat_dvd_left.mp (Int.dvd_add (Int.dvd_mul_of_dvd_right h3) h1)
    · exact Int.ofNat_dvd_left.mp (Int.dvd_add (Int.dvd_mul_of_dvd_right h3) h2)
  refine Nat.dvd_antisymm ?_ (key a b x y)
  have z := key (-a) (-b) (a * d + x) (b * d + y)
  rwa [show -a * d + (a * d + x) = x by grind, show -b * d + (b * d + y) = y by grind] at z
theorem gs_shift (a b x y d : Int) : gs (a * d + x) (b * d + y) d = gs x y d := by
  unfold gs
  rw [g3_shift]
theorem shift_fdiv {g a d x : Int} (hg : g ≠ 0) (hd : g ∣ d) (hx : g ∣ x) : (a * d + x).fdiv g = a * d.fdiv g + x.fdiv g := by
  have e1 := mul_fdiv hd
  have e2 := mul_fdiv hx
  have : a * d + x = g * (a * d.fdiv g + x.fdiv g) := by grind
  rw [this]
  exact Int.mul_fdiv_cancel_left _ hg
theorem cgcf_scale {s t b : Int} (h : 0 < s) : gcf (s * t) (s * b) = s * gcf t b := by
  unfold gcf
  rw [Int.natAbs_mul, Int.natAbs_mul, Nat.gcd_mul_left, Int.natCast_mul, Int.natAbs_of_nonneg (Int.le_of_lt h)]
theorem cfrac_scale {s t b z : Int} (h : 0 < s) : s * z / gcf (s * t) (s * b) = z / gcf t b := by
  rw [cgcf_scale h]
  exact Int.mul_ediv_mul_of_pos _ _ h
theorem cir_is {ax ay bx by' cx cy : Int} (t : tri ax ay bx by' cx cy ≠ 0) : ∃ X Y D : Int, X = (cX1 ax ay bx by' cx cy).fdiv (gs (cX1 ax ay bx by' cx cy) (cY1 ax ay bx by' cx cy) (2 * tri ax ay bx by' cx cy)) ∧ Y = (cY1 ax ay bx by' cx cy).fdiv (gs (cX1 ax ay bx by' cx cy) (cY1 ax ay bx by' cx cy) (2 * tri ax ay bx by' cx cy)) ∧ D = (2 * tri ax ay bx by' cx cy).fdiv (gs (cX1 ax ay bx by' cx cy) (cY1 ax ay bx by' cx cy) (2 * tri ax ay bx by' cx cy)) ∧
    ctx ax ay bx by' cx cy = ax * D + X ∧ cty ax ay bx by' cx cy = ay * D + Y ∧ ctd ax ay bx by' cx cy = D ∧ 0 < D * D ∧ cTop ax ay bx by' cx cy / gcf (cTop ax ay bx by' cx cy) (cBot ax ay bx by' cx cy) = (X * X + Y * Y) / gcf (X * X + Y * Y) (D * D) ∧ cBot ax ay bx by' cx cy / gcf (cTop ax ay bx by' cx cy) (cBot ax ay bx by' cx cy) = D * D / gcf (X * X + Y * Y) (D * D) := by
  have hd : 2 * tri ax ay bx by' cx cy ≠ 0 := by omega
  have hg := gs_ne (x := cX1 ax ay bx by' cx cy) (y := cY1 ax ay bx by' cx cy) hd
  have ex := mul_fdiv (gs_dvd (g3_dx (cX1 ax ay bx by' cx cy) (cY1 ax ay bx by' cx cy) (2 * tri ax ay bx by' cx cy)))
  have ey := mul_fdiv (gs_dvd (g3_dy (cX1 ax ay bx by' cx cy) (cY1 ax ay bx by' cx cy) (2 * tri ax ay bx by' cx cy)))
  have ed := mul_fdiv (gs_dvd (g3_dd (cX1 ax ay bx by' cx cy) (cY1 ax ay bx by' cx cy) (2 * tri ax ay bx by' cx cy)))
  have sh := gs_shift ax ay (cX1 ax ay bx by' cx cy) (cY1 ax ay bx by' cx cy) (2 * tri ax ay bx by' cx cy)
  refine ⟨_, _, _, rfl, rfl, rfl, ?_, ?_, ?_, ?_⟩
  · unfold ctx cXn cYn cDn
    rw [sh]
    exact shift_fdiv hg (gs_dvd (g3_dd _ _ _)) (gs_dvd (g3_dx _ _ _))
  · unfold cty cXn cYn cDn
    rw [sh]
    exact shift_fdiv hg (gs_dvd (g3_dd _ _ _)) (gs_dvd (g3_dy _ _ _))
  · unfold ctd cXn cYn cDn
    rw [sh]
  · unfold cTop cBot
    generalize (gs (cX1 ax ay bx by' cx cy) (cY1 ax ay bx by' cx cy) (2 * tri ax ay bx by' cx cy)) = g at *
    generalize (cX1 ax ay bx by' cx cy).fdiv g = X at *
    generalize (cY1 ax ay bx by' cx cy).fdiv g = Y at *
    generalize hD : (2 * tri ax ay bx by' cx cy).fdiv g = D at *
    rw [← ex, ← ey, ← ed]
    have D0 : D ≠ 0 := fun z => hd (by rw [← ed, z, Int.mul_zero])
    have e1 : g * X * (g * X) + g * Y * (g * Y) = g * g * (X * X + Y * Y) := by grind
    have e2 : g * D * (g * D) = g * g * (D * D) := by grind
    rw [e1, e2]
    exact ⟨sq_pos D0, cfrac_scale (sq_pos hg), cfrac_scale (sq_pos hg)⟩
set_option pp.maxSteps 300 in
/-- four sites -/
def sp4 (K : PySem.W.Frag) (ok : Int → Int → Int → Int → Int → Int → Int → Int → Prop) (v : Int → Int → Int → Int → Int → Int → Int → Int → V) : Sp := fun vs H Q _ => ∃ (a b c d : Addr) (ax ay bx by' cx cy dx dy : Int), vs = [.ref a, .ref b, .ref c, .ref d] ∧ Sit H a ax ay ∧ Sit H b bx by' ∧ Sit H c cx cy ∧ Sit H d dx dy ∧ Six ax ay bx by' cx cy ∧ Bd 1000000 dx dy ∧ ok ax ay bx by' cx cy dx dy ∧ ∀ H', Same H H' → Q (v ax ay bx by' cx cy dx dy) H'
theorem sg_small (n : Int) : -1 ≤ sg n ∧ sg n ≤ 1 := by
  unfold sg
  split
  · omega
  · split <;> omega
def lsd (ax ay bx by' cx cy dx dy : Int) : Int := sg (vol ax ay bx by' cx cy dx dy) * sg (tri ax ay bx by' cx cy)
theorem hov_is (ax ay bx by' cx cy dx dy : Int) : ((ax - dx) * (ax - dx) + (ay - dy) * (ay - dy)) * ((by' - dy) * (cx - dx) - (bx - dx) * (cy - dy)) + ((bx - dx) * (bx - dx) + (by' - dy) * (by' - dy)) * ((ax - dx) * (cy - dy) - (ay - dy) * (cx - dx)) + ((cx - dx) * (cx - dx) + (cy - dy) * (cy - dy)) * ((ay - dy) * (bx - dx) - (ax - dx) * (by' - dy)) = vol ax ay bx by' cx cy dx dy := by
  unfold vol lz
  grind
theorem ok_hov {f : Addr} {fd : FuncData} {k : Nat} (F : Fun K "height_over" "height_over" sHov f fd) : FnOk P w K mg base CX0 (k + 1) f fd ["a", "b", "c", "d"] (sp4 K (fun _ _ _ _ _ _ _ _ => True) fun ax ay bx by' cx cy dx dy => .int (vol ax ay bx by' cx cy dx dy)) := by
  refine F.ok scHov (fun vs H Q E h => ?_) (fun cdv A outer s H vs Q E hr h => ?_)
  · obtain ⟨a, b, c, d, ax, ay, bx, by', cx, cy, dx, dy, rfl, _⟩ := h
    rfl
  · obtain ⟨a, b, c, d, ax, ay, bx, by', cx, cy, dx, dy, rfl, ha, hb, hc, hd, six, dd, _, q⟩ := h
    have nd := scHov.nd
    have ua : (ax - dx).natAbs < 2 ^ 21 := df_bits ⟨dd.1, dd.2.1⟩ ⟨six.a.1, six.a.2.1⟩
    have va : (ay - dy).natAbs < 2 ^ 21 := df_bits dd.2.2 six.a.2.2
    have ub : (bx - dx).natAbs < 2 ^ 21 := df_bits ⟨dd.1, dd.2.1⟩ ⟨six.b.1, six.b.2.1⟩
    have vb : (by' - dy).natAbs < 2 ^ 21 := df_bits dd.2.2 six.b.2.2
    have uc : (cx - dx).natAbs < 2 ^ 21 := df_bits ⟨dd.1, dd.2.1⟩ ⟨six.c.1, six.c.2.1⟩
    have vc : (cy - dy).natAbs < 2 ^ 21 := df_bits dd.2.2 six.c.2.2
    have la : ((ax - dx) * (ax - dx) + (ay - dy) * (ay - dy)).natAbs < 2 ^ 43 := lz_bits ua va
    have lb : ((bx - dx) * (bx - dx) + (by' - dy) * (by' - dy)).natAbs < 2 ^ 43 := lz_bits ub vb
    have lc : ((cx - dx) * (cx - dx) + (cy - dy) * (cy - dy)).natAbs < 2 ^ 43 := lz_bits uc vc
    have q : Q (.int (vol ax ay bx by' cx cy dx dy)) H := q H (Same.refl H)
    rw [← hov_is] at q
    refine ⟨_, (pss_cons (ps_asg (pv 3) (pg_tup (by rfl) (pgs_cons (pg_name (i := 4) nd rfl (.inl rfl)) (pgs_cons (pg_name (i := 5) nd rfl (.inl rfl)) pgs_nil)))) (pss_cons (ps_par (i := 6) (j := 7) rfl nd rfl rfl (by decide) rfl rfl (pa_cons (pe_op op_sub (pe_ix ix_tup (pv 0) pe_int (fun _ _ => rfl)) (pv 4)) (pa_cons (pe_op op_sub (pe_ix ix_tup (pv 0) pe_int (fun _ _ => rfl)) (pv 5)) pa_nil)) rfl) (pss_cons (ps_par (i := 8) (j := 9) rfl nd rfl rfl (by decide) rfl rfl (pa_cons (pe_op op_sub (pe_ix ix_tup (pv 1) pe_int (fun _ _ => rfl)) (pv 4)) (pa_cons (pe_op op_sub (pe_ix ix_tup (pv 1) pe_int (fun _ _ => rfl)) (pv 5)) pa_nil)) rfl) (pss_cons (ps_par (i := 10) (j := 11) rfl nd rfl rfl (by decide) rfl rfl (pa_cons (pe_op op_sub (pe_ix ix_tup (pv 2) pe_int (fun _ _ => rfl)) (pv 4)) (pa_cons (pe_op op_sub (pe_ix ix_tup (pv 2) pe_int (fun _ _ => rfl)) (pv 5)) pa_nil)) rfl) (pss_one (ps_ret (pe_op op_add (pe_op op_add (pe_op op_mul (pe_op op_add (pe_op op_mul (pv 6) (pv 6)) (pe_op op_mul (pv 7) (pv 7))) (pe_op op_sub (pe_op op_mul (pv 9) (pv 10)) (pe_op op_mul (pv 8) (pv 11)))) (pe_op op_mul (pe_op op_add (pe_op op_mul (pv 8) (pv 8)) (pe_op op_mul (pv 9) (pv 9))) (pe_op op_sub (pe_op op_mul (pv 6) (pv 11)) (pe_op op_mul (pv 7) (pv 10))))) (pe_op op_mul (pe_op op_add (pe_op op_mul (pv 10) (pv 10)) (pe_op op_mul (pv 11) (pv 11))) (pe_op op_sub (pe_op op_mul (pv 7) (pv 8)) (pe_op op_mul (pv 6) (pv 9))))))))))), ?_⟩
    refine ⟨_, rfl, _, _, rfl, SqT.of hd, rfl, _, _, rfl, _, _, rfl, rfl, _, rfl, _, _, _, _, rfl, rfl, SqT.of ha, at0_ _ _, _, rfl, _, _, rfl, rfl, _, rfl, _, _, _, _, rfl, rfl, SqT.of ha, at1_ _ _, _, rfl, _, _, rfl, rfl, _, _, rfl, _, rfl, _, _, _, _, rfl, rfl, SqT.of hb, at0_ _ _, _, rfl, _, _, rfl, rfl, _, rfl, _, _, _, _, rfl, rfl, SqT.of hb, at1_ _ _, _, rfl, _, _, rfl, rfl, _, _, rfl, _, rfl, _, _, _, _, rfl, rfl, SqT.of hc, at0_ _ _, _, rfl, _, _, rfl, rfl, _, rfl, _, _, _, _, rfl, rfl, SqT.of hc, at1_ _ _, _, rfl, _, _, rfl, rfl, _, _, rfl, _, rfl, _, rfl, _, _, rfl, rfl, cmL (nb_up ua (by decide)), _, rfl, _, rfl, _, _, rfl, rfl, cmL (nb_up va (by decide)), _, _, rfl, rfl, _, rfl, _, rfl, _, _, rfl, rfl, cmL (nb_up vb (by decide)), _, rfl, _, rfl, _, _, rfl, rfl, cmL (nb_up ub (by decide)), _, _, rfl, rfl, _, _, rfl, rfl, cmL (nb_up la (by decide)), _, rfl, _, rfl, _, _, rfl, rfl, cmL (nb_up ub (by decide)), _, rfl, _, rfl, _, _, rfl, rfl, cmL (nb_up vb (by decide)), _, _, rfl, rfl, _, rfl, _, rfl, _, _, rfl, rfl, cmL (nb_up ua (by decide)), _, rfl, _, rfl, _, _, rfl, rfl, cmL (nb_up va (by decide)), _, _, rfl, rfl, _, _, rfl, rfl, cmL (nb_up lb (by decide)), _, _, rfl, rfl, _, rfl, _, rfl, _, _, rfl, rfl, cmL (nb_up uc (by decide)), _, rfl, _, rfl, _, _, rfl, rfl, cmL (nb_up vc (by decide)), _, _, rfl, rfl, _, rfl, _, rfl, _, _, rfl, rfl, cmL (nb_up va (by decide)), _, rfl, _, rfl, _, _, rfl, rfl, cmL (nb_up ua (by decide)), _, _, rfl, rfl, _, _, rfl, rfl, cmL (nb_up lc (by decide)), _, _, rfl, rfl, ?_⟩
    exact q
def spSpread : Sp := fun vs H Q _ => ∃ (p s : Addr) (x y d u v : Int), vs = [.ref p, .ref s] ∧ Pla H p x y d ∧ PlOk x y d ∧ Sit H s u v ∧ Bd 1000000 u v ∧ Q (.int (spread x y d u v)) H
theorem tri_ne {t : Int} (h : t ≠ 0) : ¬ (V.int t = V.int 0) := fun z => h (V.int.inj z)
theorem ok_lside {f fA fC fH fS : Addr} {fd fdA fdC fdH fdS : FuncData} {k : Nat} (F : Fun K "lift_side" "lift_side" sLSide f fd)
    (GA : FnOk P w K mg base CX0 (k + 1) fA fdA ["a", "b", "c"] (sp3 K fun ax ay bx by' cx cy => .int (tri ax ay bx by' cx cy))) (gA : mg "turn_of_sites" = some (.ref fA)) (kA : PySem.W.keepIn K (.ref fA) = true) (bA : Binds K fdA ["a", "b", "c"] []) (GC : FnOk P w K mg base CX0 (k + 1) fC fdC ["value", "name"] spCheck) (gC : mg "check_site" = some (.ref fC)) (kC : PySem.W.keepIn K (.ref fC) = true) (bC : Binds K fdC ["value", "name"] []) (GH : FnOk P w K mg base CX0 (k + 1) fH fdH ["a", "b", "c", "d"] (sp4 K (fun _ _ _ _ _ _ _ _ => True) fun ax ay bx by' cx cy dx dy => .int (vol ax ay bx by' cx cy dx dy))) (gH : mg "height_over" = some (.ref fH)) (kH : PySem.W.keepIn K (.ref fH) = true) (bH : Binds K fdH ["a", "b", "c", "d"] []) (GS : FnOk P w K mg base CX0 (k + 1) fS fdS ["number"] spSign) (gS : mg "sign" = some (.ref fS)) (kS : PySem.W.keepIn K (.ref fS) = true) (bS : Binds K fdS ["number"] []) :
    FnOk P w K mg base CX0 (k + 2) f fd ["a", "b", "c", "d"] (sp4 K (fun ax ay bx by' cx cy _ _ => tri ax ay bx by' cx cy ≠ 0) fun ax ay bx by' cx cy dx dy => .int (lsd ax ay bx by' cx cy dx dy)) := by
  refine F.ok scLSide (fun vs H Q E h => ?_) (fun cdv A outer s H vs Q E hr h => ?_)
  · obtain ⟨a, b, c, d, ax, ay, bx, by', cx, cy, dx, dy, rfl, _⟩ := h
    rfl
  · obtain ⟨a, b, c, d, ax, ay, bx, by', cx, cy, dx, dy, rfl, ha, hb, hc, hd, six, dd, t, q⟩ := h
    have nd := scLSide.nd
    have z := sg_small (vol ax ay bx by' cx cy dx dy)
    refine ⟨_, (pss_cons (ps_set (i := 4) nd rfl (.inl rfl) (pe_call GA hr (by rfl) gA kA bA .nil pass0 (pa_cons (pv 0) (pa_cons (pv 1) (pa_cons (pv 2) pa_nil))))) (pss_cons (ps_if (pt_cmpR op_isN (pv 4) pe_non (nomark _)) pss_never pss_nil) (pss_cons (ps_expr (pe_call GC hr (by rfl) gC kC bC .nil pass0 (pa_cons (pv 3) (pa_cons pe_str pa_nil)))) (pss_cons (ps_if (pt_cmpR op_eq (pv 4) pe_int (nomark _)) (pss_one ps_never) pss_nil) (pss_one (ps_ret (pe_op op_mul (pe_call GS hr (by rfl) gS kS bS .nil pass0 (pa_cons (pe_call GH hr (by rfl) gH kH bH .nil pass0 (pa_cons (pv 0) (pa_cons (pv 1) (pa_cons (pv 2) (pa_cons (pv 3) pa_nil))))) pa_nil)) (pe_call GS hr (by rfl) gS kS bS .nil pass0 (pa_cons (pv 4) pa_nil))))))))), ?_⟩
    exact ⟨_, rfl, _, rfl, _, rfl, a, b, c, ax, ay, bx, by', cx, cy, rfl, ha, hb, hc, six.a, six.b, six.c, _, rfl, rfl, _, rfl, _, rfl, _, _, _, _, rfl, hd, dd, _, rfl, rfl, _, rfl, itf (tri_ne t) ⟨_, rfl, _, rfl, _, rfl, _, rfl, a, b, c, d, ax, ay, bx, by', cx, cy, dx, dy, rfl, ha, hb, hc, hd, six, dd, True.intro, fun H' s' => ⟨vol ax ay bx by' cx cy dx dy, rfl, _, rfl, tri ax ay bx by' cx cy, rfl, _, _, rfl, rfl, .inl ⟨by omega, by omega⟩, q _ s'⟩⟩⟩
theorem ok_inc {f fL : Addr} {fd fdL : FuncData} {k : Nat} (F : Fun K "in_circle" "in_circle" sInC f fd)
    (GL : FnOk P w K mg base CX0 (k + 1) fL fdL ["a", "b", "c", "d"] (sp4 K (fun ax ay bx by' cx cy _ _ => tri ax ay bx by' cx cy ≠ 0) fun ax ay bx by' cx cy dx dy => .int (lsd ax ay bx by' cx cy dx dy))) (gL : mg "lift_side" = some (.ref fL)) (kL : PySem.W.keepIn K (.ref fL) = true) (bL : Binds K fdL ["a", "b", "c", "d"] []) :
    FnOk P w K mg base CX0 (k + 2) f fd ["a", "b", "c", "d"] (sp4 K (fun ax ay bx by' cx cy _ _ => tri ax ay bx by' cx cy ≠ 0) fun ax ay bx by' cx cy dx dy => .int (-lsd ax ay bx by' cx cy dx dy)) := by
  refine F.ok scInC (fun vs H Q E h => ?_) (fun cdv A outer s H vs Q E hr h => ?_)
  · obtain ⟨a, b, c, d, ax, ay, bx, by', cx, cy, dx, dy, rfl, _⟩ := h
    rfl
  · obtain ⟨a, b, c, d, ax, ay, bx, by', cx, cy, dx, dy, rfl, ha, hb, hc, hd, six, dd, t, q⟩ := h
    refine ⟨_, pss_one (ps_ret (pe_un un_neg (pe_call GL hr (by rfl) gL kL bL .nil pass0 (pa_cons (pv 0) (pa_cons (pv 1) (pa_cons (pv 2) (pa_cons (pv 3) pa_nil))))))), ?_⟩
    exact ⟨_, rfl, _, rfl, _, rfl, _, rfl, a, b, c, d, ax, ay, bx, by', cx, cy, dx, dy, rfl, ha, hb, hc, hd, six, dd, t, fun H' s' => ⟨_, rfl, q _ s'⟩⟩
def spSquare (K : PySem.W.Frag) : Sp := fun vs H Q _ => ∃ (p s : Addr) (x y d u v : Int), vs = [.ref p, .ref s] ∧ Pla H p x y d ∧ PlOk x y d ∧ Sit H s u v ∧ Bd 1000000 u v ∧
  newRes H Q (.tup [.int (spread x y d u v / gcf (spread x y d u v) (d * d)), .int (d * d / gcf (spread x y d u v) (d * d))])
def spNearer (K : PySem.W.Frag) : Sp := fun vs H Q _ => ∃ (p s t : Addr) (x y d u v u2 v2 : Int), vs = [.ref p, .ref s, .ref t] ∧ Pla H p x y d ∧ PlOk x y d ∧ Sit H s u v ∧ Bd 1000000 u v ∧ Sit H t u2 v2 ∧ Bd 1000000 u2 v2 ∧
  Q (.int (sg (spread x y d u v - spread x y d u2 v2))) H
end
/-! ### a purse of draws -/
section
variable {P : Program} {w : World} {K : PySem.W.Frag} {mg : Str → Option Value} {base : Heap}
/-- a source whose count of draws is at most N -/
def SrcB (N : Nat) (H : Hp) (s : Addr) : Prop := ∃ a b c : Int, H s = some (.lst [.int a, .int b, .int c]) ∧ b.natAbs < 2 ^ 31 ∧ c.natAbs ≤ N
theorem SrcB.src {N : Nat} {H : Hp} {s : Addr} (h : SrcB N H s) : Src H s := by
  obtain ⟨a, b, c, e, _⟩ := h
  exact ⟨a, b, c, e⟩
theorem SrcB.up {N M : Nat} {H : Hp} {s : Addr} (h : SrcB N H s) (le : N ≤ M) : SrcB M H s := by
  obtain ⟨a, b, c, e, k, l⟩ := h
  exact ⟨a, b, c, e, k, Nat.le_trans l le⟩
theorem SrcB.same {N : Nat} {H H' : Hp} {s : Addr} (h : SrcB N H s) (k : Same H H') : SrcB N H' s := by
  obtain ⟨a, b, c, e, r⟩ := h
  exact ⟨a, b, c, k _ _ e, r⟩
abbrev s__law_purse : Stmt := topS 30
abbrev n__law_purse : List Str := ["_law_figure"]
theorem c__law_purse : FnScope n__law_purse ["_law_figure"] (defScope s__law_purse) := ⟨rfl, rfl, rfl, by decide +kernel, rfl, by decide +kernel, by decide +kernel⟩
def p__law_purse : Sp := fun vs H Q _ => ∃ n : Int, vs = [.int n] ∧ ∀ p H', Same H H' → H p = none → SrcB 3 H' p → Q (.ref p) H'
set_option pp.maxSteps 300 in
theorem ok__law_purse  (D : Df K mg "_law_purse" s__law_purse ["_law_figure"]) (mabs : mg "abs" = none) (mint : mg "int" = none) : Cl P w K mg base CX0 "_law_purse" 1 ["_law_figure"] (p__law_purse) := by
  refine D.cl fun f fd F => F.ok c__law_purse (fun vs H Q E h => ?_) (fun cdv A outer s H vs Q E hr h => ?_)
  · obtain ⟨n, rfl, q⟩ := h
    rfl
  · obtain ⟨n, rfl, q⟩ := h
    have nd := c__law_purse.nd
    have hu : _ := hu_of hr
    refine ⟨_, (pss_one (ps_ret (pe_lstG (pa_cons (pe_op op_mul (pe_callB call_abs (by rfl) mabs (by decide +kernel) (pa_cons (pv 0) pa_nil)) (pe_callTy call_int1 (by rfl) mint (by decide +kernel) (pa_cons (pe_cmpR op_ge (pe_callB call_abs (by rfl) mabs (by decide +kernel) (pa_cons (pv 0) pa_nil)) (pe_op op_pow pe_int pe_int) (nomark _)) pa_nil))) (pa_cons (pe_op op_mod (pe_callTy call_int1 (by rfl) mint (by decide +kernel) (pa_cons (pv 0) pa_nil)) pe_int) (pa_cons pe_int pa_nil)))))), ?_⟩
    refine ⟨_, rfl, _, rfl, _, rfl, _, rfl, _, _, rfl, rfl, ⟨by decide, by decide, by decide⟩, _, _, rfl, rfl, .inr ⟨_, rfl, _, _, rfl, rfl, .inr (b2i_small _), ?_⟩⟩
    refine ⟨_, rfl, .inl ⟨_, rfl, _, _, rfl, rfl, (by decide : (0 : Int) < 2147483563), by show 3 ≤ sizeLine; decide, fun p H' sm np e => q p H' sm np ⟨_, _, _, e, ?_, by decide⟩⟩⟩
    have h1 : 0 ≤ n % 2147483563 := Int.emod_nonneg _ (by decide)
    have h2 : n % 2147483563 < 2147483563 := Int.emod_lt_of_pos _ (by decide)
    omega
abbrev s__law_coin : Stmt := topS 31
abbrev n__law_coin : List Str := ["_law_purse_here", "_law_many", "_law_got_so", "_law_hashed"]
theorem c__law_coin : FnScope n__law_coin ["_law_purse_here", "_law_many"] (defScope s__law_coin) := ⟨rfl, rfl, rfl, by decide +kernel, rfl, by decide +kernel, by decide +kernel⟩
def p__law_coin : Sp := fun vs H Q _ => ∃ (s : Addr) (m : Int) (N : Nat), vs = [.ref s, .int m] ∧ SrcB N H s ∧ N < 2 ^ 40 ∧ 0 < m ∧ m.natAbs < 2 ^ 8000 ∧ ∀ (r : Int) H', 0 ≤ r → r < m → Stp s H H' → SrcB (N + 1) H' s → Q (.int r) H'
set_option pp.maxSteps 300 in
theorem ok__law_coin  (D : Df K mg "_law_coin" s__law_coin ["_law_purse_here", "_law_many"]) (mint : mg "int" = none) : Cl P w K mg base CX0 "_law_coin" 1 ["_law_purse_here", "_law_many"] (p__law_coin) := by
  refine D.cl fun f fd F => F.ok c__law_coin (fun vs H Q E h => ?_) (fun cdv A outer s H vs Q E hr h => ?_)
  · obtain ⟨s, m, N, rfl, ⟨a, b, c, hs, hb, hc⟩, hN, hm, hw, q⟩ := h
    rfl
  · obtain ⟨s, m, N, rfl, ⟨a, b, c, hs, hb, hc⟩, hN, hm, hw, q⟩ := h
    have nd := c__law_coin.nd
    have hu : _ := hu_of hr
    refine ⟨_, (pss_cons (ps_if (pt_cmpR op_gt (pe_ix ix_list (pv 0) pe_int (fun _ _ => rfl)) pe_int (nomark _)) (pss_cons (ps_set (i := 2) nd rfl (.inl rfl) (pe_op op_mod (pe_callTy call_int1 (by rfl) mint (by decide +kernel) (pa_cons (pe_ix ix_list (pv 0) pe_int (fun _ _ => rfl)) pa_nil)) (pv 1))) (pss_cons (ps_asg (pe_op op_fdivE (pe_ix ix_list (pv 0) pe_int (fun _ _ => rfl)) (pv 1)) (pg_sub (pv 0) pe_int set_list)) (pss_one (ps_ret (pv 2))))) pss_nil) (pss_cons (ps_asg (pe_op op_add (pe_ix ix_list (pv 0) pe_int (fun _ _ => rfl)) pe_int) (pg_sub (pv 0) pe_int set_list)) (pss_cons (ps_set (i := 3) nd rfl (.inl rfl) (pe_op op_mod (pe_callTy call_int1 (by rfl) mint (by decide +kernel) (pa_cons (pe_op op_pow (pe_op op_add (pe_op op_add (pe_ix ix_list (pv 0) pe_int (fun _ _ => rfl)) (pe_op op_mul pe_int (pe_ix ix_list (pv 0) pe_int (fun _ _ => rfl)))) pe_int) pe_int) pa_nil)) pe_int)) (pss_cons (ps_set (i := 3) nd rfl (.inl rfl) (pe_op op_mod (pe_callTy call_int1 (by rfl) mint (by decide +kernel) (pa_cons (pe_op op_mul (pe_op op_add (pv 3) (pe_op op_mul pe_int (pe_ix ix_list (pv 0) pe_int (fun _ _ => rfl)))) (pe_op op_add (pe_op op_fdiv (pv 3) pe_int) pe_int)) pa_nil)) pe_int)) (pss_one (ps_ret (pe_op op_mod (pe_callTy call_int1 (by rfl) mint (by decide +kernel) (pa_cons (pe_op op_fdiv (pe_op op_mod (pe_callTy call_int1 (by rfl) mint (by decide +kernel) (pa_cons (pe_op op_mul (pv 3) (pe_op op_add (pe_op op_fdiv (pv 3) pe_int) pe_int)) pa_nil)) pe_int) pe_int) pa_nil)) (pv 1)))))))), ?_⟩
    have at0 : ∀ x y z : V, atI [x, y, z] 0 = some x := fun _ _ _ => rfl
    refine ⟨_, rfl, s, _, _, _, rfl, rfl, SqL.of hs, at0 _ _ _, _, _, rfl, rfl, _, rfl, ite2 (fun g => ?_) fun g => ?_⟩
    · refine ⟨_, rfl, s, _, _, _, rfl, rfl, SqL.of hs, at0 _ _ _, .inl ⟨_, rfl, _, rfl, _, _, rfl, rfl, hm, ?_⟩⟩
      refine ⟨_, rfl, s, _, _, _, rfl, rfl, SqL.of hs, at0 _ _ _, _, rfl, _, _, rfl, rfl, ⟨by omega, hw⟩, ?_⟩
      refine ⟨_, rfl, s, _, 0, 0, rfl, rfl, hs, rfl, ?_⟩
      exact ⟨_, rfl, q _ _ (Int.emod_nonneg _ (Int.ne_of_gt hm)) (Int.emod_lt_of_pos _ hm) ((Stp.refl ⟨a, b, c, hs⟩).turn _ _ _) ⟨_, b, c, upd_same, hb, Nat.le_succ_of_le hc⟩⟩
    · refine ⟨_, rfl, s, _, _, _, rfl, rfl, SqL.of hs, rfl, _, _, rfl, rfl, ?_⟩
      refine ⟨_, rfl, s, _, 2, 2, rfl, rfl, hs, rfl, ?_⟩
      have h2 : (upd H s (.lst [.int a, .int b, .int (c + 1)])) s = some (.lst [.int a, .int b, .int (c + 1)]) := upd_same
      have p1 : (0 : Int) < 2147483587 := by decide
      have p2 : (0 : Int) < 2147483549 := by decide
      have p3 : (0 : Int) < 2147483543 := by decide
      have small : (b + 70001 * (c + 1) + 7).natAbs < 2 ^ 64 := by omega
      refine ⟨_, rfl, s, _, _, _, rfl, rfl, SqL.of h2, rfl, _, rfl, s, _, _, _, rfl, rfl, SqL.of h2, rfl, _, _, rfl, rfl, .inl ⟨by decide, by decide⟩, _, _, rfl, rfl, _, _, rfl, rfl, _, _, rfl, rfl, ⟨by decide, by decide, small⟩, .inl ⟨_, rfl, _, _, rfl, rfl, p1, ?_⟩⟩
      have b1 : 0 ≤ (b + 70001 * (c + 1) + 7) ^ (3 : Int).toNat % 2147483587 := Int.emod_nonneg _ (Int.ne_of_gt p1)
      have b2 : (b + 70001 * (c + 1) + 7) ^ (3 : Int).toNat % 2147483587 < 2147483587 := Int.emod_lt_of_pos _ p1
      generalize (b + 70001 * (c + 1) + 7) ^ (3 : Int).toNat % 2147483587 = n1 at b1 b2
      refine ⟨_, rfl, _, rfl, s, _, _, _, rfl, rfl, SqL.of h2, rfl, _, _, rfl, rfl, .inl ⟨by decide, by decide⟩, _, _, rfl, rfl, _, rfl, _, _, rfl, rfl, ⟨by decide, by decide⟩, _, _, rfl, rfl, _, _, rfl, rfl, .inr ⟨by omega, by omega⟩, .inl ⟨_, rfl, _, _, rfl, rfl, p2, ?_⟩⟩
      have c1 : 0 ≤ (n1 + 11 * (c + 1)) * (n1 / 1009 + 48611) % 2147483549 := Int.emod_nonneg _ (Int.ne_of_gt p2)
      have c2 : (n1 + 11 * (c + 1)) * (n1 / 1009 + 48611) % 2147483549 < 2147483549 := Int.emod_lt_of_pos _ p2
      generalize (n1 + 11 * (c + 1)) * (n1 / 1009 + 48611) % 2147483549 = n2 at c1 c2
      refine ⟨_, rfl, _, rfl, _, _, rfl, rfl, ⟨by decide, by decide⟩, _, _, rfl, rfl, _, _, rfl, rfl, .inl ⟨by omega, by omega⟩, .inl ⟨_, rfl, _, _, rfl, rfl, p3, ?_⟩⟩
      refine ⟨_, _, rfl, rfl, ⟨by decide, by decide⟩, .inl ⟨_, rfl, _, rfl, _, _, rfl, rfl, hm, ?_⟩⟩
      exact q _ _ (Int.emod_nonneg _ (Int.ne_of_gt hm)) (Int.emod_lt_of_pos _ hm) ((Stp.refl ⟨a, b, c, hs⟩).turn _ _ _) ⟨a, b, c + 1, upd_same, hb, by omega⟩
abbrev s__law_pick : Stmt := topS 32
abbrev n__law_pick : List Str := ["_law_purse_here", "_law_some"]
theorem c__law_pick : FnScope n__law_pick ["_law_purse_here", "_law_some"] (defScope s__law_pick) := ⟨rfl, rfl, rfl, by decide +kernel, rfl, by decide +kernel, by decide +kernel⟩
/-- one of some, the source at s -/
def p__law_pick : Sp := fun vs H Q _ => ∃ (s l : Addr) (xs : List V) (N : Nat), vs = [.ref s, .ref l] ∧ SrcB N H s ∧ N < 2 ^ 40 ∧ H l = some (.lst xs) ∧ l ≠ s ∧ 0 < xs.length ∧ xs.length ≤ 1000 ∧ ∀ x H', x ∈ xs → Stp s H H' → SrcB (N + 1) H' s → Q x H'
set_option pp.maxSteps 300 in
theorem ok__law_pick  (D : Df K mg "_law_pick" s__law_pick ["_law_purse_here", "_law_some"]) (C__law_coin : Cl P w K mg base CX0 "_law_coin" 1 ["_law_purse_here", "_law_many"] (p__law_coin)) (mlen : mg "len" = none) : Cl P w K mg base CX0 "_law_pick" 2 ["_law_purse_here", "_law_some"] (p__law_pick) := by
  refine D.cl fun f fd F => F.ok c__law_pick (fun vs H Q E h => ?_) (fun cdv A outer s H vs Q E hr h => ?_)
  · obtain ⟨s, l, xs, N, rfl, hs, hN, hl, hne, h0, h1, q⟩ := h
    rfl
  · obtain ⟨s, l, xs, N, rfl, hs, hN, hl, hne, h0, h1, q⟩ := h
    have nd := c__law_pick.nd
    have hu : _ := hu_of hr
    refine ⟨_, (pss_one (ps_ret (pe_ix ix_list (pv 1) (pe_cl C__law_coin (hr.mono (by decide)) (by rfl) pass0 (pa_cons (pv 0) (pa_cons (pe_callB call_len_seq (by rfl) mlen (by decide +kernel) (pa_cons (pv 1) pa_nil)) pa_nil))) (fun _ _ => rfl)))), ?_⟩
    refine ⟨_, rfl, _, rfl, _, rfl, l, xs, rfl, .inl (SqL.of hl), ?_⟩
    have small : ((xs.length : Nat) : Int).natAbs < 2 ^ 8000 := by
      rw [Int.natAbs_natCast]
      exact Nat.lt_of_le_of_lt h1 (Nat.lt_of_lt_of_le (by decide : 1000 < 2 ^ 10) (Nat.pow_le_pow_right (by decide) (by decide)))
    refine ⟨s, xs.length, N, rfl, hs, hN, by omega, small, fun r H' r0 r1 st sb => ?_⟩
    have hl' := st.keep l _ hne hl
    have hr : r.toNat < xs.length := by omega
    have at1 : atI xs r = some xs[r.toNat] := by
      have z := atI_nat (List.getElem?_eq_getElem hr)
      rwa [Int.toNat_of_nonneg r0] at z
    exact ⟨l, xs, r, _, rfl, rfl, SqL.of hl', at1, q _ _ (List.getElem_mem hr) st sb⟩
end
/-! ### counts of shapes -/
section
variable {P : Program} {w : World} {K : PySem.W.Frag} {mg : Str → Option Value} {base : Heap}
abbrev s_is_integer : Stmt := topS 5
abbrev n_is_integer : List Str := ["value"]
theorem c_is_integer : FnScope n_is_integer ["value"] (defScope s_is_integer) := ⟨rfl, rfl, rfl, by decide +kernel, rfl, by decide +kernel, by decide +kernel⟩
def p_is_integer : Sp := fun vs H Q _ => ∃ n : Int, vs = [.int n] ∧ Q (.bl true) H
set_option pp.maxSteps 300 in
theorem ok_is_integer  (D : Df K mg "is_integer" s_is_integer ["value"]) (mbool : mg "bool" = none) (mint : mg "int" = none) (misinstance : mg "isinstance" = none) : Cl P w K mg base CX0 "is_integer" 1 ["value"] (p_is_integer) := by
  refine D.cl fun f fd F => F.ok c_is_integer (fun vs H Q E h => ?_) (fun cdv A outer s H vs Q E hr h => ?_)
  · obtain ⟨n, rfl, q⟩ := h
    rfl
  · obtain ⟨n, rfl, q⟩ := h
    have nd := c_is_integer.nd
    have hu : _ := hu_of hr
    refine ⟨_, (pss_one (ps_ret (pe_and (pe_callB call_isi (by rfl) misinstance (by decide +kernel) (pa_cons (pv 0) (pa_cons (pe_bltn (v := .ty "int") (by rfl) mint (by decide +kernel) rfl) pa_nil))) (pe_one (pe_not (pe_callB call_isi (by rfl) misinstance (by decide +kernel) (pa_cons (pv 0) (pa_cons (pe_bltn (v := .ty "bool") (by rfl) mbool (by decide +kernel) rfl) pa_nil)))))))), ?_⟩
    repeat array_get_dec
    exact q
abbrev s_check_number : Stmt := topS 15
abbrev n_check_number : List Str := ["value", "least", "name"]
theorem c_check_number : FnScope n_check_number ["value", "least", "name"] (defScope s_check_number) := ⟨rfl, rfl, rfl, by decide +kernel, rfl, by decide +kernel, by decide +kernel⟩
def p_check_number : Sp := fun vs H Q _ => ∃ (n l : Int) (z : Str), vs = [.int n, .int l, .str z] ∧ l ≤ n ∧ Q .non H
set_option pp.maxSteps 300 in
theorem ok_check_number  (D : Df K mg "check_number" s_check_number ["value", "least", "name"]) (C_is_integer : Cl P w K mg base CX0 "is_integer" 1 ["value"] (p_is_integer)) : Cl P w K mg base CX0 "check_number" 2 ["value", "least", "name"] (p_check_number) := by
  refine D.cl fun f fd F => F.ok c_check_number (fun vs H Q E h => ?_) (fun cdv A outer s H vs Q E hr h => ?_)
  · obtain ⟨n, l, z, rfl, hl, q⟩ := h
    rfl
  · obtain ⟨n, l, z, rfl, hl, q⟩ := h
    have nd := c_check_number.nd
    have hu : _ := hu_of hr
    refine ⟨_, (pss_one (ps_if (PW.pt (pw_or (pt_not (pt_val (pe_cl C_is_integer (hr.mono (by decide)) (by rfl) pass0 (pa_cons (pv 0) pa_nil)))) (pw_or1 (pt_cmpR op_lt (pv 0) (pv 1) (nomark _))))) (pss_one ps_never) pss_nil)), ?_⟩
    repeat array_get_dec
    exact q
abbrev s_check_size : Stmt := topS 16
abbrev n_check_size : List Str := ["value", "least", "name"]
theorem c_check_size : FnScope n_check_size ["value", "least", "name"] (defScope s_check_size) := ⟨rfl, rfl, rfl, by decide +kernel, rfl, by decide +kernel, by decide +kernel⟩
def p_check_size : Sp := fun vs H Q _ => ∃ (n l : Int) (z : Str), vs = [.int n, .int l, .str z] ∧ l ≤ n ∧ n ≤ 1000000 ∧ Q .non H
set_option pp.maxSteps 300 in
theorem ok_check_size {tLARGEST : Tok} (D : Df K mg "check_size" s_check_size ["value", "least", "name"]) (C_check_number : Cl P w K mg base CX0 "check_number" 2 ["value", "least", "name"] (p_check_number)) (mLARGEST : mg "LARGEST" = some (.int 1000000 tLARGEST)) : Cl P w K mg base CX0 "check_size" 3 ["value", "least", "name"] (p_check_size) := by
  refine D.cl fun f fd F => F.ok c_check_size (fun vs H Q E h => ?_) (fun cdv A outer s H vs Q E hr h => ?_)
  · obtain ⟨n, l, z, rfl, hl, hh, q⟩ := h
    rfl
  · obtain ⟨n, l, z, rfl, hl, hh, q⟩ := h
    have nd := c_check_size.nd
    have hu : _ := hu_of hr
    refine ⟨_, (pss_cons (ps_expr (pe_cl C_check_number (hr.mono (by decide)) (by rfl) pass0 (pa_cons (pv 0) (pa_cons (pv 1) (pa_cons (pv 2) pa_nil))))) (pss_one (ps_if (pt_cmpR op_gt (pv 0) (pe_glob (v := .int 1000000) (by rfl) mLARGEST ⟨_, rfl⟩) (nomark _)) (pss_one ps_never) pss_nil))), ?_⟩
    repeat array_get_dec
    refine ⟨hl, ?_⟩
    repeat array_get_dec
    exact q
end
section
variable {P : Program} {w : World} {K : PySem.W.Frag} {mg : Str → Option Value} {base : Heap}
theorem Stp.one {s : Addr} {H H' : Hp} (h : Src H s) (a : Same H H') : Stp s H H' := (Stp.refl h).same a
abbrev s_check_ends : Stmt := topS 17
abbrev n_check_ends : List Str := ["low", "high"]
theorem c_check_ends : FnScope n_check_ends ["low", "high"] (defScope s_check_ends) := ⟨rfl, rfl, rfl, by decide +kernel, rfl, by decide +kernel, by decide +kernel⟩
def p_check_ends : Sp := fun vs H Q _ => ∃ l h : Int, vs = [.int l, .int h] ∧ -1000000 ≤ l ∧ l ≤ h ∧ h ≤ 1000000 ∧ Q .non H
set_option pp.maxSteps 300 in
theorem ok_check_ends {tLARGEST : Tok} (D : Df K mg "check_ends" s_check_ends ["low", "high"]) (C_check_size : Cl P w K mg base CX0 "check_size" 3 ["value", "least", "name"] (p_check_size)) (mLARGEST : mg "LARGEST" = some (.int 1000000 tLARGEST)) : Cl P w K mg base CX0 "check_ends" 4 ["low", "high"] (p_check_ends) := by
  refine D.cl fun f fd F => F.ok c_check_ends (fun vs H Q E h => ?_) (fun cdv A outer s H vs Q E hr h => ?_)
  · obtain ⟨l, h, rfl, h1, h2, h3, q⟩ := h
    rfl
  · obtain ⟨l, h, rfl, h1, h2, h3, q⟩ := h
    have nd := c_check_ends.nd
    have hu : _ := hu_of hr
    refine ⟨_, (pss_cons (ps_expr (pe_cl C_check_size (hr.mono (by decide)) (by rfl) pass0 (pa_cons (pv 0) (pa_cons (pe_un un_neg (pe_glob (v := .int 1000000) (by rfl) mLARGEST ⟨_, rfl⟩)) (pa_cons pe_str pa_nil))))) (pss_cons (ps_expr (pe_cl C_check_size (hr.mono (by decide)) (by rfl) pass0 (pa_cons (pv 1) (pa_cons (pe_un un_neg (pe_glob (v := .int 1000000) (by rfl) mLARGEST ⟨_, rfl⟩)) (pa_cons pe_str pa_nil))))) (pss_one (ps_if (pt_cmpR op_gt (pv 0) (pv 1) (nomark _)) (pss_one ps_never) pss_nil)))), ?_⟩
    repeat array_get_dec
    refine ⟨by omega, by omega, ?_⟩
    repeat array_get_dec
    refine ⟨by omega, by omega, ?_⟩
    repeat array_get_dec
    exact q
abbrev s_counts_of : Stmt := topS 18
abbrev n_counts_of : List Str := ["many", "faces", "triangles"]
theorem c_counts_of : FnScope n_counts_of ["many", "faces", "triangles"] (defScope s_counts_of) := ⟨rfl, rfl, rfl, by decide +kernel, rfl, by decide +kernel, by decide +kernel⟩
def p_counts_of : Sp := fun vs H Q _ => ∃ n f t : Int, vs = [.int n, .int f, .int t] ∧ ∀ p H', Same H H' → H p = none → H' p = some (.tup [.int n, .int (n + f - 1), .int f, .int t]) → Q (.ref p) H'
set_option pp.maxSteps 300 in
theorem ok_counts_of  (D : Df K mg "counts_of" s_counts_of ["many", "faces", "triangles"]) : Cl P w K mg base CX0 "counts_of" 1 ["many", "faces", "triangles"] (p_counts_of) := by
  refine D.cl fun f fd F => F.ok c_counts_of (fun vs H Q E h => ?_) (fun cdv A outer s H vs Q E hr h => ?_)
  · obtain ⟨n, f, t, rfl, q⟩ := h
    rfl
  · obtain ⟨n, f, t, rfl, q⟩ := h
    have nd := c_counts_of.nd
    have hu : _ := hu_of hr
    refine ⟨_, (pss_one (ps_ret (pe_tupG (pa_cons (pv 0) (pa_cons (pe_op op_sub (pe_op op_add (pv 0) (pv 1)) pe_int) (pa_cons (pv 1) (pa_cons (pv 2) pa_nil))))))), ?_⟩
    repeat array_get_dec
    exact q
abbrev s_row_counts : Stmt := topS 19
abbrev n_row_counts : List Str := ["many"]
theorem c_row_counts : FnScope n_row_counts ["many"] (defScope s_row_counts) := ⟨rfl, rfl, rfl, by decide +kernel, rfl, by decide +kernel, by decide +kernel⟩
def p_row_counts : Sp := fun vs H Q _ => ∃ n : Int, vs = [.int n] ∧ ∀ p H', Same H H' → H p = none → H' p = some (.tup [.int n, .int (n - 1), .int 0, .int 0]) → Q (.ref p) H'
set_option pp.maxSteps 300 in
theorem ok_row_counts  (D : Df K mg "row_counts" s_row_counts ["many"]) : Cl P w K mg base CX0 "row_counts" 1 ["many"] (p_row_counts) := by
  refine D.cl fun f fd F => F.ok c_row_counts (fun vs H Q E h => ?_) (fun cdv A outer s H vs Q E hr h => ?_)
  · obtain ⟨n, rfl, q⟩ := h
    rfl
  · obtain ⟨n, rfl, q⟩ := h
    have nd := c_row_counts.nd
    have hu : _ := hu_of hr
    refine ⟨_, (pss_one (ps_ret (pe_tupG (pa_cons (pv 0) (pa_cons (pe_op op_sub (pv 0) pe_int) (pa_cons pe_int (pa_cons pe_int pa_nil))))))), ?_⟩
    repeat array_get_dec
    exact q
abbrev s_grid_counts : Stmt := topS 20
abbrev n_grid_counts : List Str := ["m", "n", "squares"]
theorem c_grid_counts : FnScope n_grid_counts ["m", "n"] (defScope s_grid_counts) := ⟨rfl, rfl, rfl, by decide +kernel, rfl, by decide +kernel, by decide +kernel⟩
/-- the four counts of a grid -/
def gridC (m n : Int) : List Int := [m * n, 2 * m * n - m - n, (m - 1) * (n - 1), 2 * ((m - 1) * (n - 1))]
theorem gridC_row {m n : Int} (h : m = 1 ∨ n = 1) : gridC m n = [m * n, m * n - 1, 0, 0] := by
  unfold gridC
  rcases h with rfl | rfl
  · simp
    omega
  · simp
    omega
theorem gridC_in (m n : Int) : gridC m n = [m * n, m * n + (m - 1) * (n - 1) - 1, (m - 1) * (n - 1), 2 * ((m - 1) * (n - 1))] := by
  unfold gridC
  rw [show 2 * m * n - m - n = m * n + (m - 1) * (n - 1) - 1 by grind]
def p_grid_counts : Sp := fun vs H Q _ => ∃ m n : Int, vs = [.int m, .int n] ∧ 1 ≤ m ∧ m ≤ 1000000 ∧ 1 ≤ n ∧ n ≤ 1000000 ∧ ∀ p H', Same H H' → H p = none → H' p = some (.tup ((gridC m n).map V.int)) → Q (.ref p) H'
set_option pp.maxSteps 300 in
theorem ok_grid_counts  (D : Df K mg "grid_counts" s_grid_counts ["m", "n"]) (C_check_size : Cl P w K mg base CX0 "check_size" 3 ["value", "least", "name"] (p_check_size)) (C_counts_of : Cl P w K mg base CX0 "counts_of" 1 ["many", "faces", "triangles"] (p_counts_of)) (C_row_counts : Cl P w K mg base CX0 "row_counts" 1 ["many"] (p_row_counts)) : Cl P w K mg base CX0 "grid_counts" 4 ["m", "n"] (p_grid_counts) := by
  refine D.cl fun f fd F => F.ok c_grid_counts (fun vs H Q E h => ?_) (fun cdv A outer s H vs Q E hr h => ?_)
  · obtain ⟨m, n, rfl, m1, m2, n1, n2, q⟩ := h
    rfl
  · obtain ⟨m, n, rfl, m1, m2, n1, n2, q⟩ := h
    have nd := c_grid_counts.nd
    have hu : _ := hu_of hr
    refine ⟨_, (pss_cons (ps_expr (pe_cl C_check_size (hr.mono (by decide)) (by rfl) pass0 (pa_cons (pv 0) (pa_cons pe_int (pa_cons pe_str pa_nil))))) (pss_cons (ps_expr (pe_cl C_check_size (hr.mono (by decide)) (by rfl) pass0 (pa_cons (pv 1) (pa_cons pe_int (pa_cons pe_str pa_nil))))) (pss_cons (ps_if (PW.pt (pw_or (pt_cmpR op_eq (pv 0) pe_int (nomark _)) (pw_or1 (pt_cmpR op_eq (pv 1) pe_int (nomark _))))) (pss_one (ps_ret (pe_cl C_row_counts (hr.mono (by decide)) (by rfl) pass0 (pa_cons (pe_op op_mulW (pv 0) (pv 1)) pa_nil)))) pss_nil) (pss_cons (ps_set (i := 2) nd rfl (.inl rfl) (pe_op op_mulW (pe_op op_sub (pv 0) pe_int) (pe_op op_sub (pv 1) pe_int))) (pss_one (ps_ret (pe_cl C_counts_of (hr.mono (by decide)) (by rfl) pass0 (pa_cons (pe_op op_mulW (pv 0) (pv 1)) (pa_cons (pv 2) (pa_cons (pe_op op_mulW pe_int (pv 2)) pa_nil)))))))))), ?_⟩
    repeat array_get_dec
    refine ⟨by omega, by omega, ?_⟩
    repeat array_get_dec
    refine ⟨by omega, by omega, ?_⟩
    repeat array_get_dec
    refine w_ifd (fun e => ?_) fun e => ?_
    · have e : m = 1 := V.int.inj e
      repeat array_get_dec
      exact fun p H' s1 n1 e1 => q p H' s1 n1 (by rw [gridC_row (.inl e)]; exact e1)
    repeat array_get_dec
    refine w_ifd (fun e => ?_) fun e => ?_
    · have e : n = 1 := V.int.inj e
      repeat array_get_dec
      exact fun p H' s1 n1 e1 => q p H' s1 n1 (by rw [gridC_row (.inr e)]; exact e1)
    repeat array_get_dec
    exact fun p H' s1 n1 e1 => q p H' s1 n1 (by rw [gridC_in]; exact e1)
abbrev s_check_two_rows : Stmt := topS 21
abbrev n_check_two_rows : List Str := ["m", "n", "shift"]
theorem c_check_two_rows : FnScope n_check_two_rows ["m", "n", "shift"] (defScope s_check_two_rows) := ⟨rfl, rfl, rfl, by decide +kernel, rfl, by decide +kernel, by decide +kernel⟩
def p_check_two_rows : Sp := fun vs H Q _ => ∃ m n t : Int, vs = [.int m, .int n, .int t] ∧ 1 ≤ m ∧ m ≤ 1000000 ∧ 1 ≤ n ∧ n ≤ 1000000 ∧ -1000000 ≤ t ∧ t ≤ 1000000 ∧ Q .non H
set_option pp.maxSteps 300 in
theorem ok_check_two_rows {tLARGEST : Tok} (D : Df K mg "check_two_rows" s_check_two_rows ["m", "n", "shift"]) (C_check_size : Cl P w K mg base CX0 "check_size" 3 ["value", "least", "name"] (p_check_size)) (mLARGEST : mg "LARGEST" = some (.int 1000000 tLARGEST)) : Cl P w K mg base CX0 "check_two_rows" 4 ["m", "n", "shift"] (p_check_two_rows) := by
  refine D.cl fun f fd F => F.ok c_check_two_rows (fun vs H Q E h => ?_) (fun cdv A outer s H vs Q E hr h => ?_)
  · obtain ⟨m, n, t, rfl, m1, m2, n1, n2, t1, t2, q⟩ := h
    rfl
  · obtain ⟨m, n, t, rfl, m1, m2, n1, n2, t1, t2, q⟩ := h
    have nd := c_check_two_rows.nd
    have hu : _ := hu_of hr
    refine ⟨_, (pss_cons (ps_expr (pe_cl C_check_size (hr.mono (by decide)) (by rfl) pass0 (pa_cons (pv 0) (pa_cons pe_int (pa_cons pe_str pa_nil))))) (pss_cons (ps_expr (pe_cl C_check_size (hr.mono (by decide)) (by rfl) pass0 (pa_cons (pv 1) (pa_cons pe_int (pa_cons pe_str pa_nil))))) (pss_one (ps_expr (pe_cl C_check_size (hr.mono (by decide)) (by rfl) pass0 (pa_cons (pv 2) (pa_cons (pe_un un_neg (pe_glob (v := .int 1000000) (by rfl) mLARGEST ⟨_, rfl⟩)) (pa_cons pe_str pa_nil)))))))), ?_⟩
    repeat array_get_dec
    refine ⟨by omega, by omega, ?_⟩
    repeat array_get_dec
    refine ⟨by omega, by omega, ?_⟩
    repeat array_get_dec
    refine ⟨by omega, by omega, ?_⟩
    repeat array_get_dec
    exact q
abbrev s_two_rows_counts : Stmt := topS 22
abbrev n_two_rows_counts : List Str := ["m", "n", "shift", "above"]
theorem c_two_rows_counts : FnScope n_two_rows_counts ["m", "n", "shift"] (defScope s_two_rows_counts) := ⟨rfl, rfl, rfl, by decide +kernel, rfl, by decide +kernel, by decide +kernel⟩
/-- how much of the two rows is above one another -/
def above (m n t : Int) : Int := if (if t + n - 1 < m - 1 then t + n - 1 else m - 1) - (if t > 0 then t else 0) > 0 then (if t + n - 1 < m - 1 then t + n - 1 else m - 1) - (if t > 0 then t else 0) else 0
/-- the four counts of two rows -/
def rowsC (m n t : Int) : List Int := [m + n, 2 * (m + n) - 3 - above m n t, m + n - 2 - above m n t, m + n - 2]
theorem if_max (a b : Int) : (if b > a then b else a) = max a b := by
  split <;> omega
theorem if_min (a b : Int) : (if b < a then b else a) = min a b := by
  split <;> omega
theorem above_is (m n t : Int) : above m n t = max 0 (min (m - 1) (t + n - 1) - max 0 t) := by
  unfold above
  simp only [if_max, if_min]
theorem rowsC_two {m n t : Int} (m1 : 1 ≤ m) (n1 : 1 ≤ n) (h : m + n = 2) : rowsC m n t = [2, 2 - 1, 0, 0] := by
  have hm : m = 1 := by omega
  have hn : n = 1 := by omega
  subst hm; subst hn
  have : above 1 1 t = 0 := by
    rw [above_is]
    omega
  unfold rowsC
  rw [this]
  rfl
theorem rowsC_in (m n t : Int) : rowsC m n t = [m + n, m + n + (m + n - 2 - above m n t) - 1, m + n - 2 - above m n t, m + n - 2] := by
  unfold rowsC
  rw [show 2 * (m + n) - 3 - above m n t = m + n + (m + n - 2 - above m n t) - 1 by omega]
def p_two_rows_counts : Sp := fun vs H Q _ => ∃ m n t : Int, vs = [.int m, .int n, .int t] ∧ 1 ≤ m ∧ m ≤ 1000000 ∧ 1 ≤ n ∧ n ≤ 1000000 ∧ -1000000 ≤ t ∧ t ≤ 1000000 ∧ ∀ p H', Same H H' → H p = none → H' p = some (.tup ((rowsC m n t).map V.int)) → Q (.ref p) H'
set_option pp.maxSteps 300 in
theorem ok_two_rows_counts  (D : Df K mg "two_rows_counts" s_two_rows_counts ["m", "n", "shift"]) (C_counts_of : Cl P w K mg base CX0 "counts_of" 1 ["many", "faces", "triangles"] (p_counts_of)) (C_row_counts : Cl P w K mg base CX0 "row_counts" 1 ["many"] (p_row_counts)) (C_check_two_rows : Cl P w K mg base CX0 "check_two_rows" 4 ["m", "n", "shift"] (p_check_two_rows)) (mmax : mg "max" = none) (mmin : mg "min" = none) : Cl P w K mg base CX0 "two_rows_counts" 5 ["m", "n", "shift"] (p_two_rows_counts) := by
  refine D.cl fun f fd F => F.ok c_two_rows_counts (fun vs H Q E h => ?_) (fun cdv A outer s H vs Q E hr h => ?_)
  · obtain ⟨m, n, t, rfl, m1, m2, n1, n2, t1, t2, q⟩ := h
    rfl
  · obtain ⟨m, n, t, rfl, m1, m2, n1, n2, t1, t2, q⟩ := h
    have nd := c_two_rows_counts.nd
    have hu : _ := hu_of hr
    refine ⟨_, (pss_cons (ps_expr (pe_cl C_check_two_rows (hr.mono (by decide)) (by rfl) pass0 (pa_cons (pv 0) (pa_cons (pv 1) (pa_cons (pv 2) pa_nil))))) (pss_cons (ps_if (pt_cmpR op_eq (pe_op op_add (pv 0) (pv 1)) pe_int (nomark _)) (pss_one (ps_ret (pe_cl C_row_counts (hr.mono (by decide)) (by rfl) pass0 (pa_cons pe_int pa_nil)))) pss_nil) (pss_cons (ps_set (i := 3) nd rfl (.inl rfl) (pe_callB (call_max2 (by rfl)) (by rfl) mmax (by decide +kernel) (pa_cons pe_int (pa_cons (pe_op op_sub (pe_callB (call_min2 (by rfl)) (by rfl) mmin (by decide +kernel) (pa_cons (pe_op op_sub (pv 0) pe_int) (pa_cons (pe_op op_sub (pe_op op_add (pv 2) (pv 1)) pe_int) pa_nil))) (pe_callB (call_max2 (by rfl)) (by rfl) mmax (by decide +kernel) (pa_cons pe_int (pa_cons (pv 2) pa_nil)))) pa_nil)))) (pss_one (ps_ret (pe_cl C_counts_of (hr.mono (by decide)) (by rfl) pass0 (pa_cons (pe_op op_add (pv 0) (pv 1)) (pa_cons (pe_op op_sub (pe_op op_sub (pe_op op_add (pv 0) (pv 1)) pe_int) (pv 3)) (pa_cons (pe_op op_sub (pe_op op_add (pv 0) (pv 1)) pe_int) pa_nil))))))))), ?_⟩
    repeat array_get_dec
    refine ⟨by omega, by omega, by omega, by omega, by omega, by omega, ?_⟩
    repeat array_get_dec
    refine w_ifd (fun e => ?_) fun e => ?_
    · have e : m + n = 2 := V.int.inj e
      repeat array_get_dec
      exact fun p H' s1 n1' e1 => q p H' s1 n1' (by rw [rowsC_two m1 n1 e]; exact e1)
    repeat array_get_dec
    exact fun p H' s1 n1' e1 => q p H' s1 n1' (by rw [rowsC_in]; exact e1)
abbrev s_parabola_counts : Stmt := topS 23
abbrev n_parabola_counts : List Str := ["low", "high", "many", "level"]
theorem c_parabola_counts : FnScope n_parabola_counts ["low", "high"] (defScope s_parabola_counts) := ⟨rfl, rfl, rfl, by decide +kernel, rfl, by decide +kernel, by decide +kernel⟩
/-- how many of a parabola's are level with another one -/
def levl (l h : Int) : Int := if (if h < -l then h else -l) - 1 > 0 then (if h < -l then h else -l) - 1 else 0
theorem levl_is (l h : Int) : levl l h = max 0 (min (-l) h - 1) := by
  unfold levl
  simp only [if_max, if_min]
/-- the four counts of a parabola -/
def parC (l h : Int) : List Int := if h - l + 1 < 3 then [h - l + 1, h - l + 1 - 1, 0, 0] else [h - l + 1, h - l + 1 + (h - l + 1 - 2 - levl l h) - 1, h - l + 1 - 2 - levl l h, h - l + 1 - 2]
def p_parabola_counts : Sp := fun vs H Q _ => ∃ l h : Int, vs = [.int l, .int h] ∧ -1000000 ≤ l ∧ l ≤ h ∧ h ≤ 1000000 ∧ ∀ p H', Same H H' → H p = none → H' p = some (.tup ((parC l h).map V.int)) → Q (.ref p) H'
set_option pp.maxSteps 300 in
theorem ok_parabola_counts  (D : Df K mg "parabola_counts" s_parabola_counts ["low", "high"]) (C_check_ends : Cl P w K mg base CX0 "check_ends" 4 ["low", "high"] (p_check_ends)) (C_counts_of : Cl P w K mg base CX0 "counts_of" 1 ["many", "faces", "triangles"] (p_counts_of)) (C_row_counts : Cl P w K mg base CX0 "row_counts" 1 ["many"] (p_row_counts)) (mmax : mg "max" = none) (mmin : mg "min" = none) : Cl P w K mg base CX0 "parabola_counts" 5 ["low", "high"] (p_parabola_counts) := by
  refine D.cl fun f fd F => F.ok c_parabola_counts (fun vs H Q E h => ?_) (fun cdv A outer s H vs Q E hr h => ?_)
  · obtain ⟨l, h, rfl, h1, h2, h3, q⟩ := h
    rfl
  · obtain ⟨l, h, rfl, h1, h2, h3, q⟩ := h
    have nd := c_parabola_counts.nd
    have hu : _ := hu_of hr
    refine ⟨_, (pss_cons (ps_expr (pe_cl C_check_ends (hr.mono (by decide)) (by rfl) pass0 (pa_cons (pv 0) (pa_cons (pv 1) pa_nil)))) (pss_cons (ps_set (i := 2) nd rfl (.inl rfl) (pe_op op_add (pe_op op_sub (pv 1) (pv 0)) pe_int)) (pss_cons (ps_if (pt_cmpR op_lt (pv 2) pe_int (nomark _)) (pss_one (ps_ret (pe_cl C_row_counts (hr.mono (by decide)) (by rfl) pass0 (pa_cons (pv 2) pa_nil)))) pss_nil) (pss_cons (ps_set (i := 3) nd rfl (.inl rfl) (pe_callB (call_max2 (by rfl)) (by rfl) mmax (by decide +kernel) (pa_cons pe_int (pa_cons (pe_op op_sub (pe_callB (call_min2 (by rfl)) (by rfl) mmin (by decide +kernel) (pa_cons (pe_un un_neg (pv 0)) (pa_cons (pv 1) pa_nil))) pe_int) pa_nil)))) (pss_one (ps_ret (pe_cl C_counts_of (hr.mono (by decide)) (by rfl) pass0 (pa_cons (pv 2) (pa_cons (pe_op op_sub (pe_op op_sub (pv 2) pe_int) (pv 3)) (pa_cons (pe_op op_sub (pv 2) pe_int) pa_nil)))))))))), ?_⟩
    repeat array_get_dec
    refine ⟨by omega, by omega, by omega, ?_⟩
    repeat array_get_dec
    refine w_ifd (fun e => ?_) fun e => ?_
    · have e : h - l + 1 < 3 := e
      repeat array_get_dec
      exact fun p H' s1 n1 e1 => q p H' s1 n1 (by unfold parC; rw [if_pos e]; exact e1)
    have e : ¬ h - l + 1 < 3 := e
    repeat array_get_dec
    exact fun p H' s1 n1 e1 => q p H' s1 n1 (by unfold parC; rw [if_neg e]; exact e1)
abbrev s_zigzag_counts : Stmt := topS 24
abbrev n_zigzag_counts : List Str := ["m", "n", "triangles"]
theorem c_zigzag_counts : FnScope n_zigzag_counts ["m", "n"] (defScope s_zigzag_counts) := ⟨rfl, rfl, rfl, by decide +kernel, rfl, by decide +kernel, by decide +kernel⟩
/-- the four counts of a zigzag -/
def zigC (m n : Int) : List Int := [m * n, m * n + (2 * m * n - 2 * m - n) - 1, 2 * m * n - 2 * m - n, 2 * m * n - 2 * m - n]
def p_zigzag_counts : Sp := fun vs H Q _ => ∃ m n : Int, vs = [.int m, .int n] ∧ 2 ≤ m ∧ m ≤ 1000000 ∧ 2 ≤ n ∧ n ≤ 1000000 ∧ ∀ p H', Same H H' → H p = none → H' p = some (.tup ((zigC m n).map V.int)) → Q (.ref p) H'
set_option pp.maxSteps 300 in
theorem ok_zigzag_counts  (D : Df K mg "zigzag_counts" s_zigzag_counts ["m", "n"]) (C_check_size : Cl P w K mg base CX0 "check_size" 3 ["value", "least", "name"] (p_check_size)) (C_counts_of : Cl P w K mg base CX0 "counts_of" 1 ["many", "faces", "triangles"] (p_counts_of)) : Cl P w K mg base CX0 "zigzag_counts" 4 ["m", "n"] (p_zigzag_counts) := by
  refine D.cl fun f fd F => F.ok c_zigzag_counts (fun vs H Q E h => ?_) (fun cdv A outer s H vs Q E hr h => ?_)
  · obtain ⟨m, n, rfl, m1, m2, n1, n2, q⟩ := h
    rfl
  · obtain ⟨m, n, rfl, m1, m2, n1, n2, q⟩ := h
    have nd := c_zigzag_counts.nd
    have hu : _ := hu_of hr
    refine ⟨_, (pss_cons (ps_expr (pe_cl C_check_size (hr.mono (by decide)) (by rfl) pass0 (pa_cons (pv 0) (pa_cons pe_int (pa_cons pe_str pa_nil))))) (pss_cons (ps_expr (pe_cl C_check_size (hr.mono (by decide)) (by rfl) pass0 (pa_cons (pv 1) (pa_cons pe_int (pa_cons pe_str pa_nil))))) (pss_cons (ps_set (i := 2) nd rfl (.inl rfl) (pe_op op_sub (pe_op op_sub (pe_op op_mulW (pe_op op_mulW pe_int (pv 0)) (pv 1)) (pe_op op_mulW pe_int (pv 0))) (pv 1))) (pss_one (ps_ret (pe_cl C_counts_of (hr.mono (by decide)) (by rfl) pass0 (pa_cons (pe_op op_mulW (pv 0) (pv 1)) (pa_cons (pv 2) (pa_cons (pv 2) pa_nil))))))))), ?_⟩
    repeat array_get_dec
    refine ⟨by omega, by omega, ?_⟩
    repeat array_get_dec
    refine ⟨by omega, by omega, ?_⟩
    repeat array_get_dec
    exact q
end
/-! ### what the law asks -/
section
variable {P : Program} {w : World} {K : PySem.W.Frag} {mg : Str → Option Value} {base : Heap}
/-- from H0 all stands but the source, of which at most N were drawn -/
structure SB (s : Addr) (N : Nat) (H0 H : Hp) : Prop where
  st : Stp s H0 H
  sb : SrcB N H s
theorem SB.refl {s : Addr} {N : Nat} {H : Hp} (h : SrcB N H s) : SB s N H H := ⟨Stp.refl h.src, h⟩
theorem SB.same {s : Addr} {N : Nat} {H0 H H' : Hp} (h : SB s N H0 H) (k : Same H H') : SB s N H0 H' := ⟨h.st.same k, h.sb.same k⟩
theorem SB.step {s : Addr} {N M : Nat} {H0 H H' : Hp} (h : SB s N H0 H) (a : Stp s H H') (b : SrcB M H' s) : SB s M H0 H' := ⟨h.st.trans a, b⟩
theorem SrcB.ne {N : Nat} {H : Hp} {s p : Addr} (h : SrcB N H s) (e : H p = none) : p ≠ s := h.src.nen e
theorem i_small {m : Int} (h : m.natAbs < 2 ^ 64) : m.natAbs < 2 ^ 8000 := Nat.lt_of_lt_of_le h (Nat.pow_le_pow_right (by decide) (by decide))
abbrev s__law_size : Stmt := topS 33
abbrev n__law_size : List Str := ["_law_purse_here", "_law_least_so"]
theorem c__law_size : FnScope n__law_size ["_law_purse_here", "_law_least_so"] (defScope s__law_size) := ⟨rfl, rfl, rfl, by decide +kernel, rfl, by decide +kernel, by decide +kernel⟩
def p__law_size : Sp := fun vs H Q _ => ∃ (s : Addr) (l : Int) (N : Nat), vs = [.ref s, .int l] ∧ SrcB N H s ∧ N < 2 ^ 39 ∧ 1 ≤ l ∧ l ≤ 2 ∧ ∀ (r : Int) H', l ≤ r → r ≤ 1000000 → Stp s H H' → SrcB (N + 2) H' s → Q (.int r) H'
set_option pp.maxSteps 300 in
theorem ok__law_size  (D : Df K mg "_law_size" s__law_size ["_law_purse_here", "_law_least_so"]) (C__law_coin : Cl P w K mg base CX0 "_law_coin" 1 ["_law_purse_here", "_law_many"] (p__law_coin)) (C__law_pick : Cl P w K mg base CX0 "_law_pick" 2 ["_law_purse_here", "_law_some"] (p__law_pick)) : Cl P w K mg base CX0 "_law_size" 3 ["_law_purse_here", "_law_least_so"] (p__law_size) := by
  refine D.cl fun f fd F => F.ok c__law_size (fun vs H Q E h => ?_) (fun cdv A outer s H vs Q E hr h => ?_)
  · obtain ⟨s, l, N, rfl, hs, hN, l1, l2, q⟩ := h
    rfl
  · obtain ⟨s, l, N, rfl, hs, hN, l1, l2, q⟩ := h
    have nd := c__law_size.nd
    have hu : _ := hu_of hr
    refine ⟨_, (pss_one (ps_ret (pe_op op_add (pv 1) (pe_cl C__law_coin (hr.mono (by decide)) (by rfl) pass0 (pa_cons (pv 0) (pa_cons (pe_cl C__law_pick (hr.mono (by decide)) (by rfl) pass0 (pa_cons (pv 0) (pa_cons (pe_lstG (pa_cons pe_int (pa_cons pe_int (pa_cons (pe_op op_add (pe_op op_sub (pe_op op_pow pe_int pe_int) (pv 1)) pe_int) pa_nil)))) pa_nil))) pa_nil)))))), ?_⟩
    repeat array_get_dec
    refine fun p H1 s1 n1 e1 => ?_
    have b1 := (SB.refl hs).same s1
    refine ⟨s, p, _, N, rfl, b1.sb, by omega, e1, hs.ne n1, by simp, by simp, fun x H2 hx st2 sb2 => ?_⟩
    obtain ⟨m, rfl, m1, m2⟩ : ∃ m : Int, x = .int m ∧ 1 ≤ m ∧ m ≤ 1000000 - l + 1 := by
      simp only [List.mem_cons, List.not_mem_nil, or_false] at hx
      rcases hx with rfl | rfl | rfl
      · exact ⟨3, rfl, by omega, by omega⟩
      · exact ⟨1000, rfl, by omega, by omega⟩
      · refine ⟨_, rfl, ?_, ?_⟩
        · show 1 ≤ (1000000 : Int) - l + 1
          omega
        · show (1000000 : Int) - l + 1 ≤ 1000000 - l + 1
          omega
    refine ⟨s, m, N + 1, rfl, sb2, by omega, by omega, i_small (by omega), fun r H3 r0 r1 st3 sb3 => ?_⟩
    repeat array_get_dec
    exact q _ _ (by omega) (by omega) ((b1.st.trans st2).trans st3) sb3
/-- what a right answer is: s the source, at most N drawn before, at most 500 more within -/
def p_right : Sp := fun vs H Q _ => ∃ (s : Addr) (N : Nat), vs = [.ref s] ∧ SrcB N H s ∧ N < 2 ^ 38 ∧ ∀ H', Stp s H H' → SrcB (N + 500) H' s → Q (.bl true) H'
abbrev s__law_whole : Stmt := topS 34
abbrev n__law_whole : List Str := ["_law_found"]
theorem c__law_whole : FnScope n__law_whole ["_law_found"] (defScope s__law_whole) := ⟨rfl, rfl, rfl, by decide +kernel, rfl, by decide +kernel, by decide +kernel⟩
def p__law_whole : Sp := fun vs H Q _ => ∃ (p : Addr) (a b c d : Int), vs = [.ref p] ∧ H p = some (.tup [.int a, .int b, .int c, .int d]) ∧ a.natAbs < 2 ^ 100 ∧ a + c = b + 1 ∧ c ≤ d ∧ b ≤ 3 * a - 3 ∧ Q (.bl true) H
set_option pp.maxSteps 300 in
theorem ok__law_whole  (D : Df K mg "_law_whole" s__law_whole ["_law_found"]) : Cl P w K mg base CX0 "_law_whole" 1 ["_law_found"] (p__law_whole) := by
  refine D.cl fun f fd F => F.ok c__law_whole (fun vs H Q E h => ?_) (fun cdv A outer s H vs Q E hr h => ?_)
  · obtain ⟨p, a, b, c, d, rfl, hp, ba, h1, h2, h3, q⟩ := h
    rfl
  · obtain ⟨p, a, b, c, d, rfl, hp, ba, h1, h2, h3, q⟩ := h
    have nd := c__law_whole.nd
    have hu : _ := hu_of hr
    refine ⟨_, (pss_one (ps_ret (pe_and (pe_cmpR op_eq (pe_op op_add (pe_ix ix_tup (pv 0) pe_int (fun _ _ => rfl)) (pe_ix ix_tup (pv 0) pe_int (fun _ _ => rfl))) (pe_op op_add (pe_ix ix_tup (pv 0) pe_int (fun _ _ => rfl)) pe_int) (nomark _)) (pe_and (pe_cmpR op_le (pe_ix ix_tup (pv 0) pe_int (fun _ _ => rfl)) (pe_ix ix_tup (pv 0) pe_int (fun _ _ => rfl)) (nomark _)) (pe_one (pe_cmpR op_le (pe_ix ix_tup (pv 0) pe_int (fun _ _ => rfl)) (pe_op op_sub (pe_op op_mulW pe_int (pe_ix ix_tup (pv 0) pe_int (fun _ _ => rfl))) pe_int) (nomark _))))))), ?_⟩
    repeat array_get_dec
    have q : Q (.bl (decide (b ≤ 3 * a - 3))) H := by rw [decide_eq_true h3]; exact q
    exact q
theorem gridC_comm (m n : Int) : gridC m n = gridC n m := by
  unfold gridC
  rw [show m * n = n * m from Int.mul_comm _ _, show (m - 1) * (n - 1) = (n - 1) * (m - 1) from Int.mul_comm _ _, show 2 * m * n - m - n = 2 * n * m - n - m by grind]
theorem grid_whole {m n : Int} (m1 : 1 ≤ m) (n1 : 1 ≤ n) : m * n + (m - 1) * (n - 1) = 2 * m * n - m - n + 1 ∧ (m - 1) * (n - 1) ≤ 2 * ((m - 1) * (n - 1)) ∧ 2 * m * n - m - n ≤ 3 * (m * n) - 3 := by
  have h := Int.mul_nonneg (show 0 ≤ m - 1 by omega) (show 0 ≤ n - 1 by omega)
  have e : (m - 1) * (n - 1) = m * n - m - n + 1 := by grind
  have e2 : 2 * m * n = 2 * (m * n) := Int.mul_assoc _ _ _
  rw [e2]
  rw [e] at h ⊢
  omega
abbrev s__law_grids_right : Stmt := topS 35
abbrev n__law_grids_right : List Str := ["_law_purse_here", "_law_m", "_law_n", "_law_found", "_law_units"]
theorem c__law_grids_right : FnScope n__law_grids_right ["_law_purse_here"] (defScope s__law_grids_right) := ⟨rfl, rfl, rfl, by decide +kernel, rfl, by decide +kernel, by decide +kernel⟩
set_option pp.maxSteps 300 in
theorem ok__law_grids_right  (D : Df K mg "_law_grids_right" s__law_grids_right ["_law_purse_here"]) (C_grid_counts : Cl P w K mg base CX0 "grid_counts" 4 ["m", "n"] (p_grid_counts)) (C__law_size : Cl P w K mg base CX0 "_law_size" 3 ["_law_purse_here", "_law_least_so"] (p__law_size)) (C__law_whole : Cl P w K mg base CX0 "_law_whole" 1 ["_law_found"] (p__law_whole)) : Cl P w K mg base CX0 "_law_grids_right" 5 ["_law_purse_here"] (p_right) := by
  refine D.cl fun f fd F => F.ok c__law_grids_right (fun vs H Q E h => ?_) (fun cdv A outer s H vs Q E hr h => ?_)
  · obtain ⟨s, N, rfl, hs, hN, q⟩ := h
    rfl
  · obtain ⟨s, N, rfl, hs, hN, q⟩ := h
    have nd := c__law_grids_right.nd
    have hu : _ := hu_of hr
    refine ⟨_, (pss_cons (ps_par (i := 1) (j := 2) (by rfl) nd rfl rfl (by decide) rfl rfl (pa_cons (pe_cl C__law_size (hr.mono (by decide)) (by rfl) pass0 (pa_cons (pv 0) (pa_cons pe_int pa_nil))) (pa_cons (pe_cl C__law_size (hr.mono (by decide)) (by rfl) pass0 (pa_cons (pv 0) (pa_cons pe_int pa_nil))) pa_nil)) (by rfl)) (pss_cons (ps_set (i := 3) nd rfl (.inl rfl) (pe_cl C_grid_counts (hr.mono (by decide)) (by rfl) pass0 (pa_cons (pv 1) (pa_cons (pv 2) pa_nil)))) (pss_cons (ps_set (i := 4) nd rfl (.inl rfl) (pe_op op_mulW (pe_op op_sub (pv 1) pe_int) (pe_op op_sub (pv 2) pe_int))) (pss_cons (ps_if (PW.pt (pw_or (pt_cmpR (op_neD hr.units) (pv 3) (pe_tupG (pa_cons (pe_op op_mulW (pv 1) (pv 2)) (pa_cons (pe_op op_sub (pe_op op_sub (pe_op op_mulW (pe_op op_mulW pe_int (pv 1)) (pv 2)) (pv 1)) (pv 2)) (pa_cons (pv 4) (pa_cons (pe_op op_mulW pe_int (pv 4)) pa_nil))))) (nomark _)) (pw_or1 (pt_cmpR (op_neD hr.units) (pe_cl C_grid_counts (hr.mono (by decide)) (by rfl) pass0 (pa_cons (pv 2) (pa_cons (pv 1) pa_nil))) (pv 3) (nomark _))))) (pss_one (ps_ret pe_bl)) pss_nil) (pss_one (ps_ret (pe_or (pe_cmpR op_eq (pe_ix ix_tup (pv 3) pe_int (fun _ _ => rfl)) pe_int (nomark _)) (pe_one (pe_cl C__law_whole (hr.mono (by decide)) (by rfl) pass0 (pa_cons (pv 3) pa_nil)))))))))), ?_⟩
    repeat array_get_dec
    refine ⟨s, 1, N, rfl, hs, by omega, by omega, by omega, fun m H1 m1 m2 t1 b1 => ?_⟩
    repeat array_get_dec
    refine ⟨s, 1, N + 2, rfl, b1, by omega, by omega, by omega, fun n H2 n1 n2 t2 b2 => ?_⟩
    have B2 := (⟨t1.trans t2, b2⟩ : SB s _ H H2)
    repeat array_get_dec
    refine ⟨m1, m2, n1, n2, fun p H3 s3 f3 e3 => ?_⟩
    repeat array_get_dec
    refine fun p4 H4 s4 f4 e4 => ?_
    refine w_neT' (s4 _ _ e3) (ms := [_, _, _, _]) e4 rfl ?_
    repeat array_get_dec
    refine ⟨n1, n2, m1, m2, fun p5 H5 s5 f5 e5 => ?_⟩
    repeat array_get_dec
    refine w_neT' e5 (s5 _ _ (s4 _ _ e3)) (gridC_comm n m) ?_
    repeat array_get_dec
    have B5 := ((B2.same s3).same s4).same s5
    have e3' := s5 _ _ (s4 _ _ e3)
    refine w_ifd (fun _ => q _ B5.st (B5.sb.up (by omega))) fun e => ?_
    repeat array_get_dec
    obtain ⟨h1, h2, h3⟩ := grid_whole m1 n1
    exact ⟨p, m * n, 2 * m * n - m - n, (m - 1) * (n - 1), 2 * ((m - 1) * (n - 1)), rfl, e3', by array_mem_dec, h1, h2, h3, q _ B5.st (B5.sb.up (by omega))⟩
theorem rows_units (m n t : Int) : rowsC m n t = [m + n, 2 * (m + n) - 3 - (if (if t + n < m then t + n else m) - (if t > 0 then t else 0) - 1 > 0 then (if t + n < m then t + n else m) - (if t > 0 then t else 0) - 1 else 0), m + n - 2 - (if (if t + n < m then t + n else m) - (if t > 0 then t else 0) - 1 > 0 then (if t + n < m then t + n else m) - (if t > 0 then t else 0) - 1 else 0), m + n - 2] := by
  have e : above m n t = (if (if t + n < m then t + n else m) - (if t > 0 then t else 0) - 1 > 0 then (if t + n < m then t + n else m) - (if t > 0 then t else 0) - 1 else 0) := by
    rw [above_is]
    simp only [if_max, if_min]
    omega
  unfold rowsC
  rw [e]
theorem rows_turn (m n t : Int) : rowsC n m (0 - t) = rowsC m n t := by
  have e : above n m (0 - t) = above m n t := by
    rw [above_is, above_is]
    omega
  unfold rowsC
  rw [e, Int.add_comm n m]
abbrev s__law_rows_right : Stmt := topS 36
abbrev n__law_rows_right : List Str := ["_law_purse_here", "_law_m", "_law_n", "_law_by", "_law_found", "_law_units"]
theorem c__law_rows_right : FnScope n__law_rows_right ["_law_purse_here"] (defScope s__law_rows_right) := ⟨rfl, rfl, rfl, by decide +kernel, rfl, by decide +kernel, by decide +kernel⟩
set_option pp.maxSteps 300 in
theorem ok__law_rows_right  (D : Df K mg "_law_rows_right" s__law_rows_right ["_law_purse_here"]) (C__law_coin : Cl P w K mg base CX0 "_law_coin" 1 ["_law_purse_here", "_law_many"] (p__law_coin)) (C__law_pick : Cl P w K mg base CX0 "_law_pick" 2 ["_law_purse_here", "_law_some"] (p__law_pick)) (C_two_rows_counts : Cl P w K mg base CX0 "two_rows_counts" 5 ["m", "n", "shift"] (p_two_rows_counts)) (C__law_size : Cl P w K mg base CX0 "_law_size" 3 ["_law_purse_here", "_law_least_so"] (p__law_size)) (mint : mg "int" = none) (mmax : mg "max" = none) (mmin : mg "min" = none) : Cl P w K mg base CX0 "_law_rows_right" 6 ["_law_purse_here"] (p_right) := by
  refine D.cl fun f fd F => F.ok c__law_rows_right (fun vs H Q E h => ?_) (fun cdv A outer s H vs Q E hr h => ?_)
  · obtain ⟨s, N, rfl, hs, hN, q⟩ := h
    rfl
  · obtain ⟨s, N, rfl, hs, hN, q⟩ := h
    have nd := c__law_rows_right.nd
    have hu : _ := hu_of hr
    refine ⟨_, (pss_cons (ps_par3 (i := 1) (j := 2) (l := 3) (by rfl) nd rfl rfl rfl (by decide) (by decide) (by decide) rfl rfl rfl (pa_cons (pe_cl C__law_size (hr.mono (by decide)) (by rfl) pass0 (pa_cons (pv 0) (pa_cons pe_int pa_nil))) (pa_cons (pe_cl C__law_size (hr.mono (by decide)) (by rfl) pass0 (pa_cons (pv 0) (pa_cons pe_int pa_nil))) (pa_cons (pe_op op_sub (pe_cl C__law_coin (hr.mono (by decide)) (by rfl) pass0 (pa_cons (pv 0) (pa_cons (pe_op op_add (pe_op op_mulW pe_int (pe_op op_pow pe_int pe_int)) pe_int) pa_nil))) (pe_op op_pow pe_int pe_int)) pa_nil))) (by rfl)) (pss_cons (ps_set (i := 3) nd rfl (.inl rfl) (pe_cl C__law_pick (hr.mono (by decide)) (by rfl) pass0 (pa_cons (pv 0) (pa_cons (pe_lstG (pa_cons (pv 3) (pa_cons pe_int (pa_cons (pe_op op_sub pe_int (pv 2)) (pa_cons (pe_op op_sub (pv 1) pe_int) (pa_cons (pv 1) (pa_cons (pe_op op_sub pe_int (pv 2)) (pa_cons (pe_op op_sub (pe_op op_mod (pe_callTy call_int1 (by rfl) mint (by decide +kernel) (pa_cons (pv 3) pa_nil)) (pe_op op_add (pv 1) (pv 2))) (pv 2)) pa_nil)))))))) pa_nil)))) (pss_cons (ps_set (i := 3) nd rfl (.inl rfl) (pe_callB (call_max2 (by rfl)) (by rfl) mmax (by decide +kernel) (pa_cons (pe_un un_neg (pe_op op_pow pe_int pe_int)) (pa_cons (pe_callB (call_min2 (by rfl)) (by rfl) mmin (by decide +kernel) (pa_cons (pe_op op_pow pe_int pe_int) (pa_cons (pv 3) pa_nil))) pa_nil)))) (pss_cons (ps_par (i := 4) (j := 5) (by rfl) nd rfl rfl (by decide) rfl rfl (pa_cons (pe_cl C_two_rows_counts (hr.mono (by decide)) (by rfl) pass0 (pa_cons (pv 1) (pa_cons (pv 2) (pa_cons (pv 3) pa_nil)))) (pa_cons (pe_callB (call_max2 (by rfl)) (by rfl) mmax (by decide +kernel) (pa_cons pe_int (pa_cons (pe_op op_sub (pe_op op_sub (pe_callB (call_min2 (by rfl)) (by rfl) mmin (by decide +kernel) (pa_cons (pv 1) (pa_cons (pe_op op_add (pv 3) (pv 2)) pa_nil))) (pe_callB (call_max2 (by rfl)) (by rfl) mmax (by decide +kernel) (pa_cons pe_int (pa_cons (pv 3) pa_nil)))) pe_int) pa_nil))) pa_nil)) (by rfl)) (pss_cons (ps_if (pt_cmpR (op_neD hr.units) (pv 4) (pe_tupG (pa_cons (pe_op op_add (pv 1) (pv 2)) (pa_cons (pe_op op_sub (pe_op op_sub (pe_op op_mulW pe_int (pe_op op_add (pv 1) (pv 2))) pe_int) (pv 5)) (pa_cons (pe_op op_sub (pe_op op_sub (pe_op op_add (pv 1) (pv 2)) pe_int) (pv 5)) (pa_cons (pe_op op_sub (pe_op op_add (pv 1) (pv 2)) pe_int) pa_nil))))) (nomark _)) (pss_one (ps_ret pe_bl)) pss_nil) (pss_one (ps_ret (pe_cmpR (op_eqD hr.units) (pe_cl C_two_rows_counts (hr.mono (by decide)) (by rfl) pass0 (pa_cons (pv 2) (pa_cons (pv 1) (pa_cons (pe_op op_sub pe_int (pv 3)) pa_nil)))) (pv 4) (nomark _))))))))), ?_⟩
    repeat array_get_dec
    refine ⟨s, 1, N, rfl, hs, by omega, by omega, by omega, fun m H1 m1 m2 t1 b1 => ?_⟩
    repeat array_get_dec
    refine ⟨s, 1, N + 2, rfl, b1, by omega, by omega, by omega, fun n H2 n1 n2 t2 b2 => ?_⟩
    have B2 := (⟨t1.trans t2, b2⟩ : SB s _ H H2)
    repeat array_get_dec
    refine ⟨s, _, N + 4, rfl, b2, by omega, by decide, i_small (by decide), fun t H3 r0 r1 t3 b3 => ?_⟩
    have B3 := B2.step t3 b3
    repeat array_get_dec
    refine ⟨show (0 : Int) < m + n by omega, ?_⟩
    repeat array_get_dec
    refine fun p H4 s4 f4 e4 => ?_
    refine ⟨s, p, _, N + 5, rfl, (B3.same s4).sb, by omega, e4, B3.sb.ne f4, by simp, by simp, fun x H5 hx t5 b5 => ?_⟩
    have B5 := (B3.same s4).step t5 b5
    obtain ⟨b, rfl⟩ : ∃ b : Int, x = .int b := by
      simp only [List.mem_cons, List.not_mem_nil, or_false] at hx
      rcases hx with rfl | rfl | rfl | rfl | rfl | rfl | rfl <;> exact ⟨_, rfl⟩
    repeat array_get_dec
    obtain ⟨c, hc⟩ : ∃ c, c = (if (if b < (10 : Int) ^ (6 : Int).toNat then b else (10 : Int) ^ (6 : Int).toNat) > -(10 : Int) ^ (6 : Int).toNat then (if b < (10 : Int) ^ (6 : Int).toNat then b else (10 : Int) ^ (6 : Int).toNat) else -(10 : Int) ^ (6 : Int).toNat) := ⟨_, rfl⟩
    rw [← hc]
    have c1 : -1000000 ≤ c ∧ c ≤ 1000000 := by
      rw [show (10 : Int) ^ (6 : Int).toNat = 1000000 from rfl] at hc
      rw [hc]
      split <;> split <;> omega
    refine ⟨m1, m2, n1, n2, c1.1, c1.2, fun p5 H6 s6 f6 e6 => ?_⟩
    repeat array_get_dec
    refine fun p7 H7 s7 f7 e7 => ?_
    refine w_neT' (s7 _ _ e6) (ms := [_, _, _, _]) e7 (rows_units m n c) ?_
    repeat array_get_dec
    refine ⟨n1, n2, m1, m2, by omega, by omega, fun p8 H8 s8 f8 e8 => ?_⟩
    repeat array_get_dec
    have B8 := ((B5.same s6).same s7).same s8
    exact w_eqT' e8 (s8 _ _ (s7 _ _ e6)) (rows_turn m n c) (q _ B8.st (B8.sb.up (by omega)))
end
section
variable {P : Program} {w : World} {K : PySem.W.Frag} {mg : Str → Option Value} {base : Heap}
theorem par_law (l h : Int) (hl : l ≤ h) : ∀ F : Int, ((l ≥ 0 ∨ h ≤ 0) → F = max 0 (h - l + 1 - 2)) → (¬ (l ≥ 0 ∨ h ≤ 0) → F = max (0 - l) h) → parC l h = [h - l + 1, h - l + 1 + F - 1, F, max 0 (h - l + 1 - 2)] := by
  intro F h1 h2
  unfold parC
  rw [levl_is]
  by_cases c : l ≥ 0 ∨ h ≤ 0
  · have e := h1 c
    split
    · rw [show F = 0 by omega, show max 0 (h - l + 1 - 2) = 0 by omega, Int.add_zero]
    · rw [show h - l + 1 - 2 - max 0 (min (-l) h - 1) = F by omega, show max 0 (h - l + 1 - 2) = h - l + 1 - 2 by omega]
  · have e := h2 c
    rw [if_neg (by omega), show h - l + 1 - 2 - max 0 (min (-l) h - 1) = F by omega, show max 0 (h - l + 1 - 2) = h - l + 1 - 2 by omega]
theorem par_law' (l h : Int) (hl : l ≤ h) (F : Int) (h1 : (l ≥ 0 ∨ h ≤ 0) → F = max 0 (h - l + 1 - 2)) (h2 : ¬ (l ≥ 0 ∨ h ≤ 0) → F = max (0 - l) h) : parC l h = [h - l + 1, h - l + 1 + F - 1, F, if h - l + 1 - 2 > 0 then h - l + 1 - 2 else 0] := by
  rw [if_max]
  exact par_law l h hl F h1 h2
theorem par_turn (l h : Int) : parC (0 - h) (0 - l) = parC l h := by
  unfold parC
  rw [levl_is, levl_is, show 0 - l - (0 - h) + 1 = h - l + 1 by omega, show max 0 (min (-(0 - h)) (0 - l) - 1) = max 0 (min (-l) h - 1) by omega]
abbrev s__law_parabolas_right : Stmt := topS 37
abbrev n__law_parabolas_right : List Str := ["_law_purse_here", "_law_low", "_law_high", "_law_found", "_law_size_here", "_law_faces_so"]
theorem c__law_parabolas_right : FnScope n__law_parabolas_right ["_law_purse_here"] (defScope s__law_parabolas_right) := ⟨rfl, rfl, rfl, by decide +kernel, rfl, by decide +kernel, by decide +kernel⟩
set_option pp.maxSteps 300 in
theorem ok__law_parabolas_right  (D : Df K mg "_law_parabolas_right" s__law_parabolas_right ["_law_purse_here"]) (C__law_coin : Cl P w K mg base CX0 "_law_coin" 1 ["_law_purse_here", "_law_many"] (p__law_coin)) (C__law_pick : Cl P w K mg base CX0 "_law_pick" 2 ["_law_purse_here", "_law_some"] (p__law_pick)) (C_parabola_counts : Cl P w K mg base CX0 "parabola_counts" 5 ["low", "high"] (p_parabola_counts)) (mmax : mg "max" = none) (mmin : mg "min" = none) : Cl P w K mg base CX0 "_law_parabolas_right" 6 ["_law_purse_here"] (p_right) := by
  refine D.cl fun f fd F => F.ok c__law_parabolas_right (fun vs H Q E h => ?_) (fun cdv A outer s H vs Q E hr h => ?_)
  · obtain ⟨s, N, rfl, hs, hN, q⟩ := h
    rfl
  · obtain ⟨s, N, rfl, hs, hN, q⟩ := h
    have nd := c__law_parabolas_right.nd
    have hu : _ := hu_of hr
    refine ⟨_, (pss_cons (ps_set (i := 1) nd rfl (.inl rfl) (pe_op op_sub (pe_cl C__law_coin (hr.mono (by decide)) (by rfl) pass0 (pa_cons (pv 0) (pa_cons (pe_cl C__law_pick (hr.mono (by decide)) (by rfl) pass0 (pa_cons (pv 0) (pa_cons (pe_lstG (pa_cons pe_int (pa_cons (pe_op op_add (pe_op op_mulW pe_int (pe_op op_pow pe_int pe_int)) pe_int) pa_nil))) pa_nil))) pa_nil))) (pe_cl C__law_pick (hr.mono (by decide)) (by rfl) pass0 (pa_cons (pv 0) (pa_cons (pe_lstG (pa_cons pe_int (pa_cons (pe_op op_pow pe_int pe_int) pa_nil))) pa_nil))))) (pss_cons (ps_set (i := 1) nd rfl (.inl rfl) (pe_callB (call_min2 (by rfl)) (by rfl) mmin (by decide +kernel) (pa_cons (pe_op op_pow pe_int pe_int) (pa_cons (pv 1) pa_nil)))) (pss_cons (ps_set (i := 2) nd rfl (.inl rfl) (pe_op op_add (pv 1) (pe_cl C__law_coin (hr.mono (by decide)) (by rfl) pass0 (pa_cons (pv 0) (pa_cons (pe_cl C__law_pick (hr.mono (by decide)) (by rfl) pass0 (pa_cons (pv 0) (pa_cons (pe_lstG (pa_cons pe_int (pa_cons (pe_op op_add (pe_op op_sub (pe_op op_pow pe_int pe_int) (pv 1)) pe_int) pa_nil))) pa_nil))) pa_nil))))) (pss_cons (ps_set (i := 2) nd rfl (.inl rfl) (pe_callB (call_min2 (by rfl)) (by rfl) mmin (by decide +kernel) (pa_cons (pe_op op_pow pe_int pe_int) (pa_cons (pv 2) pa_nil)))) (pss_cons (ps_par (i := 3) (j := 4) (by rfl) nd rfl rfl (by decide) rfl rfl (pa_cons (pe_cl C_parabola_counts (hr.mono (by decide)) (by rfl) pass0 (pa_cons (pv 1) (pa_cons (pv 2) pa_nil))) (pa_cons (pe_op op_add (pe_op op_sub (pv 2) (pv 1)) pe_int) pa_nil)) (by rfl)) (pss_cons (ps_set (i := 5) nd rfl (.inl rfl) (pe_ifExp (PW.pt (pw_or (pt_cmpR op_ge (pv 1) pe_int (nomark _)) (pw_or1 (pt_cmpR op_le (pv 2) pe_int (nomark _))))) (pe_callB (call_max2 (by rfl)) (by rfl) mmax (by decide +kernel) (pa_cons pe_int (pa_cons (pe_op op_sub (pv 4) pe_int) pa_nil))) (pe_callB (call_max2 (by rfl)) (by rfl) mmax (by decide +kernel) (pa_cons (pe_op op_sub pe_int (pv 1)) (pa_cons (pv 2) pa_nil))))) (pss_cons (ps_if (pt_cmpR (op_neD hr.units) (pv 3) (pe_tupG (pa_cons (pv 4) (pa_cons (pe_op op_sub (pe_op op_add (pv 4) (pv 5)) pe_int) (pa_cons (pv 5) (pa_cons (pe_callB (call_max2 (by rfl)) (by rfl) mmax (by decide +kernel) (pa_cons pe_int (pa_cons (pe_op op_sub (pv 4) pe_int) pa_nil))) pa_nil))))) (nomark _)) (pss_one (ps_ret pe_bl)) pss_nil) (pss_one (ps_ret (pe_cmpR (op_eqD hr.units) (pe_cl C_parabola_counts (hr.mono (by decide)) (by rfl) pass0 (pa_cons (pe_op op_sub pe_int (pv 2)) (pa_cons (pe_op op_sub pe_int (pv 1)) pa_nil))) (pv 3) (nomark _))))))))))), ?_⟩
    repeat array_get_dec
    refine fun p1 H1 s1 f1 e1 => ?_
    have B1 := (SB.refl hs).same s1
    refine ⟨s, p1, _, N, rfl, B1.sb, by omega, e1, hs.ne f1, by simp, by simp, fun x H2 hx t2 b2 => ?_⟩
    obtain ⟨m, rfl, m1, m2⟩ : ∃ m : Int, x = .int m ∧ 1 ≤ m ∧ m ≤ 2000001 := by
      simp only [List.mem_cons, List.not_mem_nil, or_false] at hx
      rcases hx with rfl | rfl
      · exact ⟨9, rfl, by omega, by omega⟩
      · exact ⟨2000001, rfl, by omega, by omega⟩
    have B2 := B1.step t2 b2
    refine ⟨s, m, N + 1, rfl, b2, by omega, by omega, i_small (by omega), fun r H3 r0 r1 t3 b3 => ?_⟩
    have B3 := B2.step t3 b3
    repeat array_get_dec
    refine fun p4 H4 s4 f4 e4 => ?_
    have B4 := B3.same s4
    refine ⟨s, p4, _, N + 2, rfl, B4.sb, by omega, e4, B3.sb.ne f4, by simp, by simp, fun x H5 hx t5 b5 => ?_⟩
    have B5 := B4.step t5 b5
    obtain ⟨y, rfl, y1, y2⟩ : ∃ m : Int, x = .int m ∧ 4 ≤ m ∧ m ≤ 1000000 := by
      simp only [List.mem_cons, List.not_mem_nil, or_false] at hx
      rcases hx with rfl | rfl
      · exact ⟨4, rfl, by omega, by omega⟩
      · exact ⟨1000000, rfl, by omega, by omega⟩
    repeat array_get_dec
    obtain ⟨l, hl⟩ : ∃ l, l = (if r - y < (10 : Int) ^ (6 : Int).toNat then r - y else (10 : Int) ^ (6 : Int).toNat) := ⟨_, rfl⟩
    rw [← hl]
    have l1 : -1000000 ≤ l ∧ l ≤ 1000000 := by
      rw [show (10 : Int) ^ (6 : Int).toNat = 1000000 from rfl] at hl
      rw [hl]
      split <;> omega
    refine fun p6 H6 s6 f6 e6 => ?_
    have B6 := B5.same s6
    refine ⟨s, p6, _, N + 3, rfl, B6.sb, by omega, e6, B5.sb.ne f6, by simp, by simp, fun x H7 hx t7 b7 => ?_⟩
    have B7 := B6.step t7 b7
    obtain ⟨m', rfl, n1, n2⟩ : ∃ m : Int, x = .int m ∧ 1 ≤ m ∧ m ≤ 2000001 := by
      simp only [List.mem_cons, List.not_mem_nil, or_false] at hx
      rcases hx with rfl | rfl
      · exact ⟨5, rfl, by omega, by omega⟩
      · refine ⟨_, rfl, ?_, ?_⟩
        · show (1 : Int) ≤ 1000000 - l + 1
          omega
        · show (1000000 : Int) - l + 1 ≤ 2000001
          omega
    refine ⟨s, m', N + 4, rfl, b7, by omega, by omega, i_small (by omega), fun r' H8 r2 r3 t8 b8 => ?_⟩
    have B8 := B7.step t8 b8
    repeat array_get_dec
    obtain ⟨h, hh⟩ : ∃ h, h = (if l + r' < (10 : Int) ^ (6 : Int).toNat then l + r' else (10 : Int) ^ (6 : Int).toNat) := ⟨_, rfl⟩
    rw [← hh]
    have h1 : l ≤ h ∧ h ≤ 1000000 := by
      rw [show (10 : Int) ^ (6 : Int).toNat = 1000000 from rfl] at hh
      rw [hh]
      split <;> omega
    refine ⟨l1.1, h1.1, h1.2, fun p9 H9 s9 f9 e9 => ?_⟩
    have B9 := B8.same s9
    repeat array_get_dec
    refine w_ifd (fun c1 => ?_) fun c1 => ?_
    · have c1 : 0 ≤ l := c1
      repeat array_get_dec
      refine fun p10 H10 s10 f10 e10 => ?_
      refine w_neT' (s10 _ _ e9) (ms := [_, _, _, _]) e10 (par_law' l h h1.1 _ (fun _ => if_max _ _) fun n => absurd (.inl c1) n) ?_
      repeat array_get_dec
      refine ⟨by omega, by omega, by omega, fun p11 H11 s11 f11 e11 => ?_⟩
      repeat array_get_dec
      have B11 := (B9.same s10).same s11
      exact w_eqT' e11 (s11 _ _ (s10 _ _ e9)) (par_turn l h) (q _ B11.st (B11.sb.up (by omega)))
    repeat array_get_dec
    refine w_ifd (fun c2 => ?_) fun c2 => ?_
    · have c2 : h ≤ 0 := c2
      repeat array_get_dec
      refine fun p10 H10 s10 f10 e10 => ?_
      refine w_neT' (s10 _ _ e9) (ms := [_, _, _, _]) e10 (par_law' l h h1.1 _ (fun _ => if_max _ _) fun n => absurd (.inr c2) n) ?_
      repeat array_get_dec
      refine ⟨by omega, by omega, by omega, fun p11 H11 s11 f11 e11 => ?_⟩
      repeat array_get_dec
      have B11 := (B9.same s10).same s11
      exact w_eqT' e11 (s11 _ _ (s10 _ _ e9)) (par_turn l h) (q _ B11.st (B11.sb.up (by omega)))
    have c1 : ¬ 0 ≤ l := c1
    have c2 : ¬ h ≤ 0 := c2
    repeat array_get_dec
    refine fun p10 H10 s10 f10 e10 => ?_
    refine w_neT' (s10 _ _ e9) (ms := [_, _, _, _]) e10 (par_law' l h h1.1 _ (fun n => absurd n (fun z => z.elim c1 c2)) fun _ => if_max _ _) ?_
    repeat array_get_dec
    refine ⟨by omega, by omega, by omega, fun p11 H11 s11 f11 e11 => ?_⟩
    repeat array_get_dec
    have B11 := (B9.same s10).same s11
    exact w_eqT' e11 (s11 _ _ (s10 _ _ e9)) (par_turn l h) (q _ B11.st (B11.sb.up (by omega)))
theorem sg_mul (a b : Int) : sg (a * b) = sg a * sg b := by
  unfold sg
  rcases Int.lt_trichotomy a 0 with ha | rfl | ha <;> rcases Int.lt_trichotomy b 0 with hb | rfl | hb
  · have := Int.mul_pos_of_neg_of_neg ha hb
    simp [Int.ne_of_lt ha, Int.ne_of_lt hb, Int.lt_asymm ha, Int.lt_asymm hb, Int.ne_of_gt this, this]
  · simp
  · have := Int.mul_neg_of_neg_of_pos ha hb
    simp [Int.ne_of_lt ha, Int.ne_of_gt hb, Int.lt_asymm ha, hb, Int.ne_of_lt this, Int.lt_asymm this]
  · simp
  · simp
  · simp
  · have := Int.mul_neg_of_pos_of_neg ha hb
    simp [Int.ne_of_gt ha, Int.ne_of_lt hb, ha, Int.lt_asymm hb, Int.ne_of_lt this, Int.lt_asymm this]
  · simp
  · have := Int.mul_pos ha hb
    simp [Int.ne_of_gt ha, Int.ne_of_gt hb, ha, hb, Int.ne_of_gt this, this]
theorem par_tri (i j k : Int) : tri i (i * i) j (j * j) k (k * k) = (j - i) * (k - i) * (k - j) := by
  unfold tri
  grind
theorem par_vol (i j k e : Int) : vol i (i * i) j (j * j) k (k * k) e (e * e) = (e + i + j + k) * (e - i) * (e - j) * (e - k) * tri i (i * i) j (j * j) k (k * k) := by
  rw [par_tri]
  unfold vol lz
  grind
theorem par_tne {i j k : Int} (h1 : i ≠ j) (h2 : i ≠ k) (h3 : j ≠ k) : tri i (i * i) j (j * j) k (k * k) ≠ 0 := by
  rw [par_tri]
  exact Int.mul_ne_zero (Int.mul_ne_zero (by omega) (by omega)) (by omega)
theorem par_sign {i j k : Int} (e : Int) (t : tri i (i * i) j (j * j) k (k * k) ≠ 0) : -lsd i (i * i) j (j * j) k (k * k) e (e * e) = (if decide ((e + i + j + k) * (e - i) * (e - j) * (e - k) < 0) = true then 1 else 0) - (if decide (0 < (e + i + j + k) * (e - i) * (e - j) * (e - k)) = true then 1 else 0) := by
  unfold lsd
  rw [par_vol, sg_mul]
  generalize (e + i + j + k) * (e - i) * (e - j) * (e - k) = m
  generalize tri i (i * i) j (j * j) k (k * k) = d at t
  have hd : sg d * sg d = 1 := by
    unfold sg
    split
    · contradiction
    · split <;> rfl
  rw [Int.mul_assoc, hd, Int.mul_one]
  simp only [decide_eq_true_eq]
  unfold sg
  split
  · subst_vars
    rfl
  · split <;> split <;> omega
abbrev s__law_zigzags_right : Stmt := topS 39
abbrev n__law_zigzags_right : List Str := ["_law_purse_here", "_law_m", "_law_n", "_law_found", "_law_border_so"]
theorem c__law_zigzags_right : FnScope n__law_zigzags_right ["_law_purse_here"] (defScope s__law_zigzags_right) := ⟨rfl, rfl, rfl, by decide +kernel, rfl, by decide +kernel, by decide +kernel⟩
set_option pp.maxSteps 300 in
theorem ok__law_zigzags_right  (D : Df K mg "_law_zigzags_right" s__law_zigzags_right ["_law_purse_here"]) (C_zigzag_counts : Cl P w K mg base CX0 "zigzag_counts" 4 ["m", "n"] (p_zigzag_counts)) (C__law_size : Cl P w K mg base CX0 "_law_size" 3 ["_law_purse_here", "_law_least_so"] (p__law_size)) (C__law_whole : Cl P w K mg base CX0 "_law_whole" 1 ["_law_found"] (p__law_whole)) : Cl P w K mg base CX0 "_law_zigzags_right" 5 ["_law_purse_here"] (p_right) := by
  refine D.cl fun f fd F => F.ok c__law_zigzags_right (fun vs H Q E h => ?_) (fun cdv A outer s H vs Q E hr h => ?_)
  · obtain ⟨s, N, rfl, hs, hN, q⟩ := h
    rfl
  · obtain ⟨s, N, rfl, hs, hN, q⟩ := h
    have nd := c__law_zigzags_right.nd
    have hu : _ := hu_of hr
    refine ⟨_, (pss_cons (ps_par (i := 1) (j := 2) (by rfl) nd rfl rfl (by decide) rfl rfl (pa_cons (pe_cl C__law_size (hr.mono (by decide)) (by rfl) pass0 (pa_cons (pv 0) (pa_cons pe_int pa_nil))) (pa_cons (pe_cl C__law_size (hr.mono (by decide)) (by rfl) pass0 (pa_cons (pv 0) (pa_cons pe_int pa_nil))) pa_nil)) (by rfl)) (pss_cons (ps_set (i := 3) nd rfl (.inl rfl) (pe_cl C_zigzag_counts (hr.mono (by decide)) (by rfl) pass0 (pa_cons (pv 1) (pa_cons (pv 2) pa_nil)))) (pss_cons (ps_set (i := 4) nd rfl (.inl rfl) (pe_op op_sub (pe_op op_add (pe_op op_mulW pe_int (pv 1)) (pv 2)) pe_int)) (pss_one (ps_ret (pe_and (pe_chain op_eq op_eq (pe_ix ix_tup (pv 3) pe_int (fun _ _ => rfl)) (pe_op op_sub (pe_op op_sub (pe_op op_mulW pe_int (pe_ix ix_tup (pv 3) pe_int (fun _ _ => rfl))) pe_int) (pv 4)) (pe_ix ix_tup (pv 3) pe_int (fun _ _ => rfl))) (pe_and (pe_cmpR op_eq (pe_ix ix_tup (pv 3) pe_int (fun _ _ => rfl)) (pe_op op_mulW (pv 1) (pv 2)) (nomark _)) (pe_one (pe_cl C__law_whole (hr.mono (by decide)) (by rfl) pass0 (pa_cons (pv 3) pa_nil)))))))))), ?_⟩
    repeat array_get_dec
    refine ⟨s, 2, N, rfl, hs, by omega, by omega, by omega, fun m H1 m1 m2 t1 b1 => ?_⟩
    repeat array_get_dec
    refine ⟨s, 2, N + 2, rfl, b1, by omega, by omega, by omega, fun n H2 n1 n2 t2 b2 => ?_⟩
    have B2 := (⟨t1.trans t2, b2⟩ : SB s _ H H2)
    repeat array_get_dec
    refine ⟨m1, m2, n1, n2, fun p H3 s3 f3 e3 => ?_⟩
    have B3 := B2.same s3
    have ea : 2 * m * n = 2 * (m * n) := Int.mul_assoc _ _ _
    repeat array_get_dec
    exact ⟨p, m * n, _, _, _, rfl, e3, by array_mem_dec, by omega, by omega, by omega, q _ B3.st (B3.sb.up (by omega))⟩
end
section
variable {P : Program} {w : World} {K : PySem.W.Frag} {mg : Str → Option Value} {base : Heap}
/-- the product over the first n of three -/
def pmk (m a b c : Int) : Nat → Int
  | 0 => m
  | 1 => m * a
  | 2 => m * a * b
  | _ => m * a * b * c
theorem par_bd {x : Int} (h : -1000 ≤ x ∧ x ≤ 1000) : Bd 1000000 x (x * x) := by
  have h1 := sq_nn x
  have h2 : x * x ≤ 1000 * 1000 := by
    have := Int.mul_nonneg (show 0 ≤ 1000 - x by omega) (show 0 ≤ 1000 + x by omega)
    have e : (1000 - x) * (1000 + x) = 1000 * 1000 - x * x := by grind
    omega
  exact ⟨by omega, by omega, by omega, by omega⟩
theorem SrcB.upd {N : Nat} {H : Hp} {s p : Addr} {o : HO} (h : SrcB N H s) (n : p ≠ s) : SrcB N (upd H p o) s := by
  obtain ⟨a, b, c, e, r⟩ := h
  exact ⟨a, b, c, by rw [upd_ne (Ne.symm n)]; exact e, r⟩
abbrev s__law_circles_right : Stmt := topS 38
abbrev n__law_circles_right : List Str := ["_law_purse_here", "_law_rows_so", "_law_turn_so", "_law_x", "_law_i", "_law_j", "_law_k", "_law_end", "_law_mark", "_law_spot", "_law_due"]
theorem c__law_circles_right : FnScope n__law_circles_right ["_law_purse_here"] (defScope s__law_circles_right) := ⟨rfl, rfl, rfl, by decide +kernel, rfl, by decide +kernel, by decide +kernel⟩
set_option pp.maxSteps 300 in
theorem ok__law_circles_right  (D : Df K mg "_law_circles_right" s__law_circles_right ["_law_purse_here"]) (C__law_coin : Cl P w K mg base CX0 "_law_coin" 1 ["_law_purse_here", "_law_many"] (p__law_coin)) (C__law_pick : Cl P w K mg base CX0 "_law_pick" 2 ["_law_purse_here", "_law_some"] (p__law_pick)) (C_in_circle : Cl P w K mg base CX0 "in_circle" 4 ["a", "b", "c", "d"] (sp4 K (fun ax ay bx by' cx cy _ _ => tri ax ay bx by' cx cy ≠ 0) fun ax ay bx by' cx cy dx dy => .int (-lsd ax ay bx by' cx cy dx dy))) (mabs : mg "abs" = none) (mint : mg "int" = none) (mlen : mg "len" = none) (mmax : mg "max" = none) (mmin : mg "min" = none) (mrange : mg "range" = none) : Cl P w K mg base CX0 "_law_circles_right" 5 ["_law_purse_here"] (p_right) := by
  refine D.cl fun f fd F => F.ok c__law_circles_right (fun vs H Q E h => ?_) (fun cdv A outer s H vs Q E hr h => ?_)
  · obtain ⟨s, N, rfl, hs, hN, q⟩ := h
    rfl
  · obtain ⟨s, N, rfl, hs, hN, q⟩ := h
    have nd := c__law_circles_right.nd
    have hu : _ := hu_of hr
    refine ⟨_, (pss_cons (ps_set (i := 1) nd rfl (.inl rfl) (pe_lstG pa_nil)) (pss_cons (ps_for PassesOwn.never rfl (pi_range1 (by rfl) mrange (pa_cons pe_int pa_nil)) (pg_name (i := 2) nd rfl (.inl rfl)) (pss_cons (ps_set (i := 3) nd rfl (.inl rfl) (pe_op op_sub (pe_cl C__law_coin (hr.mono (by decide)) (by rfl) pass0 (pa_cons (pv 0) (pa_cons (pe_cl C__law_pick (hr.mono (by decide)) (by rfl) pass0 (pa_cons (pv 0) (pa_cons (pe_lstG (pa_cons pe_int (pa_cons pe_int pa_nil))) pa_nil))) pa_nil))) (pe_cl C__law_pick (hr.mono (by decide)) (by rfl) pass0 (pa_cons (pv 0) (pa_cons (pe_lstG (pa_cons pe_int (pa_cons pe_int pa_nil))) pa_nil))))) (pss_cons (ps_set (i := 3) nd rfl (.inl rfl) (pe_callB (call_max2 (by rfl)) (by rfl) mmax (by decide +kernel) (pa_cons pe_neg (pa_cons (pe_callB (call_min2 (by rfl)) (by rfl) mmin (by decide +kernel) (pa_cons pe_int (pa_cons (pv 3) pa_nil))) pa_nil)))) (pss_one (ps_if (PW.pt (pw_and (pt_cmpR op_notIn_seq (pv 3) (pv 1) rfl) (pw_and1 (pt_cmpR op_lt (pe_callB call_len_seq (by rfl) mlen (by decide +kernel) (pa_cons (pv 1) pa_nil)) pe_int (nomark _))))) (pss_one (ps_expr (pe_bm PySem.F.plainAttrs_list PySem.F.slot_list_append PySem.F.type_list_append mt_append (pv 1) (pa_cons (pv 3) pa_nil)))) pss_nil))))) (pss_cons (ps_if (pt_cmpR op_lt (pe_callB call_len_seq (by rfl) mlen (by decide +kernel) (pa_cons (pv 1) pa_nil)) pe_int (nomark _)) (pss_one (ps_ret pe_bl)) pss_nil) (pss_cons (ps_asg (pv 1) (pg_unl (by rfl) (pgs_cons (pg_name (i := 4) nd rfl (.inl rfl)) (pgs_cons (pg_name (i := 5) nd rfl (.inl rfl)) (pgs_cons (pg_name (i := 6) nd rfl (.inl rfl)) pgs_nil))))) (pss_cons (ps_for PassesOwn.never rfl (pi_tup (pe_tupG (pa_cons (pe_op op_sub (pe_cl C__law_coin (hr.mono (by decide)) (by rfl) pass0 (pa_cons (pv 0) (pa_cons pe_int pa_nil))) pe_int) (pa_cons (pe_op op_sub (pe_op op_sub (pe_op op_sub pe_int (pv 4)) (pv 5)) (pv 6)) (pa_cons (pv 4) (pa_cons (pe_op op_sub (pe_op op_sub (pe_op op_sub pe_int (pv 4)) (pv 5)) (pv 6)) (pa_cons (pe_op op_add (pv 5) pe_int) pa_nil))))))) (pg_name (i := 7) nd rfl (.inl rfl)) (pss_one (ps_if (pt_cmpR op_le (pe_callB call_abs (by rfl) mabs (by decide +kernel) (pa_cons (pv 7) pa_nil)) pe_int (nomark _)) (pss_cons (ps_set (i := 8) nd rfl (.inl rfl) (pe_op op_add (pe_op op_add (pe_op op_add (pv 7) (pv 4)) (pv 5)) (pv 6))) (pss_cons (ps_for PassesOwn.never rfl (pi_list (pv 1)) (pg_name (i := 9) nd rfl (.inl rfl)) (pss_one (ps_set (i := 8) nd rfl (.inl rfl) (pe_op op_mulW (pv 8) (pe_op op_sub (pv 7) (pv 9)))))) (pss_cons (ps_set (i := 10) nd rfl (.inl rfl) (pe_op op_sub (pe_callTy call_int1 (by rfl) mint (by decide +kernel) (pa_cons (pe_cmpR op_lt (pv 8) pe_int (nomark _)) pa_nil)) (pe_callTy call_int1 (by rfl) mint (by decide +kernel) (pa_cons (pe_cmpR op_gt (pv 8) pe_int (nomark _)) pa_nil)))) (pss_one (ps_if (pt_cmpR op_ne (pe_cl C_in_circle (hr.mono (by decide)) (by rfl) pass0 (pa_cons (pe_tupG (pa_cons (pv 4) (pa_cons (pe_op op_mulW (pv 4) (pv 4)) pa_nil))) (pa_cons (pe_tupG (pa_cons (pv 5) (pa_cons (pe_op op_mulW (pv 5) (pv 5)) pa_nil))) (pa_cons (pe_tupG (pa_cons (pv 6) (pa_cons (pe_op op_mulW (pv 6) (pv 6)) pa_nil))) (pa_cons (pe_tupG (pa_cons (pv 7) (pa_cons (pe_op op_mulW (pv 7) (pv 7)) pa_nil))) pa_nil))))) (pv 10) (nomark _)) (pss_one (ps_ret pe_bl)) pss_nil))))) pss_nil))) (pss_one (ps_ret pe_bl))))))), ?_⟩
    repeat array_get_dec
    refine fun R HR sR fR eR0 => ?_
    have B0 := (SB.refl hs).same sR
    have nR := hs.ne fR
    repeat array_get_dec
    refine ⟨by decide, by decide, for_range (lo := 0) (n := 60) (fun i σ' H' => ∃ y2 y3 zs, σ' = [some (.ref s), some (.ref R), y2, y3, none, none, none, none, none, none, none] ∧ SB s (N + 3 * i) H H' ∧ H' R = some (.lst (zs.map V.int)) ∧ zs.Nodup ∧ zs.length ≤ 3 ∧ ∀ z ∈ zs, -1000 ≤ z ∧ z ≤ 1000) ⟨none, none, [], rfl, B0, eR0, by simp, by simp, fun _ z => nomatch z⟩ (fun i σ' H' hi z => ?_) fun σ' H' z => ?_⟩
    · obtain ⟨y2, y3, zs, rfl, B, eR, nod, len, bd⟩ := z
      repeat array_get_dec
      refine fun p1 H1 s1 f1 e1 => ?_
      refine ⟨s, p1, _, N + 3 * i, rfl, (B.same s1).sb, by omega, e1, B.sb.ne f1, by simp, by simp, fun x H2 hx t2 b2 => ?_⟩
      obtain ⟨m, rfl, m1, m2⟩ : ∃ m : Int, x = .int m ∧ 1 ≤ m ∧ m ≤ 2001 := by
        simp only [List.mem_cons, List.not_mem_nil, or_false] at hx
        rcases hx with rfl | rfl
        · exact ⟨9, rfl, by omega, by omega⟩
        · exact ⟨2001, rfl, by omega, by omega⟩
      have B2 := (B.same s1).step t2 b2
      refine ⟨s, m, N + 3 * i + 1, rfl, b2, by omega, by omega, i_small (by omega), fun r H3 r0 r1 t3 b3 => ?_⟩
      have B3 := B2.step t3 b3
      repeat array_get_dec
      refine fun p4 H4 s4 f4 e4 => ?_
      refine ⟨s, p4, _, N + 3 * i + 2, rfl, (B3.same s4).sb, by omega, e4, B3.sb.ne f4, by simp, by simp, fun x H5 hx t5 b5 => ?_⟩
      obtain ⟨y, rfl, y1, y2⟩ : ∃ m : Int, x = .int m ∧ 4 ≤ m ∧ m ≤ 1000 := by
        simp only [List.mem_cons, List.not_mem_nil, or_false] at hx
        rcases hx with rfl | rfl
        · exact ⟨4, rfl, by omega, by omega⟩
        · exact ⟨1000, rfl, by omega, by omega⟩
      have B5 := (B3.same s4).step t5 b5
      have eR5 := t5.keep _ _ nR (s4 _ _ (t3.keep _ _ nR (t2.keep _ _ nR (s1 _ _ eR))))
      repeat array_get_dec
      obtain ⟨c, hc⟩ : ∃ c, c = (if (if r - y < 1000 then r - y else 1000) > -1000 then (if r - y < 1000 then r - y else 1000) else -1000) := ⟨_, rfl⟩
      rw [← hc]
      have c1 : -1000 ≤ c ∧ c ≤ 1000 := by
        rw [hc]
        split <;> split <;> omega
      clear hc
      refine ⟨all_flat zs, _, rfl, w_if (fun h => ?_) fun h => ?_⟩
      · have h : (!inV (V.int c) (zs.map V.int)) = true := h
        have nin : c ∉ zs := by
          rw [inV_ints] at h
          simpa using h
        repeat array_get_dec
        refine w_ifd (fun l3 => ?_) fun l3 => ?_
        · have l3 : ((zs.map V.int).length : Int) < 3 := l3
          rw [List.length_map] at l3
          refine ⟨_, rfl, .inl ⟨rfl, _, SqL.of eR5⟩, _, rfl, R, zs.map V.int, V.int c, rfl, rfl, eR5, ?_, ?_⟩
          · rw [List.length_map]
            exact Nat.lt_of_lt_of_le (show zs.length < 3 by omega) (by decide)
          · refine ⟨_, _, zs ++ [c], rfl, ⟨B5.st.set fR nR, (B5.sb.up (by omega)).upd nR⟩, ?_, ?_, ?_, ?_⟩
            · rw [upd_same, List.map_append]
              rfl
            · exact List.nodup_append.mpr ⟨nod, by simp, fun a ha b hb e => nin (by rw [List.mem_singleton.mp hb] at e; exact e ▸ ha)⟩
            · rw [List.length_append, List.length_singleton]
              omega
            · intro z hz
              rcases List.mem_append.mp hz with hz | hz
              · exact bd z hz
              · rw [List.mem_singleton.mp hz]
                exact c1
        · exact ⟨_, _, zs, rfl, ⟨B5.st, B5.sb.up (by omega)⟩, eR5, nod, len, bd⟩
      · exact ⟨_, _, zs, rfl, ⟨B5.st, B5.sb.up (by omega)⟩, eR5, nod, len, bd⟩
    · obtain ⟨y2, y3, zs, rfl, B, eR, nod, len, bd⟩ := z
      repeat array_get_dec
      refine w_ifd (fun l3 => ?_) fun l3 => ?_
      · repeat array_get_dec
        exact q _ B.st (B.sb.up (by omega))
      have l3 : ¬ ((zs.map V.int).length : Int) < 3 := l3
      rw [List.length_map] at l3
      obtain ⟨i, j, k, rfl⟩ : ∃ i j k, zs = [i, j, k] := by
        match zs, len, l3 with
        | [i, j, k], _, _ => exact ⟨i, j, k, rfl⟩
        | [], _, h => simp at h
        | [_], _, h => simp at h
        | [_, _], _, h => simp at h
        | _ :: _ :: _ :: _ :: _, h, _ => simp at h
      have ib := bd i (by simp)
      have jb := bd j (by simp)
      have kb := bd k (by simp)
      simp only [List.nodup_cons, List.mem_cons, List.not_mem_nil, or_false, not_or] at nod
      refine ⟨_, rfl, _, _, rfl, SqL.of eR, rfl, ?_⟩
      repeat array_get_dec
      refine ⟨s, 2001, _, rfl, B.sb, by omega, by decide, i_small (by decide), fun r H1 r0 r1 t1 b1 => ?_⟩
      have B1 := B.step t1 b1
      have eR1 := t1.keep _ _ nR eR
      repeat array_get_dec
      refine fun T HT sT fT eT => ?_
      have BT := B1.same sT
      have eRT := sT _ _ eR1
      refine ⟨T, rfl, ⟨_, SqT.of eT⟩, for_tup (K := K) (a := T) (xs := [.int (r - 1000), .int (0 - i - j - k), .int i, .int (1 - i - j - k), .int (j + 1)]) (fun _ σ' H' => (∃ y7 y8 y9 y10, σ' = [some (.ref s), some (.ref R), y2, y3, some (.int i), some (.int j), some (.int k), y7, y8, y9, y10]) ∧ Same HT H') ⟨⟨_, _, _, _, rfl⟩, Same.refl _⟩ (fun _ σ' H' _ z => SqT.of (z.2 _ _ eT)) (fun ix x σ' H' hx z => ?_) fun σ' H' z => ?_⟩
      · obtain ⟨⟨y7, y8, y9, y10, rfl⟩, S⟩ := z
        obtain ⟨e, rfl⟩ : ∃ e : Int, x = .int e := by
          have m := List.mem_of_getElem? hx
          simp only [List.mem_cons, List.not_mem_nil, or_false] at m
          rcases m with rfl | rfl | rfl | rfl | rfl <;> exact ⟨_, rfl⟩
        repeat array_get_dec
        refine w_ifd (fun a => ?_) fun _ => ⟨⟨_, _, _, _, rfl⟩, S⟩
        have a : (if e < 0 then -e else e) ≤ 1000 := a
        have ea : -1000 ≤ e ∧ e ≤ 1000 := by
          split at a <;> omega
        have eRl := S _ _ eRT
        repeat array_get_dec
        refine ⟨⟨_, SqL.of eRl⟩, for_list (K := K) (a := R) (xs := [.int i, .int j, .int k]) (fun n σ' H'' => (∃ y9, σ' = [some (.ref s), some (.ref R), y2, y3, some (.int i), some (.int j), some (.int k), some (.int e), some (.int (pmk (e + i + j + k) (e - i) (e - j) (e - k) n)), y9, y10]) ∧ H'' = H') ⟨⟨_, rfl⟩, rfl⟩ (fun n σ' H'' _ z => ?_) (fun n x σ' H'' hx z => ?_) fun σ' H'' z => ?_⟩
        · rw [z.2]
          exact SqL.of eRl
        · obtain ⟨⟨y9, rfl⟩, rfl⟩ := z
          match n, hx with
          | 0, hx =>
            cases Option.some.inj hx
            repeat array_get_dec
            exact ⟨⟨_, rfl⟩, rfl⟩
          | 1, hx =>
            cases Option.some.inj hx
            repeat array_get_dec
            exact ⟨⟨_, rfl⟩, rfl⟩
          | 2, hx =>
            cases Option.some.inj hx
            repeat array_get_dec
            exact ⟨⟨_, rfl⟩, rfl⟩
          | n + 3, hx => cases hx
        · obtain ⟨⟨y9, rfl⟩, rfl⟩ := z
          repeat array_get_dec
          refine fun q1 K1 k1 g1 d1 => ?_
          repeat array_get_dec
          refine fun q2 K2 k2 g2 d2 => ?_
          repeat array_get_dec
          refine fun q3 K3 k3 g3 d3 => ?_
          repeat array_get_dec
          refine fun q4 K4 k4 g4 d4 => ?_
          have tne := par_tne nod.1.1 nod.1.2 nod.2.1
          refine ⟨q1, q2, q3, q4, i, i * i, j, j * j, k, k * k, e, e * e, rfl, k4 _ _ (k3 _ _ (k2 _ _ d1)), k4 _ _ (k3 _ _ d2), k4 _ _ d3, d4, ⟨par_bd ib, par_bd jb, par_bd kb⟩, par_bd ea, tne, fun K5 k5 => ?_⟩
          repeat array_get_dec
          refine w_ntt (congrArg V.int (par_sign e tne)) ?_
          exact ⟨⟨_, _, _, _, rfl⟩, ((((S.trans k1).trans k2).trans k3).trans k4).trans k5⟩
      · obtain ⟨⟨y7, y8, y9, y10, rfl⟩, S⟩ := z
        have B2 := BT.same S
        exact q _ B2.st (B2.sb.up (by omega))
end
section
variable {P : Program} {w : World} {K : PySem.W.Frag} {mg : Str → Option Value} {base : Heap}
abbrev s_law : Stmt := topS 40
abbrev n_law : List Str := ["_law_script", "_law_figure", "_law_purse_here", "_law_ask", "_law_far_so", "_law_units"]
theorem c_law : FnScope n_law ["_law_script"] (defScope s_law) := ⟨rfl, rfl, rfl, by decide +kernel, rfl, by decide +kernel, by decide +kernel⟩
def p_law (K : PySem.W.Frag) : Sp := fun vs H Q _ => ∃ (a : Addr) (ns : List Int), vs = [.ref a] ∧ SqL K H a (ns.map V.int) ∧ ns.length ≤ 63 ∧ ∀ H', Q (.bl true) H'
theorem cut_ints {ns : List Int} {lo hi : Option Int} {x : V} (h : x ∈ cutV (ns.map V.int) lo hi) : ∃ n : Int, x = .int n := by
  have m := List.mem_of_mem_drop (List.mem_of_mem_take h)
  obtain ⟨n, _, e⟩ := List.mem_map.mp m
  exact ⟨n, e.symm⟩
set_option pp.maxSteps 300 in
theorem ok_law  {f : Addr} {fd : FuncData} (F : Fun K "law" "law" s_law f fd) (C__law_purse : Cl P w K mg base CX0 "_law_purse" 1 ["_law_figure"] (p__law_purse)) (C_grid_counts : Cl P w K mg base CX0 "grid_counts" 4 ["m", "n"] (p_grid_counts)) (C_parabola_counts : Cl P w K mg base CX0 "parabola_counts" 5 ["low", "high"] (p_parabola_counts)) (C__law_grids_right : Cl P w K mg base CX0 "_law_grids_right" 5 ["_law_purse_here"] p_right) (C__law_rows_right : Cl P w K mg base CX0 "_law_rows_right" 6 ["_law_purse_here"] p_right) (C__law_parabolas_right : Cl P w K mg base CX0 "_law_parabolas_right" 6 ["_law_purse_here"] p_right) (C__law_circles_right : Cl P w K mg base CX0 "_law_circles_right" 5 ["_law_purse_here"] p_right) (C__law_zigzags_right : Cl P w K mg base CX0 "_law_zigzags_right" 5 ["_law_purse_here"] p_right): FnOk P w K mg base CX0 8 f fd ["_law_script"] (p_law K) := by
  obtain ⟨r0, fd0, G0, g0, k0, b0⟩ := C__law_grids_right.ex
  obtain ⟨r1, fd1, G1, g1, k1, b1⟩ := C__law_rows_right.ex
  obtain ⟨r2, fd2, G2, g2, k2, b2⟩ := C__law_parabolas_right.ex
  obtain ⟨r3, fd3, G3, g3, k3, b3⟩ := C__law_circles_right.ex
  obtain ⟨r4, fd4, G4, g4, k4, b4⟩ := C__law_zigzags_right.ex
  let S5 : Addr → Option Sp := fun f => if f = r0 ∨ f = r1 ∨ f = r2 ∨ f = r3 ∨ f = r4 then some p_right else none
  have HA : ∀ f sp, S5 f = some sp → Held P w K mg base 6 f sp := by
    intro f sp h
    by_cases c : f = r0 ∨ f = r1 ∨ f = r2 ∨ f = r3 ∨ f = r4
    · have e : some p_right = some sp := by rw [← h]; exact (if_pos c).symm
      cases e
      rcases c with rfl | rfl | rfl | rfl | rfl
      · exact ⟨fd0, _, G0.mono (by decide), k0, b0⟩
      · exact ⟨fd1, _, G1.mono (by decide), k1, b1⟩
      · exact ⟨fd2, _, G2.mono (by decide), k2, b2⟩
      · exact ⟨fd3, _, G3.mono (by decide), k3, b3⟩
      · exact ⟨fd4, _, G4.mono (by decide), k4, b4⟩
    · have e : S5 f = none := if_neg c
      rw [e] at h
      cases h
  refine F.ok c_law (fun vs H Q E h => ?_) (fun cdv A outer s H vs Q E hr h => ?_)
  · obtain ⟨a, ns, rfl, hS, hlen, q⟩ := h
    rfl
  · obtain ⟨a, ns, rfl, hS, hlen, q⟩ := h
    have nd := c_law.nd
    have hu : _ := hu_of hr
    refine ⟨_, (pss_cons (ps_for PassesOwn.never rfl (pi_list (pe_op op_catG (pe_slice sl_listG (pv 0) po_none (po_some pe_int)) (pe_lstG (pa_cons pe_int pa_nil)))) (pg_name (i := 1) nd rfl (.inl rfl)) (pss_cons (ps_set (i := 2) nd rfl (.inl rfl) (pe_cl C__law_purse (hr.mono (by decide)) (by rfl) pass0 (pa_cons (pv 1) pa_nil))) (pss_one (ps_for PassesOwn.never rfl (pi_tup (pe_tupG (pa_cons (pe_glob (v := .ref r0) (by rfl) g0 rfl) (pa_cons (pe_glob (v := .ref r1) (by rfl) g1 rfl) (pa_cons (pe_glob (v := .ref r2) (by rfl) g2 rfl) (pa_cons (pe_glob (v := .ref r3) (by rfl) g3 rfl) (pa_cons (pe_glob (v := .ref r4) (by rfl) g4 rfl) pa_nil))))))) (pg_name (i := 3) nd rfl (.inl rfl)) (pss_one (ps_if (pt_not (pt_val (pe_callA (i := 3) (S := S5) HA (hr.mono (by decide)) rfl (.inl rfl) (pa_cons (pv 2) pa_nil)))) (pss_one (ps_ret pe_bl)) pss_nil)))))) (pss_cons (ps_set (i := 4) nd rfl (.inl rfl) (pe_op op_pow pe_int pe_int)) (pss_cons (ps_set (i := 5) nd rfl (.inl rfl) (pe_op op_sq (pe_op op_sub (pv 4) pe_int) pe_int)) (pss_cons (ps_if (pt_cmpR (op_neD hr.units) (pe_cl C_grid_counts (hr.mono (by decide)) (by rfl) pass0 (pa_cons (pv 4) (pa_cons (pv 4) pa_nil))) (pe_tupG (pa_cons (pe_op op_mulW (pv 4) (pv 4)) (pa_cons (pe_op op_mulW (pe_op op_mulW pe_int (pv 4)) (pe_op op_sub (pv 4) pe_int)) (pa_cons (pv 5) (pa_cons (pe_op op_mulW pe_int (pv 5)) pa_nil))))) (nomark _)) (pss_one (ps_ret pe_bl)) pss_nil) (pss_one (ps_ret (pe_cmpR (op_eqD hr.units) (pe_cl C_parabola_counts (hr.mono (by decide)) (by rfl) pass0 (pa_cons (pe_op op_sub pe_int (pv 4)) (pa_cons (pv 4) pa_nil))) (pe_tupG (pa_cons (pe_op op_add (pe_op op_mulW pe_int (pv 4)) pe_int) (pa_cons (pe_op op_mulW pe_int (pv 4)) (pa_cons (pv 4) (pa_cons (pe_op op_sub (pe_op op_mulW pe_int (pv 4)) pe_int) pa_nil))))) (nomark _)))))))), ?_⟩
    refine ⟨_, rfl, _, rfl, a, ns.map V.int, rfl, hS, fun p1 H1 s1 f1 e1 => ?_⟩
    repeat array_get_dec
    refine fun p2 H2 s2 f2 e2 => ?_
    have lc : (cutV (ns.map V.int) none (some 5)).length ≤ ns.length := by
      have z := cutV_length (ns.map V.int) none (some 5)
      rwa [List.length_map] at z
    refine ⟨p1, p2, _, _, rfl, rfl, s2 _ _ e1, e2, Nat.le_trans (Nat.add_le_add_right (Nat.le_trans lc hlen) _) (by decide), fun p3 H3 s3 f3 e3 => ?_⟩
    repeat array_get_dec
    refine ⟨⟨_, SqL.of e3⟩, for_list (K := K) (a := p3) (xs := cutV (ns.map V.int) none (some 5) ++ [.int 0]) (fun _ σ' H' => (∃ y1 y2 y3, σ' = [some (.ref a), y1, y2, y3, none, none]) ∧ H' p3 = some (.lst (cutV (ns.map V.int) none (some 5) ++ [.int 0]))) ⟨⟨_, _, _, rfl⟩, e3⟩ (fun _ σ' H' _ z => SqL.of z.2) (fun i x σ' H' hx z => ?_) fun σ' H' z => ?_⟩
    · obtain ⟨⟨y1, y2, y3, rfl⟩, e3'⟩ := z
      obtain ⟨n, rfl⟩ : ∃ n : Int, x = .int n := by
        rcases List.mem_append.mp (List.mem_of_getElem? hx) with m | m
        · exact cut_ints m
        · exact ⟨0, List.mem_singleton.mp m⟩
      repeat array_get_dec
      refine fun s H4 s4 f4 b4 => ?_
      have e4 := s4 _ _ e3'
      have ne : p3 ≠ s := ne_of_none e3' f4
      repeat array_get_dec
      refine fun T H5 s5 f5 e5 => ?_
      have b5 := b4.same s5
      have e35 := s5 _ _ e4
      refine ⟨T, rfl, ⟨_, SqT.of e5⟩, for_tup (K := K) (a := T) (xs := [.ref r0, .ref r1, .ref r2, .ref r3, .ref r4]) (fun i σ' H' => (∃ y3, σ' = [some (.ref a), some (.int n), some (.ref s), y3, none, none]) ∧ SB s (3 + 500 * i) H5 H' ∧ H' p3 = some (.lst (cutV (ns.map V.int) none (some 5) ++ [.int 0]))) ⟨⟨_, rfl⟩, SB.refl b5, e35⟩ (fun _ σ' H' _ z => SqT.of (z.2.1.st.keep _ _ (b4.ne f5) e5)) (fun i x σ' H' hx z => ?_) fun σ' H' z => ?_⟩
      · obtain ⟨⟨y3, rfl⟩, B, e36⟩ := z
        have hi : i < 5 := by
          have := (List.getElem?_eq_some_iff.mp hx).1
          simpa using this
        have mx := List.mem_of_getElem? hx
        obtain ⟨g, rfl, hg⟩ : ∃ g, x = .ref g ∧ S5 g = some p_right := by
          simp only [List.mem_cons, List.not_mem_nil, or_false] at mx
          rcases mx with rfl | rfl | rfl | rfl | rfl
          · exact ⟨_, rfl, if_pos (.inl rfl)⟩
          · exact ⟨_, rfl, if_pos (.inr (.inl rfl))⟩
          · exact ⟨_, rfl, if_pos (.inr (.inr (.inl rfl)))⟩
          · exact ⟨_, rfl, if_pos (.inr (.inr (.inr (.inl rfl))))⟩
          · exact ⟨_, rfl, if_pos (.inr (.inr (.inr (.inr rfl))))⟩
        refine ⟨g, p_right, rfl, hg, _, rfl, s, _, rfl, B.sb, by omega, fun H6 t6 b6 => ?_⟩
        refine ⟨_, rfl, ⟨_, rfl⟩, ⟨B.st.trans t6, b6.up (by omega)⟩, t6.keep _ _ ne e36⟩
      · obtain ⟨⟨y3, rfl⟩, B, e36⟩ := z
        exact ⟨⟨_, _, _, rfl⟩, e36⟩
    · obtain ⟨⟨y1, y2, y3, rfl⟩, e3'⟩ := z
      repeat array_get_dec
      refine ⟨⟨rfl, by decide +kernel⟩, ?_⟩
      repeat array_get_dec
      refine ⟨by decide +kernel, by decide +kernel, by decide +kernel, by decide +kernel, fun p4 H4 s4 f4 e4 => ?_⟩
      repeat array_get_dec
      refine fun p5 H5 s5 f5 e5 => ?_
      refine w_neT' (s5 _ _ e4) (ms := [_, _, _, _]) e5 (by decide +kernel) ?_
      repeat array_get_dec
      refine ⟨by decide +kernel, by decide +kernel, by decide +kernel, fun p6 H6 s6 f6 e6 => ?_⟩
      repeat array_get_dec
      refine fun p7 H7 s7 f7 e7 => ?_
      exact w_eqT' (s7 _ _ e6) (ms := [_, _, _, _]) e7 (by decide +kernel) (q _)
end
/-! ### what the top has written; the law's own head -/
theorem all_mk {l : PySem.W.OpenLaw} {w : World} {K : PySem.W.Frag} {h : Heap} {mg : Str → Option Value} {fa f_is_integer f_sign f_is_site f_turn_of_sites f_check_site f_height_over f_check_number f_check_size f_check_ends f_counts_of f_row_counts f_grid_counts f_check_two_rows f_two_rows_counts f_parabola_counts f_zigzag_counts f_in_circle f_lift_side f__law_purse f__law_coin f__law_pick f__law_size f__law_whole f__law_grids_right f__law_rows_right f__law_parabolas_right f__law_circles_right f__law_zigzags_right fL : Addr} (X : K.In h) (G : h.Ns mainGlobals mg) (hfa : mg "law" = some (.ref fa))
    {od_is_integer an_is_integer : Option Addr} {sl_is_integer : Array (Option Value)} {oc_is_integer kV_is_integer dc_is_integer pm_is_integer cd_is_integer ct_is_integer : Value}
    {od_sign an_sign : Option Addr} {sl_sign : Array (Option Value)} {oc_sign kV_sign dc_sign pm_sign cd_sign ct_sign : Value}
    {od_is_site an_is_site : Option Addr} {sl_is_site : Array (Option Value)} {oc_is_site kV_is_site dc_is_site pm_is_site cd_is_site ct_is_site : Value}
    {od_turn_of_sites an_turn_of_sites : Option Addr} {sl_turn_of_sites : Array (Option Value)} {oc_turn_of_sites kV_turn_of_sites dc_turn_of_sites pm_turn_of_sites cd_turn_of_sites ct_turn_of_sites : Value}
    {od_check_site an_check_site : Option Addr} {sl_check_site : Array (Option Value)} {oc_check_site kV_check_site dc_check_site pm_check_site cd_check_site ct_check_site : Value}
    {od_height_over an_height_over : Option Addr} {sl_height_over : Array (Option Value)} {oc_height_over kV_height_over dc_height_over pm_height_over cd_height_over ct_height_over : Value}
    {od_check_number an_check_number : Option Addr} {sl_check_number : Array (Option Value)} {oc_check_number kV_check_number dc_check_number pm_check_number cd_check_number ct_check_number : Value}
    {od_check_size an_check_size : Option Addr} {sl_check_size : Array (Option Value)} {oc_check_size kV_check_size dc_check_size pm_check_size cd_check_size ct_check_size : Value}
    {od_check_ends an_check_ends : Option Addr} {sl_check_ends : Array (Option Value)} {oc_check_ends kV_check_ends dc_check_ends pm_check_ends cd_check_ends ct_check_ends : Value}
    {od_counts_of an_counts_of : Option Addr} {sl_counts_of : Array (Option Value)} {oc_counts_of kV_counts_of dc_counts_of pm_counts_of cd_counts_of ct_counts_of : Value}
    {od_row_counts an_row_counts : Option Addr} {sl_row_counts : Array (Option Value)} {oc_row_counts kV_row_counts dc_row_counts pm_row_counts cd_row_counts ct_row_counts : Value}
    {od_grid_counts an_grid_counts : Option Addr} {sl_grid_counts : Array (Option Value)} {oc_grid_counts kV_grid_counts dc_grid_counts pm_grid_counts cd_grid_counts ct_grid_counts : Value}
    {od_check_two_rows an_check_two_rows : Option Addr} {sl_check_two_rows : Array (Option Value)} {oc_check_two_rows kV_check_two_rows dc_check_two_rows pm_check_two_rows cd_check_two_rows ct_check_two_rows : Value}
    {od_two_rows_counts an_two_rows_counts : Option Addr} {sl_two_rows_counts : Array (Option Value)} {oc_two_rows_counts kV_two_rows_counts dc_two_rows_counts pm_two_rows_counts cd_two_rows_counts ct_two_rows_counts : Value}
    {od_parabola_counts an_parabola_counts : Option Addr} {sl_parabola_counts : Array (Option Value)} {oc_parabola_counts kV_parabola_counts dc_parabola_counts pm_parabola_counts cd_parabola_counts ct_parabola_counts : Value}
    {od_zigzag_counts an_zigzag_counts : Option Addr} {sl_zigzag_counts : Array (Option Value)} {oc_zigzag_counts kV_zigzag_counts dc_zigzag_counts pm_zigzag_counts cd_zigzag_counts ct_zigzag_counts : Value}
    {od_in_circle an_in_circle : Option Addr} {sl_in_circle : Array (Option Value)} {oc_in_circle kV_in_circle dc_in_circle pm_in_circle cd_in_circle ct_in_circle : Value}
    {od_lift_side an_lift_side : Option Addr} {sl_lift_side : Array (Option Value)} {oc_lift_side kV_lift_side dc_lift_side pm_lift_side cd_lift_side ct_lift_side : Value}
    {od__law_purse an__law_purse : Option Addr} {sl__law_purse : Array (Option Value)} {oc__law_purse kV__law_purse dc__law_purse pm__law_purse cd__law_purse ct__law_purse : Value}
    {od__law_coin an__law_coin : Option Addr} {sl__law_coin : Array (Option Value)} {oc__law_coin kV__law_coin dc__law_coin pm__law_coin cd__law_coin ct__law_coin : Value}
    {od__law_pick an__law_pick : Option Addr} {sl__law_pick : Array (Option Value)} {oc__law_pick kV__law_pick dc__law_pick pm__law_pick cd__law_pick ct__law_pick : Value}
    {od__law_size an__law_size : Option Addr} {sl__law_size : Array (Option Value)} {oc__law_size kV__law_size dc__law_size pm__law_size cd__law_size ct__law_size : Value}
    {od__law_whole an__law_whole : Option Addr} {sl__law_whole : Array (Option Value)} {oc__law_whole kV__law_whole dc__law_whole pm__law_whole cd__law_whole ct__law_whole : Value}
    {od__law_grids_right an__law_grids_right : Option Addr} {sl__law_grids_right : Array (Option Value)} {oc__law_grids_right kV__law_grids_right dc__law_grids_right pm__law_grids_right cd__law_grids_right ct__law_grids_right : Value}
    {od__law_rows_right an__law_rows_right : Option Addr} {sl__law_rows_right : Array (Option Value)} {oc__law_rows_right kV__law_rows_right dc__law_rows_right pm__law_rows_right cd__law_rows_right ct__law_rows_right : Value}
    {od__law_parabolas_right an__law_parabolas_right : Option Addr} {sl__law_parabolas_right : Array (Option Value)} {oc__law_parabolas_right kV__law_parabolas_right dc__law_parabolas_right pm__law_parabolas_right cd__law_parabolas_right ct__law_parabolas_right : Value}
    {od__law_circles_right an__law_circles_right : Option Addr} {sl__law_circles_right : Array (Option Value)} {oc__law_circles_right kV__law_circles_right dc__law_circles_right pm__law_circles_right cd__law_circles_right ct__law_circles_right : Value}
    {od__law_zigzags_right an__law_zigzags_right : Option Addr} {sl__law_zigzags_right : Array (Option Value)} {oc__law_zigzags_right kV__law_zigzags_right dc__law_zigzags_right pm__law_zigzags_right cd__law_zigzags_right ct__law_zigzags_right : Value}
    {odL anL : Option Addr} {slL : Array (Option Value)} {ocL kVL dcL pmL cdL ctL : Value}
    {tLARGEST : Tok}
    (a_is_integer : PySem.W.nsIn K mainGlobals "is_integer" = some (some (.ref f_is_integer))) (l_is_integer : K.lookup f_is_integer = some ⟨oc_is_integer, od_is_integer, .func (PySem.W.fnOf "is_integer" "is_integer" (defArgs s_is_integer) (defBody s_is_integer) (defScope s_is_integer) .none kV_is_integer dc_is_integer pm_is_integer an_is_integer cd_is_integer ct_is_integer), sl_is_integer⟩) (c_is_integer : PySem.W.codeIn K cd_is_integer "is_integer" = true) (k_is_integer : PySem.W.keepIn K (.ref f_is_integer) = true)
    (a_sign : PySem.W.nsIn K mainGlobals "sign" = some (some (.ref f_sign))) (l_sign : K.lookup f_sign = some ⟨oc_sign, od_sign, .func (PySem.W.fnOf "sign" "sign" (defArgs sSign) (defBody sSign) (defScope sSign) .none kV_sign dc_sign pm_sign an_sign cd_sign ct_sign), sl_sign⟩) (c_sign : PySem.W.codeIn K cd_sign "sign" = true) (k_sign : PySem.W.keepIn K (.ref f_sign) = true)
    (a_is_site : PySem.W.nsIn K mainGlobals "is_site" = some (some (.ref f_is_site))) (l_is_site : K.lookup f_is_site = some ⟨oc_is_site, od_is_site, .func (PySem.W.fnOf "is_site" "is_site" (defArgs sIsSite) (defBody sIsSite) (defScope sIsSite) .none kV_is_site dc_is_site pm_is_site an_is_site cd_is_site ct_is_site), sl_is_site⟩) (c_is_site : PySem.W.codeIn K cd_is_site "is_site" = true) (k_is_site : PySem.W.keepIn K (.ref f_is_site) = true)
    (a_turn_of_sites : PySem.W.nsIn K mainGlobals "turn_of_sites" = some (some (.ref f_turn_of_sites))) (l_turn_of_sites : K.lookup f_turn_of_sites = some ⟨oc_turn_of_sites, od_turn_of_sites, .func (PySem.W.fnOf "turn_of_sites" "turn_of_sites" (defArgs sToS) (defBody sToS) (defScope sToS) .none kV_turn_of_sites dc_turn_of_sites pm_turn_of_sites an_turn_of_sites cd_turn_of_sites ct_turn_of_sites), sl_turn_of_sites⟩) (c_turn_of_sites : PySem.W.codeIn K cd_turn_of_sites "turn_of_sites" = true) (k_turn_of_sites : PySem.W.keepIn K (.ref f_turn_of_sites) = true)
    (a_check_site : PySem.W.nsIn K mainGlobals "check_site" = some (some (.ref f_check_site))) (l_check_site : K.lookup f_check_site = some ⟨oc_check_site, od_check_site, .func (PySem.W.fnOf "check_site" "check_site" (defArgs sCheck) (defBody sCheck) (defScope sCheck) .none kV_check_site dc_check_site pm_check_site an_check_site cd_check_site ct_check_site), sl_check_site⟩) (c_check_site : PySem.W.codeIn K cd_check_site "check_site" = true) (k_check_site : PySem.W.keepIn K (.ref f_check_site) = true)
    (a_height_over : PySem.W.nsIn K mainGlobals "height_over" = some (some (.ref f_height_over))) (l_height_over : K.lookup f_height_over = some ⟨oc_height_over, od_height_over, .func (PySem.W.fnOf "height_over" "height_over" (defArgs sHov) (defBody sHov) (defScope sHov) .none kV_height_over dc_height_over pm_height_over an_height_over cd_height_over ct_height_over), sl_height_over⟩) (c_height_over : PySem.W.codeIn K cd_height_over "height_over" = true) (k_height_over : PySem.W.keepIn K (.ref f_height_over) = true)
    (a_check_number : PySem.W.nsIn K mainGlobals "check_number" = some (some (.ref f_check_number))) (l_check_number : K.lookup f_check_number = some ⟨oc_check_number, od_check_number, .func (PySem.W.fnOf "check_number" "check_number" (defArgs s_check_number) (defBody s_check_number) (defScope s_check_number) .none kV_check_number dc_check_number pm_check_number an_check_number cd_check_number ct_check_number), sl_check_number⟩) (c_check_number : PySem.W.codeIn K cd_check_number "check_number" = true) (k_check_number : PySem.W.keepIn K (.ref f_check_number) = true)
    (a_check_size : PySem.W.nsIn K mainGlobals "check_size" = some (some (.ref f_check_size))) (l_check_size : K.lookup f_check_size = some ⟨oc_check_size, od_check_size, .func (PySem.W.fnOf "check_size" "check_size" (defArgs s_check_size) (defBody s_check_size) (defScope s_check_size) .none kV_check_size dc_check_size pm_check_size an_check_size cd_check_size ct_check_size), sl_check_size⟩) (c_check_size : PySem.W.codeIn K cd_check_size "check_size" = true) (k_check_size : PySem.W.keepIn K (.ref f_check_size) = true)
    (a_check_ends : PySem.W.nsIn K mainGlobals "check_ends" = some (some (.ref f_check_ends))) (l_check_ends : K.lookup f_check_ends = some ⟨oc_check_ends, od_check_ends, .func (PySem.W.fnOf "check_ends" "check_ends" (defArgs s_check_ends) (defBody s_check_ends) (defScope s_check_ends) .none kV_check_ends dc_check_ends pm_check_ends an_check_ends cd_check_ends ct_check_ends), sl_check_ends⟩) (c_check_ends : PySem.W.codeIn K cd_check_ends "check_ends" = true) (k_check_ends : PySem.W.keepIn K (.ref f_check_ends) = true)
    (a_counts_of : PySem.W.nsIn K mainGlobals "counts_of" = some (some (.ref f_counts_of))) (l_counts_of : K.lookup f_counts_of = some ⟨oc_counts_of, od_counts_of, .func (PySem.W.fnOf "counts_of" "counts_of" (defArgs s_counts_of) (defBody s_counts_of) (defScope s_counts_of) .none kV_counts_of dc_counts_of pm_counts_of an_counts_of cd_counts_of ct_counts_of), sl_counts_of⟩) (c_counts_of : PySem.W.codeIn K cd_counts_of "counts_of" = true) (k_counts_of : PySem.W.keepIn K (.ref f_counts_of) = true)
    (a_row_counts : PySem.W.nsIn K mainGlobals "row_counts" = some (some (.ref f_row_counts))) (l_row_counts : K.lookup f_row_counts = some ⟨oc_row_counts, od_row_counts, .func (PySem.W.fnOf "row_counts" "row_counts" (defArgs s_row_counts) (defBody s_row_counts) (defScope s_row_counts) .none kV_row_counts dc_row_counts pm_row_counts an_row_counts cd_row_counts ct_row_counts), sl_row_counts⟩) (c_row_counts : PySem.W.codeIn K cd_row_counts "row_counts" = true) (k_row_counts : PySem.W.keepIn K (.ref f_row_counts) = true)
    (a_grid_counts : PySem.W.nsIn K mainGlobals "grid_counts" = some (some (.ref f_grid_counts))) (l_grid_counts : K.lookup f_grid_counts = some ⟨oc_grid_counts, od_grid_counts, .func (PySem.W.fnOf "grid_counts" "grid_counts" (defArgs s_grid_counts) (defBody s_grid_counts) (defScope s_grid_counts) .none kV_grid_counts dc_grid_counts pm_grid_counts an_grid_counts cd_grid_counts ct_grid_counts), sl_grid_counts⟩) (c_grid_counts : PySem.W.codeIn K cd_grid_counts "grid_counts" = true) (k_grid_counts : PySem.W.keepIn K (.ref f_grid_counts) = true)
    (a_check_two_rows : PySem.W.nsIn K mainGlobals "check_two_rows" = some (some (.ref f_check_two_rows))) (l_check_two_rows : K.lookup f_check_two_rows = some ⟨oc_check_two_rows, od_check_two_rows, .func (PySem.W.fnOf "check_two_rows" "check_two_rows" (defArgs s_check_two_rows) (defBody s_check_two_rows) (defScope s_check_two_rows) .none kV_check_two_rows dc_check_two_rows pm_check_two_rows an_check_two_rows cd_check_two_rows ct_check_two_rows), sl_check_two_rows⟩) (c_check_two_rows : PySem.W.codeIn K cd_check_two_rows "check_two_rows" = true) (k_check_two_rows : PySem.W.keepIn K (.ref f_check_two_rows) = true)
    (a_two_rows_counts : PySem.W.nsIn K mainGlobals "two_rows_counts" = some (some (.ref f_two_rows_counts))) (l_two_rows_counts : K.lookup f_two_rows_counts = some ⟨oc_two_rows_counts, od_two_rows_counts, .func (PySem.W.fnOf "two_rows_counts" "two_rows_counts" (defArgs s_two_rows_counts) (defBody s_two_rows_counts) (defScope s_two_rows_counts) .none kV_two_rows_counts dc_two_rows_counts pm_two_rows_counts an_two_rows_counts cd_two_rows_counts ct_two_rows_counts), sl_two_rows_counts⟩) (c_two_rows_counts : PySem.W.codeIn K cd_two_rows_counts "two_rows_counts" = true) (k_two_rows_counts : PySem.W.keepIn K (.ref f_two_rows_counts) = true)
    (a_parabola_counts : PySem.W.nsIn K mainGlobals "parabola_counts" = some (some (.ref f_parabola_counts))) (l_parabola_counts : K.lookup f_parabola_counts = some ⟨oc_parabola_counts, od_parabola_counts, .func (PySem.W.fnOf "parabola_counts" "parabola_counts" (defArgs s_parabola_counts) (defBody s_parabola_counts) (defScope s_parabola_counts) .none kV_parabola_counts dc_parabola_counts pm_parabola_counts an_parabola_counts cd_parabola_counts ct_parabola_counts), sl_parabola_counts⟩) (c_parabola_counts : PySem.W.codeIn K cd_parabola_counts "parabola_counts" = true) (k_parabola_counts : PySem.W.keepIn K (.ref f_parabola_counts) = true)
    (a_zigzag_counts : PySem.W.nsIn K mainGlobals "zigzag_counts" = some (some (.ref f_zigzag_counts))) (l_zigzag_counts : K.lookup f_zigzag_counts = some ⟨oc_zigzag_counts, od_zigzag_counts, .func (PySem.W.fnOf "zigzag_counts" "zigzag_counts" (defArgs s_zigzag_counts) (defBody s_zigzag_counts) (defScope s_zigzag_counts) .none kV_zigzag_counts dc_zigzag_counts pm_zigzag_counts an_zigzag_counts cd_zigzag_counts ct_zigzag_counts), sl_zigzag_counts⟩) (c_zigzag_counts : PySem.W.codeIn K cd_zigzag_counts "zigzag_counts" = true) (k_zigzag_counts : PySem.W.keepIn K (.ref f_zigzag_counts) = true)
    (a_in_circle : PySem.W.nsIn K mainGlobals "in_circle" = some (some (.ref f_in_circle))) (l_in_circle : K.lookup f_in_circle = some ⟨oc_in_circle, od_in_circle, .func (PySem.W.fnOf "in_circle" "in_circle" (defArgs sInC) (defBody sInC) (defScope sInC) .none kV_in_circle dc_in_circle pm_in_circle an_in_circle cd_in_circle ct_in_circle), sl_in_circle⟩) (c_in_circle : PySem.W.codeIn K cd_in_circle "in_circle" = true) (k_in_circle : PySem.W.keepIn K (.ref f_in_circle) = true)
    (a_lift_side : PySem.W.nsIn K mainGlobals "lift_side" = some (some (.ref f_lift_side))) (l_lift_side : K.lookup f_lift_side = some ⟨oc_lift_side, od_lift_side, .func (PySem.W.fnOf "lift_side" "lift_side" (defArgs sLSide) (defBody sLSide) (defScope sLSide) .none kV_lift_side dc_lift_side pm_lift_side an_lift_side cd_lift_side ct_lift_side), sl_lift_side⟩) (c_lift_side : PySem.W.codeIn K cd_lift_side "lift_side" = true) (k_lift_side : PySem.W.keepIn K (.ref f_lift_side) = true)
    (a__law_purse : PySem.W.nsIn K mainGlobals "_law_purse" = some (some (.ref f__law_purse))) (l__law_purse : K.lookup f__law_purse = some ⟨oc__law_purse, od__law_purse, .func (PySem.W.fnOf "_law_purse" "_law_purse" (defArgs s__law_purse) (defBody s__law_purse) (defScope s__law_purse) .none kV__law_purse dc__law_purse pm__law_purse an__law_purse cd__law_purse ct__law_purse), sl__law_purse⟩) (c__law_purse : PySem.W.codeIn K cd__law_purse "_law_purse" = true) (k__law_purse : PySem.W.keepIn K (.ref f__law_purse) = true)
    (a__law_coin : PySem.W.nsIn K mainGlobals "_law_coin" = some (some (.ref f__law_coin))) (l__law_coin : K.lookup f__law_coin = some ⟨oc__law_coin, od__law_coin, .func (PySem.W.fnOf "_law_coin" "_law_coin" (defArgs s__law_coin) (defBody s__law_coin) (defScope s__law_coin) .none kV__law_coin dc__law_coin pm__law_coin an__law_coin cd__law_coin ct__law_coin), sl__law_coin⟩) (c__law_coin : PySem.W.codeIn K cd__law_coin "_law_coin" = true) (k__law_coin : PySem.W.keepIn K (.ref f__law_coin) = true)
    (a__law_pick : PySem.W.nsIn K mainGlobals "_law_pick" = some (some (.ref f__law_pick))) (l__law_pick : K.lookup f__law_pick = some ⟨oc__law_pick, od__law_pick, .func (PySem.W.fnOf "_law_pick" "_law_pick" (defArgs s__law_pick) (defBody s__law_pick) (defScope s__law_pick) .none kV__law_pick dc__law_pick pm__law_pick an__law_pick cd__law_pick ct__law_pick), sl__law_pick⟩) (c__law_pick : PySem.W.codeIn K cd__law_pick "_law_pick" = true) (k__law_pick : PySem.W.keepIn K (.ref f__law_pick) = true)
    (a__law_size : PySem.W.nsIn K mainGlobals "_law_size" = some (some (.ref f__law_size))) (l__law_size : K.lookup f__law_size = some ⟨oc__law_size, od__law_size, .func (PySem.W.fnOf "_law_size" "_law_size" (defArgs s__law_size) (defBody s__law_size) (defScope s__law_size) .none kV__law_size dc__law_size pm__law_size an__law_size cd__law_size ct__law_size), sl__law_size⟩) (c__law_size : PySem.W.codeIn K cd__law_size "_law_size" = true) (k__law_size : PySem.W.keepIn K (.ref f__law_size) = true)
    (a__law_whole : PySem.W.nsIn K mainGlobals "_law_whole" = some (some (.ref f__law_whole))) (l__law_whole : K.lookup f__law_whole = some ⟨oc__law_whole, od__law_whole, .func (PySem.W.fnOf "_law_whole" "_law_whole" (defArgs s__law_whole) (defBody s__law_whole) (defScope s__law_whole) .none kV__law_whole dc__law_whole pm__law_whole an__law_whole cd__law_whole ct__law_whole), sl__law_whole⟩) (c__law_whole : PySem.W.codeIn K cd__law_whole "_law_whole" = true) (k__law_whole : PySem.W.keepIn K (.ref f__law_whole) = true)
    (a__law_grids_right : PySem.W.nsIn K mainGlobals "_law_grids_right" = some (some (.ref f__law_grids_right))) (l__law_grids_right : K.lookup f__law_grids_right = some ⟨oc__law_grids_right, od__law_grids_right, .func (PySem.W.fnOf "_law_grids_right" "_law_grids_right" (defArgs s__law_grids_right) (defBody s__law_grids_right) (defScope s__law_grids_right) .none kV__law_grids_right dc__law_grids_right pm__law_grids_right an__law_grids_right cd__law_grids_right ct__law_grids_right), sl__law_grids_right⟩) (c__law_grids_right : PySem.W.codeIn K cd__law_grids_right "_law_grids_right" = true) (k__law_grids_right : PySem.W.keepIn K (.ref f__law_grids_right) = true)
    (a__law_rows_right : PySem.W.nsIn K mainGlobals "_law_rows_right" = some (some (.ref f__law_rows_right))) (l__law_rows_right : K.lookup f__law_rows_right = some ⟨oc__law_rows_right, od__law_rows_right, .func (PySem.W.fnOf "_law_rows_right" "_law_rows_right" (defArgs s__law_rows_right) (defBody s__law_rows_right) (defScope s__law_rows_right) .none kV__law_rows_right dc__law_rows_right pm__law_rows_right an__law_rows_right cd__law_rows_right ct__law_rows_right), sl__law_rows_right⟩) (c__law_rows_right : PySem.W.codeIn K cd__law_rows_right "_law_rows_right" = true) (k__law_rows_right : PySem.W.keepIn K (.ref f__law_rows_right) = true)
    (a__law_parabolas_right : PySem.W.nsIn K mainGlobals "_law_parabolas_right" = some (some (.ref f__law_parabolas_right))) (l__law_parabolas_right : K.lookup f__law_parabolas_right = some ⟨oc__law_parabolas_right, od__law_parabolas_right, .func (PySem.W.fnOf "_law_parabolas_right" "_law_parabolas_right" (defArgs s__law_parabolas_right) (defBody s__law_parabolas_right) (defScope s__law_parabolas_right) .none kV__law_parabolas_right dc__law_parabolas_right pm__law_parabolas_right an__law_parabolas_right cd__law_parabolas_right ct__law_parabolas_right), sl__law_parabolas_right⟩) (c__law_parabolas_right : PySem.W.codeIn K cd__law_parabolas_right "_law_parabolas_right" = true) (k__law_parabolas_right : PySem.W.keepIn K (.ref f__law_parabolas_right) = true)
    (a__law_circles_right : PySem.W.nsIn K mainGlobals "_law_circles_right" = some (some (.ref f__law_circles_right))) (l__law_circles_right : K.lookup f__law_circles_right = some ⟨oc__law_circles_right, od__law_circles_right, .func (PySem.W.fnOf "_law_circles_right" "_law_circles_right" (defArgs s__law_circles_right) (defBody s__law_circles_right) (defScope s__law_circles_right) .none kV__law_circles_right dc__law_circles_right pm__law_circles_right an__law_circles_right cd__law_circles_right ct__law_circles_right), sl__law_circles_right⟩) (c__law_circles_right : PySem.W.codeIn K cd__law_circles_right "_law_circles_right" = true) (k__law_circles_right : PySem.W.keepIn K (.ref f__law_circles_right) = true)
    (a__law_zigzags_right : PySem.W.nsIn K mainGlobals "_law_zigzags_right" = some (some (.ref f__law_zigzags_right))) (l__law_zigzags_right : K.lookup f__law_zigzags_right = some ⟨oc__law_zigzags_right, od__law_zigzags_right, .func (PySem.W.fnOf "_law_zigzags_right" "_law_zigzags_right" (defArgs s__law_zigzags_right) (defBody s__law_zigzags_right) (defScope s__law_zigzags_right) .none kV__law_zigzags_right dc__law_zigzags_right pm__law_zigzags_right an__law_zigzags_right cd__law_zigzags_right ct__law_zigzags_right), sl__law_zigzags_right⟩) (c__law_zigzags_right : PySem.W.codeIn K cd__law_zigzags_right "_law_zigzags_right" = true) (k__law_zigzags_right : PySem.W.keepIn K (.ref f__law_zigzags_right) = true)
    (aL : PySem.W.nsIn K mainGlobals "law" = some (some (.ref fL))) (lL : K.lookup fL = some ⟨ocL, odL, .func (PySem.W.fnOf "law" "law" (defArgs s_law) (defBody s_law) (defScope s_law) .none kVL dcL pmL anL cdL ctL), slL⟩) (cL : PySem.W.codeIn K cdL "law" = true) (kL : PySem.W.keepIn K (.ref fL) = true)
    (zabs : PySem.W.nsIn K mainGlobals "abs" = some none)
    (zbool : PySem.W.nsIn K mainGlobals "bool" = some none)
    (zint : PySem.W.nsIn K mainGlobals "int" = some none)
    (zisinstance : PySem.W.nsIn K mainGlobals "isinstance" = some none)
    (zlen : PySem.W.nsIn K mainGlobals "len" = some none)
    (zmax : PySem.W.nsIn K mainGlobals "max" = some none)
    (zmin : PySem.W.nsIn K mainGlobals "min" = some none)
    (zrange : PySem.W.nsIn K mainGlobals "range" = some none)
    (ztuple : PySem.W.nsIn K mainGlobals "tuple" = some none)
    (gLARGEST : PySem.W.nsIn K mainGlobals "LARGEST" = some (some (.int 1000000 tLARGEST)))
    : ∃ fd : FuncData, (∀ (s : Shared) (v : Value), BindsTo s fd ⟨[v], []⟩ [("_law_script", v)]) ∧ ∀ base : Heap, K.In base → base.Ns mainGlobals mg → FnOk l.prog w K mg base CX0 8 fa fd ["_law_script"] (p_law K) := by
  have e := hfa.symm.trans (PySem.W.mg_of X G aL)
  cases e
  have F_is_integer := fun_mk (st := s_is_integer) l_is_integer c_is_integer k_is_integer
  have b_is_integer := F_is_integer.binds (ps := ["value"]) fun _ _ _ _ _ _ us hl => match us, hl with | [_], _ => rfl
  have g_is_integer := PySem.W.mg_of X G a_is_integer
  have F_sign := fun_mk (st := sSign) l_sign c_sign k_sign
  have b_sign := F_sign.binds (ps := ["number"]) fun _ _ _ _ _ _ us hl => match us, hl with | [_], _ => rfl
  have g_sign := PySem.W.mg_of X G a_sign
  have F_is_site := fun_mk (st := sIsSite) l_is_site c_is_site k_is_site
  have b_is_site := F_is_site.binds (ps := ["value"]) fun _ _ _ _ _ _ us hl => match us, hl with | [_], _ => rfl
  have g_is_site := PySem.W.mg_of X G a_is_site
  have F_turn_of_sites := fun_mk (st := sToS) l_turn_of_sites c_turn_of_sites k_turn_of_sites
  have b_turn_of_sites := F_turn_of_sites.binds (ps := ["a", "b", "c"]) fun _ _ _ _ _ _ us hl => match us, hl with | [_, _, _], _ => rfl
  have g_turn_of_sites := PySem.W.mg_of X G a_turn_of_sites
  have F_check_site := fun_mk (st := sCheck) l_check_site c_check_site k_check_site
  have b_check_site := F_check_site.binds (ps := ["value", "name"]) fun _ _ _ _ _ _ us hl => match us, hl with | [_, _], _ => rfl
  have g_check_site := PySem.W.mg_of X G a_check_site
  have F_height_over := fun_mk (st := sHov) l_height_over c_height_over k_height_over
  have b_height_over := F_height_over.binds (ps := ["a", "b", "c", "d"]) fun _ _ _ _ _ _ us hl => match us, hl with | [_, _, _, _], _ => rfl
  have g_height_over := PySem.W.mg_of X G a_height_over
  have F_check_number := fun_mk (st := s_check_number) l_check_number c_check_number k_check_number
  have b_check_number := F_check_number.binds (ps := ["value", "least", "name"]) fun _ _ _ _ _ _ us hl => match us, hl with | [_, _, _], _ => rfl
  have g_check_number := PySem.W.mg_of X G a_check_number
  have F_check_size := fun_mk (st := s_check_size) l_check_size c_check_size k_check_size
  have b_check_size := F_check_size.binds (ps := ["value", "least", "name"]) fun _ _ _ _ _ _ us hl => match us, hl with | [_, _, _], _ => rfl
  have g_check_size := PySem.W.mg_of X G a_check_size
  have F_check_ends := fun_mk (st := s_check_ends) l_check_ends c_check_ends k_check_ends
  have b_check_ends := F_check_ends.binds (ps := ["low", "high"]) fun _ _ _ _ _ _ us hl => match us, hl with | [_, _], _ => rfl
  have g_check_ends := PySem.W.mg_of X G a_check_ends
  have F_counts_of := fun_mk (st := s_counts_of) l_counts_of c_counts_of k_counts_of
  have b_counts_of := F_counts_of.binds (ps := ["many", "faces", "triangles"]) fun _ _ _ _ _ _ us hl => match us, hl with | [_, _, _], _ => rfl
  have g_counts_of := PySem.W.mg_of X G a_counts_of
  have F_row_counts := fun_mk (st := s_row_counts) l_row_counts c_row_counts k_row_counts
  have b_row_counts := F_row_counts.binds (ps := ["many"]) fun _ _ _ _ _ _ us hl => match us, hl with | [_], _ => rfl
  have g_row_counts := PySem.W.mg_of X G a_row_counts
  have F_grid_counts := fun_mk (st := s_grid_counts) l_grid_counts c_grid_counts k_grid_counts
  have b_grid_counts := F_grid_counts.binds (ps := ["m", "n"]) fun _ _ _ _ _ _ us hl => match us, hl with | [_, _], _ => rfl
  have g_grid_counts := PySem.W.mg_of X G a_grid_counts
  have F_check_two_rows := fun_mk (st := s_check_two_rows) l_check_two_rows c_check_two_rows k_check_two_rows
  have b_check_two_rows := F_check_two_rows.binds (ps := ["m", "n", "shift"]) fun _ _ _ _ _ _ us hl => match us, hl with | [_, _, _], _ => rfl
  have g_check_two_rows := PySem.W.mg_of X G a_check_two_rows
  have F_two_rows_counts := fun_mk (st := s_two_rows_counts) l_two_rows_counts c_two_rows_counts k_two_rows_counts
  have b_two_rows_counts := F_two_rows_counts.binds (ps := ["m", "n", "shift"]) fun _ _ _ _ _ _ us hl => match us, hl with | [_, _, _], _ => rfl
  have g_two_rows_counts := PySem.W.mg_of X G a_two_rows_counts
  have F_parabola_counts := fun_mk (st := s_parabola_counts) l_parabola_counts c_parabola_counts k_parabola_counts
  have b_parabola_counts := F_parabola_counts.binds (ps := ["low", "high"]) fun _ _ _ _ _ _ us hl => match us, hl with | [_, _], _ => rfl
  have g_parabola_counts := PySem.W.mg_of X G a_parabola_counts
  have F_zigzag_counts := fun_mk (st := s_zigzag_counts) l_zigzag_counts c_zigzag_counts k_zigzag_counts
  have b_zigzag_counts := F_zigzag_counts.binds (ps := ["m", "n"]) fun _ _ _ _ _ _ us hl => match us, hl with | [_, _], _ => rfl
  have g_zigzag_counts := PySem.W.mg_of X G a_zigzag_counts
  have F_in_circle := fun_mk (st := sInC) l_in_circle c_in_circle k_in_circle
  have b_in_circle := F_in_circle.binds (ps := ["a", "b", "c", "d"]) fun _ _ _ _ _ _ us hl => match us, hl with | [_, _, _, _], _ => rfl
  have g_in_circle := PySem.W.mg_of X G a_in_circle
  have F_lift_side := fun_mk (st := sLSide) l_lift_side c_lift_side k_lift_side
  have b_lift_side := F_lift_side.binds (ps := ["a", "b", "c", "d"]) fun _ _ _ _ _ _ us hl => match us, hl with | [_, _, _, _], _ => rfl
  have g_lift_side := PySem.W.mg_of X G a_lift_side
  have F__law_purse := fun_mk (st := s__law_purse) l__law_purse c__law_purse k__law_purse
  have b__law_purse := F__law_purse.binds (ps := ["_law_figure"]) fun _ _ _ _ _ _ us hl => match us, hl with | [_], _ => rfl
  have g__law_purse := PySem.W.mg_of X G a__law_purse
  have F__law_coin := fun_mk (st := s__law_coin) l__law_coin c__law_coin k__law_coin
  have b__law_coin := F__law_coin.binds (ps := ["_law_purse_here", "_law_many"]) fun _ _ _ _ _ _ us hl => match us, hl with | [_, _], _ => rfl
  have g__law_coin := PySem.W.mg_of X G a__law_coin
  have F__law_pick := fun_mk (st := s__law_pick) l__law_pick c__law_pick k__law_pick
  have b__law_pick := F__law_pick.binds (ps := ["_law_purse_here", "_law_some"]) fun _ _ _ _ _ _ us hl => match us, hl with | [_, _], _ => rfl
  have g__law_pick := PySem.W.mg_of X G a__law_pick
  have F__law_size := fun_mk (st := s__law_size) l__law_size c__law_size k__law_size
  have b__law_size := F__law_size.binds (ps := ["_law_purse_here", "_law_least_so"]) fun _ _ _ _ _ _ us hl => match us, hl with | [_, _], _ => rfl
  have g__law_size := PySem.W.mg_of X G a__law_size
  have F__law_whole := fun_mk (st := s__law_whole) l__law_whole c__law_whole k__law_whole
  have b__law_whole := F__law_whole.binds (ps := ["_law_found"]) fun _ _ _ _ _ _ us hl => match us, hl with | [_], _ => rfl
  have g__law_whole := PySem.W.mg_of X G a__law_whole
  have F__law_grids_right := fun_mk (st := s__law_grids_right) l__law_grids_right c__law_grids_right k__law_grids_right
  have b__law_grids_right := F__law_grids_right.binds (ps := ["_law_purse_here"]) fun _ _ _ _ _ _ us hl => match us, hl with | [_], _ => rfl
  have g__law_grids_right := PySem.W.mg_of X G a__law_grids_right
  have F__law_rows_right := fun_mk (st := s__law_rows_right) l__law_rows_right c__law_rows_right k__law_rows_right
  have b__law_rows_right := F__law_rows_right.binds (ps := ["_law_purse_here"]) fun _ _ _ _ _ _ us hl => match us, hl with | [_], _ => rfl
  have g__law_rows_right := PySem.W.mg_of X G a__law_rows_right
  have F__law_parabolas_right := fun_mk (st := s__law_parabolas_right) l__law_parabolas_right c__law_parabolas_right k__law_parabolas_right
  have b__law_parabolas_right := F__law_parabolas_right.binds (ps := ["_law_purse_here"]) fun _ _ _ _ _ _ us hl => match us, hl with | [_], _ => rfl
  have g__law_parabolas_right := PySem.W.mg_of X G a__law_parabolas_right
  have F__law_circles_right := fun_mk (st := s__law_circles_right) l__law_circles_right c__law_circles_right k__law_circles_right
  have b__law_circles_right := F__law_circles_right.binds (ps := ["_law_purse_here"]) fun _ _ _ _ _ _ us hl => match us, hl with | [_], _ => rfl
  have g__law_circles_right := PySem.W.mg_of X G a__law_circles_right
  have F__law_zigzags_right := fun_mk (st := s__law_zigzags_right) l__law_zigzags_right c__law_zigzags_right k__law_zigzags_right
  have b__law_zigzags_right := F__law_zigzags_right.binds (ps := ["_law_purse_here"]) fun _ _ _ _ _ _ us hl => match us, hl with | [_], _ => rfl
  have g__law_zigzags_right := PySem.W.mg_of X G a__law_zigzags_right
  have FL := fun_mk (st := s_law) lL cL kL
  have mabs := PySem.W.mg_none_of X G zabs
  have mbool := PySem.W.mg_none_of X G zbool
  have mint := PySem.W.mg_none_of X G zint
  have misinstance := PySem.W.mg_none_of X G zisinstance
  have mlen := PySem.W.mg_none_of X G zlen
  have mmax := PySem.W.mg_none_of X G zmax
  have mmin := PySem.W.mg_none_of X G zmin
  have mrange := PySem.W.mg_none_of X G zrange
  have mtuple := PySem.W.mg_none_of X G ztuple
  have mLARGEST := PySem.W.mg_of X G gLARGEST
  refine ⟨PySem.W.fnOf "law" "law" (defArgs s_law) (defBody s_law) (defScope s_law) .none kVL dcL pmL anL cdL ctL, fun s v => .of_eq rfl, fun base _ _ => ?_⟩
  have D_is_integer : Df K mg "is_integer" s_is_integer ["value"] := Df.mk' F_is_integer g_is_integer k_is_integer b_is_integer
  have D_sign : Df K mg "sign" sSign ["number"] := Df.mk' F_sign g_sign k_sign b_sign
  have D_is_site : Df K mg "is_site" sIsSite ["value"] := Df.mk' F_is_site g_is_site k_is_site b_is_site
  have D_turn_of_sites : Df K mg "turn_of_sites" sToS ["a", "b", "c"] := Df.mk' F_turn_of_sites g_turn_of_sites k_turn_of_sites b_turn_of_sites
  have D_check_site : Df K mg "check_site" sCheck ["value", "name"] := Df.mk' F_check_site g_check_site k_check_site b_check_site
  have D_height_over : Df K mg "height_over" sHov ["a", "b", "c", "d"] := Df.mk' F_height_over g_height_over k_height_over b_height_over
  have D_check_number : Df K mg "check_number" s_check_number ["value", "least", "name"] := Df.mk' F_check_number g_check_number k_check_number b_check_number
  have D_check_size : Df K mg "check_size" s_check_size ["value", "least", "name"] := Df.mk' F_check_size g_check_size k_check_size b_check_size
  have D_check_ends : Df K mg "check_ends" s_check_ends ["low", "high"] := Df.mk' F_check_ends g_check_ends k_check_ends b_check_ends
  have D_counts_of : Df K mg "counts_of" s_counts_of ["many", "faces", "triangles"] := Df.mk' F_counts_of g_counts_of k_counts_of b_counts_of
  have D_row_counts : Df K mg "row_counts" s_row_counts ["many"] := Df.mk' F_row_counts g_row_counts k_row_counts b_row_counts
  have D_grid_counts : Df K mg "grid_counts" s_grid_counts ["m", "n"] := Df.mk' F_grid_counts g_grid_counts k_grid_counts b_grid_counts
  have D_check_two_rows : Df K mg "check_two_rows" s_check_two_rows ["m", "n", "shift"] := Df.mk' F_check_two_rows g_check_two_rows k_check_two_rows b_check_two_rows
  have D_two_rows_counts : Df K mg "two_rows_counts" s_two_rows_counts ["m", "n", "shift"] := Df.mk' F_two_rows_counts g_two_rows_counts k_two_rows_counts b_two_rows_counts
  have D_parabola_counts : Df K mg "parabola_counts" s_parabola_counts ["low", "high"] := Df.mk' F_parabola_counts g_parabola_counts k_parabola_counts b_parabola_counts
  have D_zigzag_counts : Df K mg "zigzag_counts" s_zigzag_counts ["m", "n"] := Df.mk' F_zigzag_counts g_zigzag_counts k_zigzag_counts b_zigzag_counts
  have D_in_circle : Df K mg "in_circle" sInC ["a", "b", "c", "d"] := Df.mk' F_in_circle g_in_circle k_in_circle b_in_circle
  have D_lift_side : Df K mg "lift_side" sLSide ["a", "b", "c", "d"] := Df.mk' F_lift_side g_lift_side k_lift_side b_lift_side
  have D__law_purse : Df K mg "_law_purse" s__law_purse ["_law_figure"] := Df.mk' F__law_purse g__law_purse k__law_purse b__law_purse
  have D__law_coin : Df K mg "_law_coin" s__law_coin ["_law_purse_here", "_law_many"] := Df.mk' F__law_coin g__law_coin k__law_coin b__law_coin
  have D__law_pick : Df K mg "_law_pick" s__law_pick ["_law_purse_here", "_law_some"] := Df.mk' F__law_pick g__law_pick k__law_pick b__law_pick
  have D__law_size : Df K mg "_law_size" s__law_size ["_law_purse_here", "_law_least_so"] := Df.mk' F__law_size g__law_size k__law_size b__law_size
  have D__law_whole : Df K mg "_law_whole" s__law_whole ["_law_found"] := Df.mk' F__law_whole g__law_whole k__law_whole b__law_whole
  have D__law_grids_right : Df K mg "_law_grids_right" s__law_grids_right ["_law_purse_here"] := Df.mk' F__law_grids_right g__law_grids_right k__law_grids_right b__law_grids_right
  have D__law_rows_right : Df K mg "_law_rows_right" s__law_rows_right ["_law_purse_here"] := Df.mk' F__law_rows_right g__law_rows_right k__law_rows_right b__law_rows_right
  have D__law_parabolas_right : Df K mg "_law_parabolas_right" s__law_parabolas_right ["_law_purse_here"] := Df.mk' F__law_parabolas_right g__law_parabolas_right k__law_parabolas_right b__law_parabolas_right
  have D__law_circles_right : Df K mg "_law_circles_right" s__law_circles_right ["_law_purse_here"] := Df.mk' F__law_circles_right g__law_circles_right k__law_circles_right b__law_circles_right
  have D__law_zigzags_right : Df K mg "_law_zigzags_right" s__law_zigzags_right ["_law_purse_here"] := Df.mk' F__law_zigzags_right g__law_zigzags_right k__law_zigzags_right b__law_zigzags_right
  have C_is_site : Cl l.prog w K mg base CX0 "is_site" 1 ["value"] spIsSite := D_is_site.cl fun f fd F => ok_issite (k := 0) F misinstance mtuple mint mlen
  have C_turn_of_sites := D_turn_of_sites.cl fun f fd F => ok_tos (P := l.prog) (w := w) (base := base) (k := 1) F misinstance mtuple mint mlen
  have C_sign := D_sign.cl fun f fd F => ok_sign (P := l.prog) (w := w) (mg := mg) (base := base) (k := 1) F
  have C_height_over := D_height_over.cl fun f fd F => ok_hov (P := l.prog) (w := w) (mg := mg) (base := base) (k := 1) F
  obtain ⟨fSt, fdSt, GSt, gSt, kSt, bSt⟩ := C_is_site.ex
  have C_check_site := D_check_site.cl fun f fd F => ok_check (k := 0) F GSt gSt kSt bSt
  obtain ⟨fA, fdA, GA, gA, kA, bA⟩ := C_turn_of_sites.ex
  obtain ⟨fCk, fdCk, GCk, gCk, kCk, bCk⟩ := C_check_site.ex
  obtain ⟨fH, fdH, GH, gH, kH, bH⟩ := C_height_over.ex
  obtain ⟨fSg, fdSg, GSg, gSg, kSg, bSg⟩ := C_sign.ex
  have C_lift_side := D_lift_side.cl fun f fd F => ok_lside (k := 1) F GA gA kA bA GCk gCk kCk bCk GH gH kH bH GSg gSg kSg bSg
  obtain ⟨fLs, fdLs, GLs, gLs, kLs, bLs⟩ := C_lift_side.ex
  have C_in_circle := D_in_circle.cl fun f fd F => ok_inc (k := 2) F GLs gLs kLs bLs
  have C__law_purse := ok__law_purse (P := l.prog) (w := w) (K := K) (mg := mg) (base := base) D__law_purse  mabs mint  
  have C__law_coin := ok__law_coin (P := l.prog) (w := w) (K := K) (mg := mg) (base := base) D__law_coin  mint  
  have C__law_pick := ok__law_pick (P := l.prog) (w := w) (K := K) (mg := mg) (base := base) D__law_pick C__law_coin mlen  
  have C_is_integer := ok_is_integer (P := l.prog) (w := w) (K := K) (mg := mg) (base := base) D_is_integer  mbool mint misinstance  
  have C_check_number := ok_check_number (P := l.prog) (w := w) (K := K) (mg := mg) (base := base) D_check_number C_is_integer   
  have C_check_size := ok_check_size (P := l.prog) (w := w) (K := K) (mg := mg) (base := base) D_check_size C_check_number  mLARGEST 
  have C_check_ends := ok_check_ends (P := l.prog) (w := w) (K := K) (mg := mg) (base := base) D_check_ends C_check_size  mLARGEST 
  have C_counts_of := ok_counts_of (P := l.prog) (w := w) (K := K) (mg := mg) (base := base) D_counts_of    
  have C_row_counts := ok_row_counts (P := l.prog) (w := w) (K := K) (mg := mg) (base := base) D_row_counts    
  have C_grid_counts := ok_grid_counts (P := l.prog) (w := w) (K := K) (mg := mg) (base := base) D_grid_counts C_check_size C_counts_of C_row_counts   
  have C_check_two_rows := ok_check_two_rows (P := l.prog) (w := w) (K := K) (mg := mg) (base := base) D_check_two_rows C_check_size  mLARGEST 
  have C_two_rows_counts := ok_two_rows_counts (P := l.prog) (w := w) (K := K) (mg := mg) (base := base) D_two_rows_counts C_counts_of C_row_counts C_check_two_rows mmax mmin  
  have C_parabola_counts := ok_parabola_counts (P := l.prog) (w := w) (K := K) (mg := mg) (base := base) D_parabola_counts C_check_ends C_counts_of C_row_counts mmax mmin  
  have C_zigzag_counts := ok_zigzag_counts (P := l.prog) (w := w) (K := K) (mg := mg) (base := base) D_zigzag_counts C_check_size C_counts_of   
  have C__law_size := ok__law_size (P := l.prog) (w := w) (K := K) (mg := mg) (base := base) D__law_size C__law_coin C__law_pick   
  have C__law_whole := ok__law_whole (P := l.prog) (w := w) (K := K) (mg := mg) (base := base) D__law_whole    
  have C__law_grids_right := ok__law_grids_right (P := l.prog) (w := w) (K := K) (mg := mg) (base := base) D__law_grids_right C_grid_counts C__law_size C__law_whole   
  have C__law_rows_right := ok__law_rows_right (P := l.prog) (w := w) (K := K) (mg := mg) (base := base) D__law_rows_right C__law_coin C__law_pick C_two_rows_counts C__law_size mint mmax mmin  
  have C__law_parabolas_right := ok__law_parabolas_right (P := l.prog) (w := w) (K := K) (mg := mg) (base := base) D__law_parabolas_right C__law_coin C__law_pick C_parabola_counts mmax mmin  
  have C__law_zigzags_right := ok__law_zigzags_right (P := l.prog) (w := w) (K := K) (mg := mg) (base := base) D__law_zigzags_right C_zigzag_counts C__law_size C__law_whole   
  have C__law_circles_right := ok__law_circles_right (P := l.prog) (w := w) (K := K) (mg := mg) (base := base) D__law_circles_right C__law_coin C__law_pick C_in_circle mabs mint mlen mmax mmin mrange  
  exact ok_law (P := l.prog) (w := w) (base := base) FL C__law_purse C_grid_counts C_parabola_counts   C__law_grids_right C__law_rows_right C__law_parabolas_right C__law_circles_right C__law_zigzags_right
end NcK
open PySem PySem.W PyProof.Rows
set_option maxHeartbeats 0 in
theorem PySem.Challenge.cw_nearcells_k71_whole_far_shapes_holds : PySem.Challenge.rw_nearcells_k71_whole_far_shapes.Holds := by
  w_on; o_law; k_head; (case hw => w_witness2)
  k_fill
  refine L2.walk_of (l := PySem.Challenge.rw_nearcells_k71_whole_far_shapes) (n := 63) (k := 8) (x := "_law_script") (CX := fun _ => L2.CX0) (sp := fun w => NcK.p_law _) rfl (by decide) rfl ⟨rfl, by decide, by decide⟩ (fun w h Y => PySem.W.kIn_of Y) ?F (fun _ _ a ns hl _ hS => ⟨a, ns, rfl, hS, hl, fun _ => rfl⟩) (fun _ _ _ _ _ h => h)
  case F =>
    intro w mg fa h KX G hmg
    refine' NcK.all_mk KX G hmg ?a_is_integer ?l_is_integer ?c_is_integer ?k_is_integer ?a_sign ?l_sign ?c_sign ?k_sign ?a_is_site ?l_is_site ?c_is_site ?k_is_site ?a_turn_of_sites ?l_turn_of_sites ?c_turn_of_sites ?k_turn_of_sites ?a_check_site ?l_check_site ?c_check_site ?k_check_site ?a_height_over ?l_height_over ?c_height_over ?k_height_over ?a_check_number ?l_check_number ?c_check_number ?k_check_number ?a_check_size ?l_check_size ?c_check_size ?k_check_size ?a_check_ends ?l_check_ends ?c_check_ends ?k_check_ends ?a_counts_of ?l_counts_of ?c_counts_of ?k_counts_of ?a_row_counts ?l_row_counts ?c_row_counts ?k_row_counts ?a_grid_counts ?l_grid_counts ?c_grid_counts ?k_grid_counts ?a_check_two_rows ?l_check_two_rows ?c_check_two_rows ?k_check_two_rows ?a_two_rows_counts ?l_two_rows_counts ?c_two_rows_counts ?k_two_rows_counts ?a_parabola_counts ?l_parabola_counts ?c_parabola_counts ?k_parabola_counts ?a_zigzag_counts ?l_zigzag_counts ?c_zigzag_counts ?k_zigzag_counts ?a_in_circle ?l_in_circle ?c_in_circle ?k_in_circle ?a_lift_side ?l_lift_side ?c_lift_side ?k_lift_side ?a__law_purse ?l__law_purse ?c__law_purse ?k__law_purse ?a__law_coin ?l__law_coin ?c__law_coin ?k__law_coin ?a__law_pick ?l__law_pick ?c__law_pick ?k__law_pick ?a__law_size ?l__law_size ?c__law_size ?k__law_size ?a__law_whole ?l__law_whole ?c__law_whole ?k__law_whole ?a__law_grids_right ?l__law_grids_right ?c__law_grids_right ?k__law_grids_right ?a__law_rows_right ?l__law_rows_right ?c__law_rows_right ?k__law_rows_right ?a__law_parabolas_right ?l__law_parabolas_right ?c__law_parabolas_right ?k__law_parabolas_right ?a__law_circles_right ?l__law_circles_right ?c__law_circles_right ?k__law_circles_right ?a__law_zigzags_right ?l__law_zigzags_right ?c__law_zigzags_right ?k__law_zigzags_right ?aL ?lL ?cL ?kL ?zabs ?zbool ?zint ?zisinstance ?zlen ?zmax ?zmin ?zrange ?ztuple ?gLARGEST
    (case a_is_integer => k_is); (case l_is_integer => k_is); (case c_is_integer => k_is); (case k_is_integer => k_is); (case a_sign => k_is); (case l_sign => k_is); (case c_sign => k_is); (case k_sign => k_is); (case a_is_site => k_is); (case l_is_site => k_is); (case c_is_site => k_is); (case k_is_site => k_is); (case a_turn_of_sites => k_is); (case l_turn_of_sites => k_is); (case c_turn_of_sites => k_is); (case k_turn_of_sites => k_is); (case a_check_site => k_is); (case l_check_site => k_is); (case c_check_site => k_is); (case k_check_site => k_is); (case a_height_over => k_is); (case l_height_over => k_is); (case c_height_over => k_is); (case k_height_over => k_is); (case a_check_number => k_is); (case l_check_number => k_is); (case c_check_number => k_is); (case k_check_number => k_is); (case a_check_size => k_is); (case l_check_size => k_is); (case c_check_size => k_is); (case k_check_size => k_is); (case a_check_ends => k_is); (case l_check_ends => k_is); (case c_check_ends => k_is); (case k_check_ends => k_is); (case a_counts_of => k_is); (case l_counts_of => k_is); (case c_counts_of => k_is); (case k_counts_of => k_is); (case a_row_counts => k_is); (case l_row_counts => k_is); (case c_row_counts => k_is); (case k_row_counts => k_is); (case a_grid_counts => k_is); (case l_grid_counts => k_is); (case c_grid_counts => k_is); (case k_grid_counts => k_is); (case a_check_two_rows => k_is); (case l_check_two_rows => k_is); (case c_check_two_rows => k_is); (case k_check_two_rows => k_is); (case a_two_rows_counts => k_is); (case l_two_rows_counts => k_is); (case c_two_rows_counts => k_is); (case k_two_rows_counts => k_is); (case a_parabola_counts => k_is); (case l_parabola_counts => k_is); (case c_parabola_counts => k_is); (case k_parabola_counts => k_is); (case a_zigzag_counts => k_is); (case l_zigzag_counts => k_is); (case c_zigzag_counts => k_is); (case k_zigzag_counts => k_is); (case a_in_circle => k_is); (case l_in_circle => k_is); (case c_in_circle => k_is); (case k_in_circle => k_is); (case a_lift_side => k_is); (case l_lift_side => k_is); (case c_lift_side => k_is); (case k_lift_side => k_is); (case a__law_purse => k_is); (case l__law_purse => k_is); (case c__law_purse => k_is); (case k__law_purse => k_is); (case a__law_coin => k_is); (case l__law_coin => k_is); (case c__law_coin => k_is); (case k__law_coin => k_is); (case a__law_pick => k_is); (case l__law_pick => k_is); (case c__law_pick => k_is); (case k__law_pick => k_is); (case a__law_size => k_is); (case l__law_size => k_is); (case c__law_size => k_is); (case k__law_size => k_is); (case a__law_whole => k_is); (case l__law_whole => k_is); (case c__law_whole => k_is); (case k__law_whole => k_is); (case a__law_grids_right => k_is); (case l__law_grids_right => k_is); (case c__law_grids_right => k_is); (case k__law_grids_right => k_is); (case a__law_rows_right => k_is); (case l__law_rows_right => k_is); (case c__law_rows_right => k_is); (case k__law_rows_right => k_is); (case a__law_parabolas_right => k_is); (case l__law_parabolas_right => k_is); (case c__law_parabolas_right => k_is); (case k__law_parabolas_right => k_is); (case a__law_circles_right => k_is); (case l__law_circles_right => k_is); (case c__law_circles_right => k_is); (case k__law_circles_right => k_is); (case a__law_zigzags_right => k_is); (case l__law_zigzags_right => k_is); (case c__law_zigzags_right => k_is); (case k__law_zigzags_right => k_is); (case aL => k_is); (case lL => k_is); (case cL => k_is); (case kL => k_is); (case zabs => k_is); (case zbool => k_is); (case zint => k_is); (case zisinstance => k_is); (case zlen => k_is); (case zmax => k_is); (case zmin => k_is); (case zrange => k_is); (case ztuple => k_is); (case gLARGEST => k_is)
