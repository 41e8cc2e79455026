import PyProof.Rows.All
import Wide.All
import OpenK.AllK
import Wide.FinOn
import HandS.ForMost
import HandS.TupLe
import HandS.IsInst
import HandS.Wide
import HandS.Walk
import HandS.Gcd
import HandS.Codes
import HandS.Style
import KE.KMathG
import HandS.Exc
import HandS.ExcOwn
import HandS.ExcInit
import HandS.WordsExc
import HandS.TryMany
import HandS.ExcIs
import HandS.Lambda
import HandS.EndTab
import KE.KExcInit
import HandS.ExcValue
import HandS.ExcField
import KE.KDflt
import HandS.NoneIn
import HandS.CallLocal
import HandS.IterVal
import HandS.TupSets
import HandS.Iter
import PyProof.MinMaxWalk
import HandS.SetKeys
import PyProof.DictMoreH
import HandS.SortRule
import HandS.Comp
import PyProof.Rows.TupDisplay
import KE.KRevSl
import KE.DataMinMax
import KE.SortData
import HandS.Deep
import KE.KExcIs
import HandS.Flt
import KE.KNestM
import KE.KLam
import PySem.Challenge.RW_nearcells_k72_what_shapes_refuse
set_option Elab.async false
set_option linter.all false
set_option maxRecDepth 100000
set_option maxHeartbeats 4000000
/-! Own rules: min and max of two things that are compared by the heap (pairs); a call by keywords alone. -/
namespace Nc
open PySem PySem.Spec PyProof.Rows L2
section
variable {prog : Program} {w : World} {A : Around} {E : Value → Shared → Prop} {s : Shared} {va vb : Value} {k : Bool}
/-- all that stood before stands -/
abbrev KeepH (h h' : Heap) : Prop := ∀ c o, h.get? c = some o → h'.get? c = some o


/-- the loop of min behind its first item: best so far vx (twice at S), one more item vy to come, or none -/
theorem min_round {R : Result → Shared → Prop} {I S T : Addr} {vx vy : Value} {its : Array Value} {b : Bool} {c i : Nat} {s : Shared} (hh : A.handled = none) (hIT : T ≠ I) (hIS : S ≠ I) (hST : S ≠ T)
    (hit : s.heap.IsTupleIter I T i ∧ s.heap.IsTuple T its) (hy : its[i]? = some vy) (hend : its.size = i + 1) (hS : s.heap.get? S = some { cls := .type "list", dict := none, data := .seq #[vx, vx] c, slots := #[] })
    (hc : ∀ h' tk, (∀ b o, b ≠ I → s.heap.get? b = some o → h'.get? b = some o) → Ob.RcOp .Lt A.in1 { s with heap := h', toks := tk } vy vx b)
    (hR : ∀ h' tk, (∀ b o, b ≠ I → b ≠ S → s.heap.get? b = some o → h'.get? b = some o) → R (.ok (.ret (if b = true then vy else vx))) { s with heap := h', toks := tk }) :
    codeAny (model prog w) A (.builtin "min.loop" ⟨[.ref I, .none, .ref S], []⟩) R s := by
  have nm : (toString "min" ++ toString ".loop" : String) = "min.loop" := by decide
  have W := Walks.tuple (prog := prog) (w := w) (A := A.in1) hh I T hIT its
  -- no item is left: vz is handed back
  have last : ∀ (vz : Value) (c' : Nat) (s1 : Shared), s1.heap.IsTupleIter I T (i + 1) ∧ s1.heap.IsTuple T its → s1.heap.get? S = some { cls := .type "list", dict := none, data := .seq #[vz, vz] c', slots := #[] } →
      (∀ h' tk, (∀ b o, b ≠ I → b ≠ S → s1.heap.get? b = some o → h'.get? b = some o) → R (.ok (.ret vz)) { s1 with heap := h', toks := tk }) → codeAny (model prog w) A (.builtin "min.loop" ⟨[.ref I, .none, .ref S], []⟩) R s1 := by
    intro vz c' s1 st1 g1 r1
    obtain ⟨hp, gg, dd, tt, os⟩ := s1
    refine codeAny_builtin PySem.F.entry_min_loop ?_
    rw [Around.under_plainId PySem.F.plain_min_loop _]
    refine wpAny_bind (wpAny_seqItems g1 rfl (wpAny_bind (wpAny_tryCatch (W.done _ _ _ (hend ▸ st1) fun hq tk hk => ?_))))
    have g2 := hk S _ (fun z => hIS (List.mem_singleton.mp z)) g1
    refine wpAny_bind (wpAny_updateSeq g2 rfl (wpAny_bind (wpAny_letGo (wpAny_pure ?_))))
    exact r1 _ tk fun d o n1 n2 e => (Heap.get?_update_other _ _ (Ne.symm n2)).trans (hk d o (fun z => n1 (List.mem_singleton.mp z)) e)
  obtain ⟨hp, gg, dd, tt, os⟩ := s
  refine codeAny_builtin PySem.F.entry_min_loop ?_
  rw [Around.under_plainId PySem.F.plain_min_loop _]
  refine wpAny_bind (wpAny_seqItems hS rfl (wpAny_bind (wpAny_tryCatch (W.item i _ _ _ (by omega) hit fun v hq tk hP st hk => ?_))))
  have ev : v = vy := Option.some.inj ((show its[i]? = some v from hP).symm.trans hy)
  subst ev
  have kk : ∀ d o, d ≠ I → hp.get? d = some o → hq.get? d = some o := fun d o n e => hk d o (fun z => n (List.mem_singleton.mp z)) e
  have g2 := kk S _ hIS hS
  refine wpAny_bind (wpAny_pure ?_)
  show wpAny _ _ (tryCatch (holding [v, v] (richCompare _ v vx >>= _)) _ >>= _) _ _ _
  refine wpAny_bind (wpAny_tryCatch (wpAny_holding (wpAny_bind ((hc hq tk kk) prog w _ _ ?_))))
  refine wpAny_bind (wpAny_holding (wpAny_truthy_bool (wpAny_bind (wpAny_letGo (wpAny_pure ?_)))))
  cases b with
  | true =>
    simp only [if_true]
    refine wpAny_bind (wpAny_updateSeq g2 rfl (wpAny_bind (wpAny_letGo ?_)))
    rw [nm]
    have fr : ∀ d o, d ≠ S → hq.get? d = some o → (hq.update S fun o => { o with data := .seq #[v, v] (c + 1) }).get? d = some o := fun d o n e => (Heap.get?_update_other _ _ (Ne.symm n)).trans e
    refine wpAny_pure ⟨plainId_quiet PySem.F.plain_min_loop _, last v _ _ (W.frame _ _ _ st fun d hd o e => ?_) (Heap.get?_update_self _ g2 rfl) fun h' tk' hk' => ?_⟩
    · refine (Heap.get?_update_other _ _ ?_).trans e
      intro z
      rcases List.mem_cons.mp hd with q | q
      · exact hIS (z.trans q)
      · exact hST (z.trans (List.mem_singleton.mp q))
    · exact hR h' tk' fun d o n1 n2 e => hk' d o n1 n2 ((Heap.get?_update_other _ _ (Ne.symm n2)).trans (kk d o n1 e))
  | false =>
    simp only [Bool.false_eq_true, if_false]
    refine wpAny_bind (wpAny_letGo ?_)
    rw [nm]
    refine wpAny_pure ⟨plainId_quiet PySem.F.plain_min_loop _, last vx _ _ st g2 fun h' tk' hk' => ?_⟩
    exact hR h' tk' fun d o n1 n2 e => hk' d o n1 n2 (kk d o n1 e)

theorem min2_by {Q : Value → Shared → Prop} (hh : A.handled = none)
    (hc : ∀ h' tk, KeepH s.heap h' → Ob.RcOp .Lt A.in1 { s with heap := h', toks := tk } vb va k)
    (hq : ∀ h' tk, KeepH s.heap h' → Q (if k = true then vb else va) { s with heap := h', toks := tk }) :
    wpAny (model prog w) A (call (.builtin "min") [va, vb]) Q E s := by
  have nm : (toString "min" ++ toString ".loop" : String) = "min.loop" := by decide
  obtain ⟨hp, gg, dd, tt, os⟩ := s
  refine call_function_tree PySem.F.kind_min PySem.F.plain_min PySem.F.entry_min (PySem.F.args_min2 _ _) ?_
  refine wpAny_bind (wpAny_of_eq (show Builtin.Builtins.bindParams "min" ["key", "default"] 0 ⟨[], []⟩ = pure [none, none] from rfl) ?_)
  show wpAny _ A.in1 (newTuple [va, vb] >>= _) _ _ _
  have hT : (hp.push { cls := .type "tuple", data := .seq #[va, vb] }).IsTuple hp.objs.size #[va, vb] := ⟨_, Heap.get?_push_size _ rfl, rfl, 0, rfl⟩
  have z1 : (hp.push { cls := .type "tuple", data := .seq #[va, vb] }).objs.size = hp.objs.size + 1 := Heap.size_push ..
  have k1 : KeepH hp (hp.push { cls := .type "tuple", data := .seq #[va, vb] }) := fun c o e => Heap.get?_push_of_some _ e
  refine wpAny_bind (wpAny_newObj_type (wpAny_bind (wpAny_pyIter_tuple hT (wpAny_bind (wpAny_newObj_type ?_)))))
  generalize hp.push { cls := .type "tuple", data := .seq #[va, vb] } = h1 at *
  generalize eT : hp.objs.size = T at *
  generalize eI : h1.objs.size = I at *
  have gI : (h1.push { cls := .type "tuple_iterator", data := .fields #[.ref T, .int 0 0] }).get? I = some { cls := .type "tuple_iterator", data := .fields #[.ref T, .int 0 0] } := by
    rw [← eI]
    exact Heap.get?_push_size _ rfl
  have k2 : KeepH h1 (h1.push { cls := .type "tuple_iterator", data := .fields #[.ref T, .int 0 0] }) := fun c o e => Heap.get?_push_of_some _ e
  have z2 : (h1.push { cls := .type "tuple_iterator", data := .fields #[.ref T, .int 0 0] }).objs.size = I + 1 := by
    rw [← eI]
    exact Heap.size_push ..
  have hIT : T ≠ I := by omega
  obtain ⟨oT, gT, cT, nT, dT⟩ := hT
  generalize h1.push { cls := .type "tuple_iterator", data := .fields #[.ref T, .int 0 0] } = h2 at *
  have gS : (h2.push { cls := .type "list", data := .seq #[] }).get? h2.objs.size = some { cls := .type "list", data := .seq #[] } := Heap.get?_push_size _ rfl
  have k3 : KeepH h2 (h2.push { cls := .type "list", data := .seq #[] }) := fun c o e => Heap.get?_push_of_some _ e
  show wpAny _ _ (pure (Fin.again (Code.builtin (toString "min" ++ toString ".loop") ⟨[.ref I, .none, .ref h2.objs.size], []⟩))) _ _ ⟨h2.push { cls := .type "list", data := .seq #[] }, gg, dd, tt, os⟩
  rw [nm]
  generalize eS : h2.objs.size = S at *
  generalize h2.push { cls := .type "list", data := .seq #[] } = h3 at *
  have hIS : S ≠ I := by
    omega
  have hST : S ≠ T := by omega
  have W := Walks.tuple (prog := prog) (w := w) (A := A.in1) hh I T hIT #[va, vb]
  refine wpAny_pure ⟨plainId_quiet PySem.F.plain_min_loop _, ?_⟩
  refine codeAny_builtin PySem.F.entry_min_loop ?_
  rw [Around.under_plainId PySem.F.plain_min_loop _]
  have st0 : h3.IsTupleIter I T 0 ∧ h3.IsTuple T #[va, vb] := ⟨⟨_, k3 _ _ gI, rfl, rfl⟩, ⟨oT, k3 _ _ (k2 _ _ gT), cT, nT, dT⟩⟩
  refine wpAny_bind (wpAny_seqItems gS rfl (wpAny_bind (wpAny_tryCatch (W.item 0 ⟨h3, gg, dd, tt, os⟩ _ _ (by show 0 < 2; decide) st0 fun v hq' tk hP st hk => ?_))))
  have ev : v = va := (Option.some.inj (show some va = some v from hP)).symm
  subst ev
  refine wpAny_bind (wpAny_pure ?_)
  have kk : ∀ d o, d ≠ I → h3.get? d = some o → hq'.get? d = some o := fun d o n e => hk d o (fun z => n (List.mem_singleton.mp z)) e
  have g2 := kk S _ hIS gS
  show wpAny _ _ (updateSeq S (fun _ => #[v, v]) >>= _) _ _ _
  refine wpAny_bind (wpAny_updateSeq g2 rfl ?_)
  rw [nm]
  have all : ∀ d o, hp.get? d = some o → d ≠ I ∧ d ≠ S ∧ hq'.get? d = some o := fun d o e => by
    have l : d < T := eT ▸ Heap.lt_size e
    have lI : T < I := by omega
    have lS : T < S := by omega
    have n1 : d ≠ I := Nat.ne_of_lt (Nat.lt_trans l lI)
    exact ⟨n1, Nat.ne_of_lt (Nat.lt_trans l lS), kk d o n1 (k3 _ _ (k2 _ _ (k1 _ _ e)))⟩
  refine wpAny_pure ⟨plainId_quiet PySem.F.plain_min_loop _, min_round (i := 1) (its := #[v, vb]) (vy := vb) (vx := v) (T := T) (b := k) hh hIT hIS hST ?_ rfl rfl (Heap.get?_update_self _ g2 rfl) (fun h' tk' kp => ?_) fun h' tk' kp => ?_⟩
  · refine W.frame _ _ _ st fun d hd o e => (Heap.get?_update_other _ _ ?_).trans e
    intro z
    rcases List.mem_cons.mp hd with q | q
    · exact hIS (z.trans q)
    · exact hST (z.trans (List.mem_singleton.mp q))
  · refine hc h' tk' fun d o e => ?_
    obtain ⟨n1, n2, e2⟩ := all d o e
    exact kp d o n1 ((Heap.get?_update_other _ _ (Ne.symm n2)).trans e2)
  · refine hq h' tk' fun d o e => ?_
    obtain ⟨n1, n2, e2⟩ := all d o e
    exact kp d o n1 n2 ((Heap.get?_update_other _ _ (Ne.symm n2)).trans e2)


/-- the loop of max behind its first item: best so far vx (twice at S), one more item vy to come, or none -/
theorem max_round {R : Result → Shared → Prop} {I S T : Addr} {vx vy : Value} {its : Array Value} {b : Bool} {c i : Nat} {s : Shared} (hh : A.handled = none) (hIT : T ≠ I) (hIS : S ≠ I) (hST : S ≠ T)
    (hit : s.heap.IsTupleIter I T i ∧ s.heap.IsTuple T its) (hy : its[i]? = some vy) (hend : its.size = i + 1) (hS : s.heap.get? S = some { cls := .type "list", dict := none, data := .seq #[vx, vx] c, slots := #[] })
    (hc : ∀ h' tk, (∀ b o, b ≠ I → s.heap.get? b = some o → h'.get? b = some o) → Ob.RcOp .Gt A.in1 { s with heap := h', toks := tk } vy vx b)
    (hR : ∀ h' tk, (∀ b o, b ≠ I → b ≠ S → s.heap.get? b = some o → h'.get? b = some o) → R (.ok (.ret (if b = true then vy else vx))) { s with heap := h', toks := tk }) :
    codeAny (model prog w) A (.builtin "max.loop" ⟨[.ref I, .none, .ref S], []⟩) R s := by
  have nm : (toString "max" ++ toString ".loop" : String) = "max.loop" := by decide
  have W := Walks.tuple (prog := prog) (w := w) (A := A.in1) hh I T hIT its
  -- no item is left: vz is handed back
  have last : ∀ (vz : Value) (c' : Nat) (s1 : Shared), s1.heap.IsTupleIter I T (i + 1) ∧ s1.heap.IsTuple T its → s1.heap.get? S = some { cls := .type "list", dict := none, data := .seq #[vz, vz] c', slots := #[] } →
      (∀ h' tk, (∀ b o, b ≠ I → b ≠ S → s1.heap.get? b = some o → h'.get? b = some o) → R (.ok (.ret vz)) { s1 with heap := h', toks := tk }) → codeAny (model prog w) A (.builtin "max.loop" ⟨[.ref I, .none, .ref S], []⟩) R s1 := by
    intro vz c' s1 st1 g1 r1
    obtain ⟨hp, gg, dd, tt, os⟩ := s1
    refine codeAny_builtin PySem.F.entry_max_loop ?_
    rw [Around.under_plainId PySem.F.plain_max_loop _]
    refine wpAny_bind (wpAny_seqItems g1 rfl (wpAny_bind (wpAny_tryCatch (W.done _ _ _ (hend ▸ st1) fun hq tk hk => ?_))))
    have g2 := hk S _ (fun z => hIS (List.mem_singleton.mp z)) g1
    refine wpAny_bind (wpAny_updateSeq g2 rfl (wpAny_bind (wpAny_letGo (wpAny_pure ?_))))
    exact r1 _ tk fun d o n1 n2 e => (Heap.get?_update_other _ _ (Ne.symm n2)).trans (hk d o (fun z => n1 (List.mem_singleton.mp z)) e)
  obtain ⟨hp, gg, dd, tt, os⟩ := s
  refine codeAny_builtin PySem.F.entry_max_loop ?_
  rw [Around.under_plainId PySem.F.plain_max_loop _]
  refine wpAny_bind (wpAny_seqItems hS rfl (wpAny_bind (wpAny_tryCatch (W.item i _ _ _ (by omega) hit fun v hq tk hP st hk => ?_))))
  have ev : v = vy := Option.some.inj ((show its[i]? = some v from hP).symm.trans hy)
  subst ev
  have kk : ∀ d o, d ≠ I → hp.get? d = some o → hq.get? d = some o := fun d o n e => hk d o (fun z => n (List.mem_singleton.mp z)) e
  have g2 := kk S _ hIS hS
  refine wpAny_bind (wpAny_pure ?_)
  show wpAny _ _ (tryCatch (holding [v, v] (richCompare _ v vx >>= _)) _ >>= _) _ _ _
  refine wpAny_bind (wpAny_tryCatch (wpAny_holding (wpAny_bind ((hc hq tk kk) prog w _ _ ?_))))
  refine wpAny_bind (wpAny_holding (wpAny_truthy_bool (wpAny_bind (wpAny_letGo (wpAny_pure ?_)))))
  cases b with
  | true =>
    simp only [if_true]
    refine wpAny_bind (wpAny_updateSeq g2 rfl (wpAny_bind (wpAny_letGo ?_)))
    rw [nm]
    have fr : ∀ d o, d ≠ S → hq.get? d = some o → (hq.update S fun o => { o with data := .seq #[v, v] (c + 1) }).get? d = some o := fun d o n e => (Heap.get?_update_other _ _ (Ne.symm n)).trans e
    refine wpAny_pure ⟨plainId_quiet PySem.F.plain_max_loop _, last v _ _ (W.frame _ _ _ st fun d hd o e => ?_) (Heap.get?_update_self _ g2 rfl) fun h' tk' hk' => ?_⟩
    · refine (Heap.get?_update_other _ _ ?_).trans e
      intro z
      rcases List.mem_cons.mp hd with q | q
      · exact hIS (z.trans q)
      · exact hST (z.trans (List.mem_singleton.mp q))
    · exact hR h' tk' fun d o n1 n2 e => hk' d o n1 n2 ((Heap.get?_update_other _ _ (Ne.symm n2)).trans (kk d o n1 e))
  | false =>
    simp only [Bool.false_eq_true, if_false]
    refine wpAny_bind (wpAny_letGo ?_)
    rw [nm]
    refine wpAny_pure ⟨plainId_quiet PySem.F.plain_max_loop _, last vx _ _ st g2 fun h' tk' hk' => ?_⟩
    exact hR h' tk' fun d o n1 n2 e => hk' d o n1 n2 (kk d o n1 e)

theorem max2_by {Q : Value → Shared → Prop} (hh : A.handled = none)
    (hc : ∀ h' tk, KeepH s.heap h' → Ob.RcOp .Gt A.in1 { s with heap := h', toks := tk } vb va k)
    (hq : ∀ h' tk, KeepH s.heap h' → Q (if k = true then vb else va) { s with heap := h', toks := tk }) :
    wpAny (model prog w) A (call (.builtin "max") [va, vb]) Q E s := by
  have nm : (toString "max" ++ toString ".loop" : String) = "max.loop" := by decide
  obtain ⟨hp, gg, dd, tt, os⟩ := s
  refine call_function_tree PySem.F.kind_max PySem.F.plain_max PySem.F.entry_max (PySem.F.args_max2 _ _) ?_
  refine wpAny_bind (wpAny_of_eq (show Builtin.Builtins.bindParams "max" ["key", "default"] 0 ⟨[], []⟩ = pure [none, none] from rfl) ?_)
  show wpAny _ A.in1 (newTuple [va, vb] >>= _) _ _ _
  have hT : (hp.push { cls := .type "tuple", data := .seq #[va, vb] }).IsTuple hp.objs.size #[va, vb] := ⟨_, Heap.get?_push_size _ rfl, rfl, 0, rfl⟩
  have z1 : (hp.push { cls := .type "tuple", data := .seq #[va, vb] }).objs.size = hp.objs.size + 1 := Heap.size_push ..
  have k1 : KeepH hp (hp.push { cls := .type "tuple", data := .seq #[va, vb] }) := fun c o e => Heap.get?_push_of_some _ e
  refine wpAny_bind (wpAny_newObj_type (wpAny_bind (wpAny_pyIter_tuple hT (wpAny_bind (wpAny_newObj_type ?_)))))
  generalize hp.push { cls := .type "tuple", data := .seq #[va, vb] } = h1 at *
  generalize eT : hp.objs.size = T at *
  generalize eI : h1.objs.size = I at *
  have gI : (h1.push { cls := .type "tuple_iterator", data := .fields #[.ref T, .int 0 0] }).get? I = some { cls := .type "tuple_iterator", data := .fields #[.ref T, .int 0 0] } := by
    rw [← eI]
    exact Heap.get?_push_size _ rfl
  have k2 : KeepH h1 (h1.push { cls := .type "tuple_iterator", data := .fields #[.ref T, .int 0 0] }) := fun c o e => Heap.get?_push_of_some _ e
  have z2 : (h1.push { cls := .type "tuple_iterator", data := .fields #[.ref T, .int 0 0] }).objs.size = I + 1 := by
    rw [← eI]
    exact Heap.size_push ..
  have hIT : T ≠ I := by omega
  obtain ⟨oT, gT, cT, nT, dT⟩ := hT
  generalize h1.push { cls := .type "tuple_iterator", data := .fields #[.ref T, .int 0 0] } = h2 at *
  have gS : (h2.push { cls := .type "list", data := .seq #[] }).get? h2.objs.size = some { cls := .type "list", data := .seq #[] } := Heap.get?_push_size _ rfl
  have k3 : KeepH h2 (h2.push { cls := .type "list", data := .seq #[] }) := fun c o e => Heap.get?_push_of_some _ e
  show wpAny _ _ (pure (Fin.again (Code.builtin (toString "max" ++ toString ".loop") ⟨[.ref I, .none, .ref h2.objs.size], []⟩))) _ _ ⟨h2.push { cls := .type "list", data := .seq #[] }, gg, dd, tt, os⟩
  rw [nm]
  generalize eS : h2.objs.size = S at *
  generalize h2.push { cls := .type "list", data := .seq #[] } = h3 at *
  have hIS : S ≠ I := by
    omega
  have hST : S ≠ T := by omega
  have W := Walks.tuple (prog := prog) (w := w) (A := A.in1) hh I T hIT #[va, vb]
  refine wpAny_pure ⟨plainId_quiet PySem.F.plain_max_loop _, ?_⟩
  refine codeAny_builtin PySem.F.entry_max_loop ?_
  rw [Around.under_plainId PySem.F.plain_max_loop _]
  have st0 : h3.IsTupleIter I T 0 ∧ h3.IsTuple T #[va, vb] := ⟨⟨_, k3 _ _ gI, rfl, rfl⟩, ⟨oT, k3 _ _ (k2 _ _ gT), cT, nT, dT⟩⟩
  refine wpAny_bind (wpAny_seqItems gS rfl (wpAny_bind (wpAny_tryCatch (W.item 0 ⟨h3, gg, dd, tt, os⟩ _ _ (by show 0 < 2; decide) st0 fun v hq' tk hP st hk => ?_))))
  have ev : v = va := (Option.some.inj (show some va = some v from hP)).symm
  subst ev
  refine wpAny_bind (wpAny_pure ?_)
  have kk : ∀ d o, d ≠ I → h3.get? d = some o → hq'.get? d = some o := fun d o n e => hk d o (fun z => n (List.mem_singleton.mp z)) e
  have g2 := kk S _ hIS gS
  show wpAny _ _ (updateSeq S (fun _ => #[v, v]) >>= _) _ _ _
  refine wpAny_bind (wpAny_updateSeq g2 rfl ?_)
  rw [nm]
  have all : ∀ d o, hp.get? d = some o → d ≠ I ∧ d ≠ S ∧ hq'.get? d = some o := fun d o e => by
    have l : d < T := eT ▸ Heap.lt_size e
    have lI : T < I := by omega
    have lS : T < S := by omega
    have n1 : d ≠ I := Nat.ne_of_lt (Nat.lt_trans l lI)
    exact ⟨n1, Nat.ne_of_lt (Nat.lt_trans l lS), kk d o n1 (k3 _ _ (k2 _ _ (k1 _ _ e)))⟩
  refine wpAny_pure ⟨plainId_quiet PySem.F.plain_max_loop _, max_round (i := 1) (its := #[v, vb]) (vy := vb) (vx := v) (T := T) (b := k) hh hIT hIS hST ?_ rfl rfl (Heap.get?_update_self _ g2 rfl) (fun h' tk' kp => ?_) fun h' tk' kp => ?_⟩
  · refine W.frame _ _ _ st fun d hd o e => (Heap.get?_update_other _ _ ?_).trans e
    intro z
    rcases List.mem_cons.mp hd with q | q
    · exact hIS (z.trans q)
    · exact hST (z.trans (List.mem_singleton.mp q))
  · refine hc h' tk' fun d o e => ?_
    obtain ⟨n1, n2, e2⟩ := all d o e
    exact kp d o n1 ((Heap.get?_update_other _ _ (Ne.symm n2)).trans e2)
  · refine hq h' tk' fun d o e => ?_
    obtain ⟨n1, n2, e2⟩ := all d o e
    exact kp d o n1 n2 ((Heap.get?_update_other _ _ (Ne.symm n2)).trans e2)

end
/-! ### min(t, u), max(t, u) of two tuples of ints -/
/-- t < u by the model's own look from place to place -/
def lexP (lt : Int → Int → Bool) (e : Bool) (ns ms : List Int) : Bool := Ob.lexAt (fun j => decide (ns.getD j 0 = ms.getD j 0)) (fun j => lt (ns.getD j 0) (ms.getD j 0)) e 0 (min ns.length ms.length)
section
variable {X : Cx}
theorem tup_ops {s : Shared} {pins : List (Addr × Obj)} {σ : L2.St} {H : Hp} {a b : Addr} {ns ms : List Int} (I : L2.Inv X pins σ H s) (ha : H a = some (.tup (ns.map V.int))) (hb : H b = some (.tup (ms.map V.int))) (hu : X.A.units + 1 < cLine) (h' : Heap) (tk : Nat) (kp : KeepH s.heap h') :
    Ob.RcOp .Lt X.A.in1 { s with heap := h', toks := tk } (.ref a) (.ref b) (lexP (fun x y => decide (x < y)) (decide (ns.length < ms.length)) ns ms) ∧
    Ob.RcOp .Gt X.A.in1 { s with heap := h', toks := tk } (.ref a) (.ref b) (lexP (fun x y => decide (x > y)) (decide (ns.length > ms.length)) ns ms) := by
  obtain ⟨its, r1, p1, _⟩ := I.tuple (SqT.of ha)
  obtain ⟨its2, r2, p2, _⟩ := I.tuple (SqT.of hb)
  have i1 : IntsAre its ns := Vals.ints r1
  have i2 : IntsAre its2 ms := Vals.ints r2
  have e1 : its.toArray.size = ns.length := by rw [List.size_toArray]; exact i1.length
  have e2 : its2.toArray.size = ms.length := by rw [List.size_toArray]; exact i2.length
  obtain ⟨o1, g1, c1, n1, d1⟩ := p1
  obtain ⟨o2, g2, c2, n2, d2⟩ := p2
  have q1 : Heap.IsTuple h' a its.toArray := ⟨o1, kp _ _ g1, c1, n1, d1⟩
  have q2 : Heap.IsTuple h' b its2.toArray := ⟨o2, kp _ _ g2, c2, n2, d2⟩
  have at1 : ∀ j (h1 : j < its.toArray.size), ∃ t, its.toArray[j] = .int (ns.getD j 0) t := fun j h1 => PyProof.Rows.IntsAre.int_at i1 _ _ (by simp at h1; simp [h1])
  have at2 : ∀ j (h1 : j < its2.toArray.size), ∃ t, its2.toArray[j] = .int (ms.getD j 0) t := fun j h1 => PyProof.Rows.IntsAre.int_at i2 _ _ (by simp at h1; simp [h1])
  have eqs : ∀ (B : Around) (s2 : Shared) j (h1 : j < its.toArray.size) (h2 : j < its2.toArray.size), SeqAt.EqAt B s2 its.toArray[j] its2.toArray[j] (decide (ns.getD j 0 = ms.getD j 0)) := fun B s2 j h1 h2 => by
    obtain ⟨t, et⟩ := at1 j h1
    obtain ⟨t', et'⟩ := at2 j h2
    rw [et, et', ← Bool.beq_eq_decide_eq]
    exact SeqAt.EqAt.int_int _ _ _ _
  constructor
  · have R := Ob.RcOp.tuples_lt (A := X.A.in1) (s := { s with heap := h', toks := tk }) (e := fun j => decide (ns.getD j 0 = ms.getD j 0)) (r := fun j => decide (ns.getD j 0 < ms.getD j 0)) q1 q2 hu (eqs _ _) (fun j h1 h2 _ => by
      obtain ⟨t, et⟩ := at1 j h1
      obtain ⟨t', et'⟩ := at2 j h2
      rw [et, et']
      exact Ob.RcOp.lt_int _ _ _ _)
    rw [e1, e2] at R
    exact R
  · have R := Ob.RcOp.tuples_gt (A := X.A.in1) (s := { s with heap := h', toks := tk }) (e := fun j => decide (ns.getD j 0 = ms.getD j 0)) (r := fun j => decide (ns.getD j 0 > ms.getD j 0)) q1 q2 hu (eqs _ _) (fun j h1 h2 _ => by
      obtain ⟨t, et⟩ := at1 j h1
      obtain ⟨t', et'⟩ := at2 j h2
      rw [et, et']
      exact Ob.RcOp.gt_int _ _ _ _)
    rw [e1, e2] at R
    exact R
/-- min(t, u), max(t, u), both tracked tuples of ints: one of the two themselves -/
def rBest (lt : List Int → List Int → Bool) : List V → Hp → VK → Prop := fun xs H Q => ∃ (a b : Addr) (ns ms : List Int), xs = [.ref a, .ref b] ∧ H a = some (.tup (ns.map V.int)) ∧ H b = some (.tup (ms.map V.int)) ∧ Q (.ref (if lt ms ns = true then b else a)) H
theorem call_minT (hc : X.calm = true) (hu : X.A.units + 1 < cLine) : CallR X (.builtin "min") (rBest fun ns ms => lexP (fun x y => decide (x < y)) (decide (ns.length < ms.length)) ns ms) := by
  intro pins s σ H xs us Q I r h
  obtain ⟨a, b, ns, ms, rfl, ha, hb, q⟩ := h
  obtain ⟨u, w', rfl, r1, r2⟩ := vals2 r
  cases r1
  cases r2
  refine min2_by (I.ok.hd hc) (fun h' tk kp => (tup_ops I hb ha hu h' tk kp).1) fun h' tk kp => ⟨_, H, I.kept kp, ?_, q⟩
  split <;> rfl
theorem call_maxT (hc : X.calm = true) (hu : X.A.units + 1 < cLine) : CallR X (.builtin "max") (rBest fun ns ms => lexP (fun x y => decide (x > y)) (decide (ns.length > ms.length)) ns ms) := by
  intro pins s σ H xs us Q I r h
  obtain ⟨a, b, ns, ms, rfl, ha, hb, q⟩ := h
  obtain ⟨u, w', rfl, r1, r2⟩ := vals2 r
  cases r1
  cases r2
  refine max2_by (I.ok.hd hc) (fun h' tk kp => (tup_ops I hb ha hu h' tk kp).2) fun h' tk kp => ⟨_, H, I.kept kp, ?_, q⟩
  split <;> rfl
end
/-! ### f(k = v, ..), keywords alone -/
section
variable {X : Cx} {CX : CXT} {k : Nat} {f : Addr} {fd : FuncData} {ps ks : List Str} {sp : Sp} {x : Str} {p pos : Pos} {E : XK} {tk : TA} {kws : List Keyword} {g : List Value → List Value → List Value} {gV : List V → List V → List V}
theorem pe_callKw (F : FnOk X.prog X.w X.K X.mg X.base CX k f fd ps sp) (hr : Room k X.A) (hg : Gl X x) (hm : X.mg x = some (.ref f)) (hk : PySem.W.keepIn X.K (.ref f) = true) (hb : KBinds X.K fd ps ks g gV) (hx : Passes CX X E)
    (hkw : PK X kws tk) (hall : (backToKw pos (keywordEach kws X.env)).all (·.1.isSome) = true := by rfl) (hks : (backToKw pos (keywordEach kws X.env)).filterMap (·.1) = ks := by rfl)
    (hdb : (x == ("__debug__" : Str)) = false := by decide) (hpl : ((backTo pos (starEach [] X.env)).any (·.1) || (backToKw pos (keywordEach kws X.env)).any (·.1.isNone)) = false := by rfl) :
    PE X (.Call (.Name x p) [] kws pos) (fun σ H Q => tk σ H fun zs H2 => sp (gV [] zs) H2 Q E) := by
  refine ⟨fun pins s σ H Q I h => ?_⟩
  refine wpAny_Call_Name_kw (ld_glob I hg hm ?_ hdb)
  refine PySem.W.callWith_KW0 (h₀ := X.base) I.ok.mod.kin hk hall (thn (hkw.run pos pins s σ H _ I h) fun ws s2 ⟨zs, H2, I2, rz, q2⟩ => ⟨I2.kIn, ?_⟩) hpl
  rw [hks]
  exact run_fnk (us := []) (vs := []) F hr hb hx I2 .nil rz q2
end
/-! ### what a source is, and what a step leaves -/
/-- a source at s: three ints -/
def Src (H : Hp) (s : Addr) : Prop := ∃ a b c : Int, H s = some (.lst [.int a, .int b, .int c])
theorem Src.ne {H : Hp} {s p : Addr} {o : HO} (h : Src H s) (e : H p = some o) (d : ∀ a b c : Int, o ≠ .lst [.int a, .int b, .int c]) : p ≠ s := by
  obtain ⟨a, b, c, q⟩ := h
  exact ne_of e q (d a b c)
theorem Src.nen {H : Hp} {s p : Addr} (h : Src H s) (e : H p = none) : p ≠ s := by
  obtain ⟨a, b, c, q⟩ := h
  exact (ne_of_none q e).symm
/-- from H to H' all stands but the source at s, which is still one -/
structure Stp (s : Addr) (H H' : Hp) : Prop where
  keep : ∀ b o, b ≠ s → H b = some o → H' b = some o
  src : Src H' s
theorem Stp.refl {s : Addr} {H : Hp} (h : Src H s) : Stp s H H := ⟨fun _ _ _ e => e, h⟩
theorem Stp.trans {s : Addr} {H H1 H2 : Hp} (a : Stp s H H1) (b : Stp s H1 H2) : Stp s H H2 := ⟨fun c o n e => b.keep c o n (a.keep c o n e), b.src⟩
theorem Stp.new {s : Addr} {H H' : Hp} {p : Addr} {o : HO} (a : Stp s H H') (n : H' p = none) : Stp s H (upd H' p o) := by
  obtain ⟨x, y, z, e⟩ := a.src
  refine ⟨fun b u nb eb => ?_, x, y, z, ?_⟩
  · have q := a.keep b u nb eb
    rw [upd_ne (ne_of_none q n)]
    exact q
  · rw [upd_ne (ne_of_none e n)]
    exact e
theorem Stp.turn {s : Addr} {H H' : Hp} (a : Stp s H H') (x y z : Int) : Stp s H (upd H' s (.lst [.int x, .int y, .int z])) :=
  ⟨fun b u nb eb => by rw [upd_ne nb]; exact a.keep b u nb eb, x, y, z, upd_same⟩
theorem Stp.free {s p : Addr} {H H' : Hp} (a : Stp s H H') (n : H' p = none) : H p = none := by
  cases q : H p with
  | none => rfl
  | some o =>
    have np : p ≠ s := a.src.nen n
    rw [a.keep _ _ np q] at n
    cases n
theorem Stp.set {s : Addr} {H H' : Hp} {p : Addr} {o : HO} (a : Stp s H H') (n : H p = none) (np : p ≠ s) : Stp s H (upd H' p o) := by
  obtain ⟨x, y, z, e⟩ := a.src
  refine ⟨fun b u nb eb => ?_, x, y, z, ?_⟩
  · rw [upd_ne (ne_of_none eb n)]
    exact a.keep b u nb eb
  · rw [upd_ne np.symm]
    exact e
/-- a site at t -/
def Sit (H : Hp) (t : Addr) (x y : Int) : Prop := H t = some (.tup [.int x, .int y])
theorem Sit.ne {H : Hp} {s t : Addr} {x y : Int} (h : Sit H t x y) (q : Src H s) : t ≠ s := q.ne h fun _ _ _ z => by cases z
theorem Sit.stp {H H' : Hp} {s t : Addr} {x y : Int} (h : Sit H t x y) (q : Src H s) (a : Stp s H H') : Sit H' t x y := a.keep _ _ (h.ne q) h
theorem Sit.same {H H' : Hp} {t : Addr} {x y : Int} (h : Sit H t x y) (a : Same H H') : Sit H' t x y := a _ _ h

theorem b2i_small (b : Bool) : -(2 ^ 64) < (if b = true then (1 : Int) else 0) ∧ (if b = true then (1 : Int) else 0) < 2 ^ 64 := by cases b <;> decide
theorem sm {m : Int} (h : m.natAbs < 2 ^ 64) : m.natAbs < 2 ^ 8000 := Nat.lt_of_lt_of_le h (Nat.pow_le_pow_right (by decide) (by decide))
theorem Same.upd {H : Hp} {p : Addr} {o : HO} (h : H p = none) : Same H (upd H p o) := fun b x e => by
  rw [upd_ne (ne_of_none e h)]
  exact e
theorem Stp.same {s : Addr} {H H1 H2 : Hp} (a : Stp s H H1) (b : Same H1 H2) : Stp s H H2 := by
  obtain ⟨x, y, z, e⟩ := a.src
  exact ⟨fun c o n q => b _ _ (a.keep c o n q), x, y, z, b _ _ e⟩
/-! ### ** 2 and // of great numbers, of either sign -/
def CSq (i j : Int) : Prop := j = 2 ∧ i.natAbs < 2 ^ 1000
theorem op_sq {X : Cx} : OpR X (binaryOp .Pow) (rI CSq fun i _ => .int (i * i)) := opI fun i j _ _ _ _ _ hc q => by
  obtain ⟨rfl, hb⟩ := hc
  refine pow_int (by decide) ?_ (by rw [show i ^ (2 : Int).toNat = i * i from Int.pow_succ i 1 ▸ by rw [Int.pow_one]]; exact q)
  have b : Builtin.Int.intBits i ≤ i.natAbs.log2 + 1 := by
    unfold Builtin.Int.intBits
    split <;> omega
  have l := PySem.Flt.log2_lt_of (by decide : 0 < 1000) hb
  omega
def CDivE (_ j : Int) : Prop := j ≠ 0 ∧ j.natAbs < 2 ^ 8000
theorem op_fdivE {X : Cx} : OpR X (binaryOp .FloorDiv) (rI CDivE fun i j => .int (i.fdiv j)) := opI fun i j _ _ _ _ _ hc q =>
  floordiv_int hc.1 q (.inl (PyProof.noPylong_of_log2 (Nat.lt_of_lt_of_le (PySem.Flt.log2_lt_of (by decide) hc.2) (by decide))))
/-! ### readings made weaker -/
theorem peOf {X : Cx} {e : Expr} {t t' : TE} (h : PE X e t) (m : ∀ σ H Q, t' σ H Q → t σ H Q) : PE X e t' := ⟨fun pins s σ H Q I hw => h.run pins s σ H Q I (m σ H Q hw)⟩
theorem paOf {X : Cx} {es : List Expr} {t t' : TA} (h : PA X es t) (m : ∀ σ H Q, t' σ H Q → t σ H Q) : PA X es t' := ⟨fun pos pins s σ H Q I hw => h.run pos pins s σ H Q I (m σ H Q hw)⟩
theorem psOf {X : Cx} {st : Stmt} {t t' : TS} (h : PS X st t) (m : ∀ D σ H, t' D σ H → t D σ H) : PS X st t' := ⟨fun pins s σ H D I hw => h.run pins s σ H D I (m D σ H hw)⟩
theorem pssOf {X : Cx} {st : List Stmt} {t t' : TS} (h : PSs X st t) (m : ∀ D σ H, t' D σ H → t D σ H) : PSs X st t' := ⟨fun pins s σ H D I hw => h.run pins s σ H D I (m D σ H hw)⟩
/-- a written number with a minus -/
theorem pe_neg {X : Cx} {i : Int} {j : Nat} {p p2 : Pos} : PE X (.UnaryOp .USub (.Constant (.int i) j p) p2) (tC (.int (-i))) := peOf (pe_un un_neg pe_int) fun _ _ _ h => ⟨_, rfl, h⟩
/-! ### displays of sites -/
def Bd (b x y : Int) : Prop := -b ≤ x ∧ x ≤ b ∧ -b ≤ y ∧ y ≤ b
theorem Bd.mono {b c x y : Int} (h : Bd b x y) (l : b ≤ c) : Bd c x y := by
  obtain ⟨h1, h2, h3, h4⟩ := h
  exact ⟨by omega, by omega, by omega, by omega⟩
/-- every address of ps a site within b -/
def Sits (b : Int) (H : Hp) (ps : List Addr) : Prop := ∀ p ∈ ps, ∃ x y, Sit H p x y ∧ Bd b x y
theorem Sits.same {b : Int} {H H' : Hp} {ps : List Addr} (h : Sits b H ps) (a : Same H H') : Sits b H' ps := fun p m => by
  obtain ⟨x, y, e, d⟩ := h p m
  exact ⟨x, y, a _ _ e, d⟩
theorem Sits.stp {b : Int} {s : Addr} {H H' : Hp} {ps : List Addr} (h : Sits b H ps) (q : Src H s) (a : Stp s H H') : Sits b H' ps := fun p m => by
  obtain ⟨x, y, e, d⟩ := h p m
  exact ⟨x, y, e.stp q a, d⟩
theorem Sits.put {b : Int} {H : Hp} {ps : List Addr} {p : Addr} {o : HO} (h : Sits b H ps) (n : ∀ x y, H p ≠ some (.tup [.int x, .int y])) : Sits b (upd H p o) ps := fun r m => by
  obtain ⟨x, y, e, d⟩ := h r m
  refine ⟨x, y, ?_, d⟩
  show upd H p o r = _
  rw [upd_ne (fun z => n x y (by rw [← z]; exact e))]
  exact e
def tSit (b : Int) : TE := fun _ H Q => ∀ (p : Addr) H' (x y : Int), Same H H' → H p = none → Sit H' p x y → Bd b x y → Q (.ref p) H'
def tSits (b : Int) (n : Nat) : TA := fun _ H Q => ∀ (ps : List Addr) H', Same H H' → ps.length = n → Sits b H' ps → Q (ps.map V.ref) H'
theorem two_line : 2 ≤ sizeLine := by decide
theorem pe_sit {X : Cx} {e1 e2 : Expr} {k : Nat} {pos : Pos} {x y b : Int} (h : PA X [e1, e2] (tCons (tC (.int x)) (tCons (tC (.int y)) tNil))) (hb : Bd b x y) : PE X (.Tuple [e1, e2] k pos) (tSit b) :=
  peOf (pe_tup h) fun _ H Q q => ⟨two_line, fun p np => q p _ x y (Same.upd np) np upd_same hb⟩
theorem sits_nil {b : Int} : ∀ σ H Q, tSits b 0 σ H Q → tNil σ H Q := fun _ H Q q => q [] H (Same.refl _) rfl (fun _ m => nomatch m)
theorem sits_cons {b : Int} {n : Nat} : ∀ σ H Q, tSits b (n + 1) σ H Q → tCons (tSit b) (tSits b n) σ H Q := fun _ H Q q p H1 x y s1 _ e d ps H2 s2 l h => by
  refine q (p :: ps) H2 (s1.trans s2) (by rw [List.length_cons, l]) fun r m => ?_
  rcases List.mem_cons.mp m with rfl | m
  · exact ⟨x, y, s2 _ _ e, d⟩
  · exact h r m
theorem pa_sits0 {X : Cx} {b : Int} : PA X [] (tSits b 0) := paOf pa_nil sits_nil
theorem pa_sits {X : Cx} {e : Expr} {es : List Expr} {b : Int} {n : Nat} (h : PE X e (tSit b)) (hs : PA X es (tSits b n)) (st : starEach (e :: es) X.env = (false, eval e X.env) :: starEach es X.env := by rfl) : PA X (e :: es) (tSits b (n + 1)) := paOf (pa_cons h hs st) sits_cons
end Nc


/-! Own rules: math.gcd of three ints. -/
namespace Nc
open PySem PySem.Spec PyProof.Rows L2
section
open PySem.Calls
theorem gcd3_run (a : Int) (t : Tok) (b : Int) (u : Tok) (c : Int) (v : Tok) :
    Gives (Builtin.«math.gcd» ⟨[.int a t, .int b u, .int c v], []⟩) (.int (((((Nat.gcd 0 a.natAbs).gcd b.natAbs).gcd c.natAbs : Nat) : Int))) :=
  .of_wp fun M A E s Q h => by obtain ⟨hp, g, d, tk, os⟩ := s; wp_walk; exact ⟨_, rfl, h⟩
theorem gcd3_args (a b c : Value) : argsOk "math.gcd" ⟨[a, b, c], []⟩ := by unfold argsOk; kernel_rfl
end
section
variable {X : Cx}
def rGcd3 : List V → Hp → VK → Prop := fun vs H Q => ∃ a b c : Int, vs = [.int a, .int b, .int c] ∧ Q (.int ((Nat.gcd (Nat.gcd a.natAbs b.natAbs) c.natAbs : Nat) : Int)) H
theorem cr_gcd3 : CallR X (.builtin "math.gcd") rGcd3 := by
  intro pins s σ H vs us Q I r h
  obtain ⟨a, b, c, rfl, q⟩ := h
  cases r with
  | cons r1 r => cases r with
    | cons r2 r => cases r with
      | cons r3 r =>
        cases r
        obtain ⟨t1, rfl⟩ := r1
        obtain ⟨t2, rfl⟩ := r2
        obtain ⟨t3, rfl⟩ := r3
        have g := gcd3_run a t1 b t2 c t3
        rw [Nat.gcd_zero_left] at g
        exact call_function_meets PySem.W.MGF.kind_gcd PySem.W.MGF.plain_gcd PySem.W.MGF.entry_gcd (gcd3_args _ _ _) g.meets ⟨.int _, H, I.tok _, ⟨_, rfl⟩, q⟩
end
end Nc

/-! Own rules: small steps that answer what a term asks: used by the local macros of walk.txt. -/
namespace Nc
open PySem PySem.Spec PyProof.Rows L2
section
variable {K : PySem.W.Frag} {H : Hp} {Q : VK} {p q : Addr} {xs ys : List V} {i j : Int} {v x y : V}
theorem w_ixT (h : H p = some (.tup xs)) (e : atI xs i = some v) (z : Q v H) : rIxT K (.ref p) (.int i) H Q := ⟨_, _, _, _, rfl, rfl, SqT.of h, e, z⟩
theorem w_ixL (h : H p = some (.lst xs)) (e : atI xs i = some v) (z : Q v H) : rIxL K (.ref p) (.int i) H Q := ⟨_, _, _, _, rfl, rfl, SqL.of h, e, z⟩
theorem w_gtup {n : Nat} {t : TGs} {σ : L2.St} {Qs : L2.St → Hp → Prop} (h : H p = some (.tup xs)) (e : xs.length = n) (z : t xs σ H Qs) : gTup K n t (.ref p) σ H Qs := ⟨_, _, rfl, SqT.of h, e, z⟩
theorem w_itt {p A B : Prop} [Decidable p] (h : p) (a : A) : if decide p = true then A else B := by
  rw [decide_eq_true h, if_pos rfl]
  exact a
theorem w_itf {p A B : Prop} [Decidable p] (h : ¬ p) (b : B) : if decide p = true then A else B := by
  rw [decide_eq_false h, if_neg (by decide)]
  exact b
theorem w_ntt {p A B : Prop} [Decidable p] (h : p) (b : B) : if (!decide p) = true then A else B := by
  rw [decide_eq_true h, if_neg (by decide)]
  exact b
theorem w_ntf {p A B : Prop} [Decidable p] (h : ¬ p) (a : A) : if (!decide p) = true then A else B := by
  rw [decide_eq_false h, if_pos (by decide)]
  exact a
theorem w_ifd {p A B : Prop} [Decidable p] (h1 : p → A) (h2 : ¬ p → B) : if decide p = true then A else B := by
  by_cases h : p
  · exact w_itt h (h1 h)
  · exact w_itf h (h2 h)
theorem w_ifnd {p A B : Prop} [Decidable p] (h1 : p → B) (h2 : ¬ p → A) : if (!decide p) = true then A else B := by
  by_cases h : p
  · exact w_ntt h (h1 h)
  · exact w_ntf h (h2 h)
theorem w_if {c : Bool} {A B : Prop} (h1 : c = true → A) (h2 : c = false → B) : if c = true then A else B := by
  cases c
  · exact h2 rfl
  · exact h1 rfl
end
/-! bits -/
theorem nbm {a b : Int} {k : Nat} (ha : a.natAbs < 2 ^ (k / 2)) (hb : b.natAbs < 2 ^ (k / 2)) : (a * b).natAbs < 2 ^ k := by
  have h : a.natAbs * b.natAbs < 2 ^ (k / 2) * 2 ^ (k / 2) := Nat.mul_lt_mul'' ha hb
  rw [Int.natAbs_mul]
  rw [← Nat.pow_add] at h
  exact Nat.lt_of_lt_of_le h (Nat.pow_le_pow_right (by decide) (by omega))
theorem nba {a b : Int} {k : Nat} (h : 0 < k) (ha : a.natAbs < 2 ^ (k - 1)) (hb : b.natAbs < 2 ^ (k - 1)) : (a + b).natAbs < 2 ^ k := by
  obtain ⟨m, rfl⟩ : ∃ m, k = m + 1 := ⟨k - 1, by omega⟩
  rw [Nat.add_sub_cancel] at ha hb
  rw [Nat.pow_succ]
  omega
theorem nbs {a b : Int} {k : Nat} (h : 0 < k) (ha : a.natAbs < 2 ^ (k - 1)) (hb : b.natAbs < 2 ^ (k - 1)) : (a - b).natAbs < 2 ^ k := by
  obtain ⟨m, rfl⟩ : ∃ m, k = m + 1 := ⟨k - 1, by omega⟩
  rw [Nat.add_sub_cancel] at ha hb
  rw [Nat.pow_succ]
  omega
theorem nbn {a : Int} {k : Nat} (ha : a.natAbs < 2 ^ k) : (-a).natAbs < 2 ^ k := by rwa [Int.natAbs_neg]
theorem nbu {a : Int} {j k : Nat} (ha : a.natAbs < 2 ^ j) (h : j ≤ k) : a.natAbs < 2 ^ k := Nat.lt_of_lt_of_le ha (Nat.pow_le_pow_right (by decide) h)
theorem nbd {a b : Int} {k : Nat} (ha : a.natAbs < 2 ^ k) : (a.fdiv b).natAbs < 2 ^ (k + 1) := by
  rw [Nat.pow_succ]
  have h := ha
  rcases Int.lt_trichotomy b 0 with hb | hb | hb
  · have e : a.fdiv b = (-a).fdiv (-b) := (Int.neg_fdiv_neg a b).symm
    rw [e, Int.fdiv_eq_ediv_of_nonneg _ (by omega)]
    have := Int.natAbs_ediv_le_natAbs (-a) (-b)
    omega
  · subst hb
    rw [Int.fdiv_zero]
    omega
  · rw [Int.fdiv_eq_ediv_of_nonneg _ (by omega)]
    have := Int.natAbs_ediv_le_natAbs a b
    omega
theorem cmw {a b : Int} (ha : a.natAbs < 2 ^ 8000) (hb : b.natAbs < 2 ^ 8000) : CMulW a b := wide_mul ha hb (by decide) (by decide) (by decide)
end Nc

/-! Own rules: C() of an own class over ArithmeticError whose __init__ passes; a try whose first clause is named and meets. -/
namespace Nc
open PySem PySem.Spec PyProof.Rows L2
abbrev aeTail : List Value := [.type "ArithmeticError", .type "Exception", .type "BaseException", .type "object"]
/-- the class at C stands under ArithmeticError, its constructor is the def at fI -/
structure PassC (K : PySem.W.Frag) (C fI : Addr) : Prop where
  cls : ∃ nm q N bs bm hd sn sub ab col dd k0 k1 k2 k3 k5, K.lookup C = some (excClassObj nm q C N bs bm hd sn sub ab col dd k0 k1 k2 k3 k5 "ArithmeticError.__new__") ∧ ∀ Y : String, bm.contains (.type Y) = aeTail.contains (.type Y)
  initF : PySem.W.findIn K (.ref C) "__init__" = some (some (.ref fI))
  isDef : PySem.W.typeIn K (.ref fI) = some (.type "function")
  ofBase : PySem.W.subIn K (.ref C) (.type "BaseException") = some true
  ofType : PySem.W.typeIn K (.ref C) = some (.type "type")
  stays : PySem.W.keepIn K (.ref C) = true
def spPass : Sp := fun vs H Q _ => ∃ a : Addr, vs = [.ref a] ∧ Q .non H
section
variable {X : Cx}
theorem pmk_pass {CX : CXT} {x : Str} {C fI : Addr} {k : Nat} {fd : FuncData} {p pos : Pos} (T : PassC X.K C fI) (F1 : FnOk X.prog X.w X.K X.mg X.base CX k fI fd ["self"] spPass) (hr : Room (k + 1) X.A) (hb : Binds X.K fd ["self"] [])
    (hx : Passes CX X (fun _ _ _ => False)) (hg : Gl X x) (hm : X.mg x = some (.ref C)) (hdb : (x == ("__debug__" : Str)) = false := by decide) :
    PMk X (.Call (.Name x p) [] [] pos) (fun _ H Q => Q (.ref C) none H) := by
  intro pins s σ H Q I h
  obtain ⟨nm, q, N, bs, bm, hd, sn, sub, ab, col, dd, k0, k1, k2, k3, k5, hC, hbm⟩ := T.cls
  refine wpAny_Call_Name_kw (ld_glob I hg hm ?_ hdb)
  refine PySem.W.callWith_K0 I.kIn T.stays ?_
  show wpAny _ _ (call (.ref C) []) _ _ _
  have I1 := I
  obtain ⟨h0, g, dr, tk, os⟩ := s
  have below : h0.objs.size ≤ h0.objs.size + 1 := Nat.le_succ _
  have hn : H (h0.objs.size + 1) = none := I1.hok.fresh below
  have old : ∀ b o, h0.get? b = some o → ((h0.push (PySem.W.kdv_tup [])).push (PySem.HandSPX.excO C h0.objs.size)).get? b = some o := fun b o e => Heap.get?_push_of_some _ (Heap.get?_push_of_some _ e)
  have hget : ((h0.push (PySem.W.kdv_tup [])).push (PySem.HandSPX.excO C h0.objs.size)).get? (h0.objs.size + 1) = some (PySem.HandSPX.excO C h0.objs.size) := by heap_get
  have I2 : Inv X pins σ H ⟨(h0.push (PySem.W.kdv_tup [])).push (PySem.HandSPX.excO C h0.objs.size), g, dr, tk, os⟩ := I1.kept (t' := tk) old
  have b := hb ⟨(h0.push (PySem.W.kdv_tup [])).push (PySem.HandSPX.excO C h0.objs.size), g, dr, tk, os⟩ [Value.ref (h0.objs.size + 1)] I2.kIn rfl
  have hsp : spPass [V.ref (h0.objs.size + 1)] H (fun v H2 => v = .non ∧ H2 = H) (fun _ _ _ => False) := ⟨_, rfl, rfl, rfl⟩
  refine wpAny_call (PySem.HandSPX.call_own F.excBase_ArithmeticError hbm (I1.kIn _ _ hC) (PySem.W.looks_findIn I1.kIn T.initF) (fun self => PySem.W.bind_fn I1.kIn self T.isDef) (Nat.zero_le _)
    (codeAny_mono (F1.run _ X.stack _ _ ⟨[Value.ref (h0.objs.size + 1)], []⟩ [Value.ref (h0.objs.size + 1)] [V.ref (h0.objs.size + 1)] _ (fun _ _ _ => False) (hr.make C [] []) (I2.env0.make C [] []) b (.cons rfl .nil) hsp) fun r s' got => ?_))
  cases r with
  | error err => exact hx pins σ _ _ err s' I2 got
  | ok flow =>
    cases flow with
    | ret u =>
      obtain ⟨v, H2, osE, bare, und, ok2, rv, ev, eH2⟩ := got
      subst ev
      subst eH2
      obtain ⟨h2, g2, d2, t2, os'⟩ := s'
      refine ⟨rv, ?_⟩
      have hfr : h0.objs.size + 1 ∉ frs X.stack := fun z => by
        obtain ⟨_, o, ho, hnf⟩ := I2.stack.mem z
        rw [hget] at ho
        cases ho
        exact hnf _ rfl
      have atE : h2.get? (h0.objs.size + 1) = some (PySem.HandSPX.excO C h0.objs.size) := und.keep _ _ hget hn hfr (by simp)
      obtain ⟨G, gA, gB⟩ := restrict h2 fun b => decide (b ≠ h0.objs.size + 1)
      have same : ∀ b, b ≠ h0.objs.size + 1 → G.get? b = h2.get? b := fun b hb => gA b (decide_eq_true hb)
      have gone : G.get? (h0.objs.size + 1) = none := gB _ (by simp)
      have notE : ∀ {b : Addr} {o : Obj}, h0.get? b = some o → b ≠ h0.objs.size + 1 := fun {b o} z => Nat.ne_of_lt (Nat.lt_of_lt_of_le (Heap.lt_size z) below)
      have UG : Un (frs X.stack) [] H2 H2 h0 G := {
        keep := fun p u e n k1 k2 => by
          rw [same p (notE e)]
          exact und.keep p u (old p u e) n k1 k2
        slot := fun p u e n k1 k2 => by
          rw [same p (notE e)]
          exact und.slot p u (old p u e) n k1 k2
        free := fun b o z n hx => n
        there := fun p u e k2 => by
          rw [same p (notE e)]
          exact und.there p u (old p u e) k2
        tups := fun b xs z => z
        frzs := fun b o v z => z
        tbls := fun b ps z => ⟨#[], by rw [z]; simp⟩ }
      have okG : HOk X.prog X.w H2 G := fun b o z => by
        have nb : ∀ {c : Addr} {o : HO}, H2 c = some o → c ≠ h0.objs.size + 1 := fun {c o} hc e => by
          rw [e, hn] at hc
          cases hc
        refine (ok2 b o z).stay (fun c v hc y => ?_) (fun _ r => r) fun _ _ r => r
        have hca : c ≠ h0.objs.size + 1 := by
          rcases hc with hc | hc
          · rw [hc]
            exact nb z
          · exact nb hc
        rw [same c hca]
        exact y
      have os2' : os' = os := osE
      have J : Inv X pins σ H2 ⟨G, g2, d2, t2, os'⟩ := I1.call' (ch := []) os2' UG okG bare (fun b z => absurd z (by simp))
      refine ⟨_, _, _, ⟨G, g2, d2, t2, os'⟩, H2, .ref C, none, rfl, J, fun b o z => ?_, gone, atE, ⟨rfl, rfl⟩, rfl, rfl, hn, rfl, bare, raises_own T.ofBase T.ofType, h⟩
      by_cases isE : b = h0.objs.size + 1
      · rw [isE, gone] at z
        cases z
      · exact (same b isE).symm.trans z
    | next => exact False.elim got
    | brk => exact False.elim got
    | cont => exact False.elim got
end
/-! ### a try whose first clause bears a name and meets -/
/-- an object with fields is no frame -/
theorem off_frames {B h : Heap} {l : List Env} {a : Addr} {o : Obj} {vs : Array Value} (ff : h.FunFrames B l) (e : h.get? a = some o) (d : o.data = .fields vs) : a ∉ frs l := by
  intro m
  rcases ff.mem m with ⟨_, o2, g, n⟩
  have z : o = o2 := Option.some.inj (e.symm.trans g)
  exact n vs (z ▸ d)
section
variable {X : Cx} {pins : List (Addr × Obj)} {σ : L2.St} {H : Hp} {s : Shared} {a : Addr} {cls : Value} {d : Option Addr}
/-- landed, the exception is one that a suite may hold -/
theorem in_suite {B : Heap} (hf : X.env.frame = some X.env.locals) (J : Inv X pins σ H s) (fl : HandSPX.FlyingZ B (X.env :: X.outer) a (Zc cls d) s.heap) (na : H a = none) :
    ∃ oe : Obj, Zc cls d oe ∧ (∃ vs, oe.data = .fields vs) ∧ s.heap.get? a = some oe ∧ Inv (X.suite a ((a, oe) :: (X.pn ++ pins))) [] σ H s := by
  rcases fl.there with ⟨oe, vs, g, z, w⟩
  have off := off_frames fl.2.2.1 g w
  have e : frs (X.env :: X.outer) = X.env.locals :: frs X.outer := List.filterMap_cons_some hf
  rw [e] at off
  exact ⟨oe, z, ⟨vs, w⟩, g, J.suite g w na (fun q => off (q ▸ List.mem_cons_self)) fun q => off (List.mem_cons_of_mem _ q)⟩
/-- the class that the clause names is looked up -/
theorem clause_name {x : Str} {c : Value} {np : Pos} {Q E : Value → Shared → Prop} {o : Obj} {pn : List (Addr × Obj)} (S : Inv (X.suite a ((a, o) :: pn)) [] σ H s) (hc : Names X x c) (q : Q c s) : wpAny (model X.prog X.w) (X.A.mark (some (.ref a))) (eval (.Name x np) X.env) Q E s :=
  hc.2.2.elim (fun m => ld_glob (X := X.suite a ((a, o) :: pn)) S hc.1 m q hc.2.1) fun m => ld_blt (X := X.suite a ((a, o) :: pn)) S hc.1 m.1 m.2.1 q m.2.2 hc.2.1
/-- the ends of a suite whose name i goes -/
abbrev dropI (i : Nat) (D : Ends) : Ends := { nx := fun σ H => D.nx (σ.set i none) H, rt := D.rt, bk := fun σ H => D.bk (σ.set i none) H, ct := fun σ H => D.ct (σ.set i none) H }
theorem sp_gone {i : Nat} {n : Str} {pos : Pos} {D : Ends} {f : Flow} {o : Obj} (ok : X.Ok) (hN : X.N.Nodup) (hi : X.N[i]? = some n) (hl : X.env.kindOf n = some .local) (h : SP (X.suite a ((a, o) :: (X.pn ++ pins))) [] (dropI i D) f s) :
    wpAny (model X.prog X.w) X.A (do bindName X.env n .none; unbindBehindTheSuite X.env n pos) (fun _ s7 => SP X pins D f s7) X.xe s := by
  cases f with
  | ret u =>
    rcases h with ⟨v, σ1, H1, I1, r, q⟩
    exact gone_ok (I1.unsuite ok) hN hi hl fun s2 I2 => ⟨v, _, H1, I2, r, q⟩
  | _ =>
    rcases h with ⟨σ1, H1, I1, q⟩
    exact gone_ok (I1.unsuite ok) hN hi hl fun s2 I2 => ⟨_, H1, I2, q⟩
theorem sp_body {D : Ends} {f : Flow} {xe : Value → Shared → Prop} (ok : X.Ok) (h : SP (X.tr (X.pn ++ pins) xe) [] D f s) : SP X pins D f s := by
  cases f with
  | ret u => exact h.elim fun v h => h.elim fun σ1 h => h.elim fun H1 h => ⟨v, σ1, H1, h.1.ofTry ok, h.2⟩
  | _ => exact h.elim fun σ1 h => h.elim fun H1 h => ⟨σ1, H1, h.1.ofTry ok, h.2⟩
/-- the wish: the clause's class is met, and the suite does the rest -/
def wAs1 (K : PySem.W.Frag) (c : Value) (i : Nat) (ts : Addr → Value → Option Addr → TS) (D : Ends) : WX := fun cls d σ H => PySem.W.exmOne K cls c = some true ∧ ∀ a, H a = none → ts a cls d (dropI i D) (σ.set i (some (.ref a))) H
theorem ps_try_as1 {x n : Str} {c : Value} {i : Nat} {body suite : List Stmt} {b₀ : Stmt} {hds : List ExceptHandler} {np pos pos' : Pos} {tb : WX → TS} {ts : Addr → Value → Option Addr → TS} (hs : X.stack = X.env :: X.outer) (hf : X.env.frame = some X.env.locals) (hN : X.N.Nodup) (hi : X.N[i]? = some n)
    (hln : X.env.kindOf n = some .local) (hc : Names X x c) (hb : ∀ (W : WX) (pn : List (Addr × Obj)) (xe : Value → Shared → Prop), Takes (X.tr pn xe) W → PSs (X.tr pn xe) body (tb W))
    (hsu : ∀ (a : Addr) (oe : Obj) (cls : Value) (d : Option Addr) (pn : List (Addr × Obj)), Zc cls d oe → (∃ vs, oe.data = .fields vs) → PSs (X.suite a ((a, oe) :: pn)) (b₀ :: suite) (ts a cls d)) :
    PS X (.Try body (.ExceptHandler (some (.Name x np)) (some n) (b₀ :: suite) pos' :: hds) [] [] pos) (fun D σ H => tb (wAs1 X.K c i ts D) D σ H) := ⟨fun pins s σ H D I h => by
  have ok := I.ok
  have hfr : X.A.frames = some (X.env :: X.outer) := ok.frames.trans (congrArg some hs)
  let caught : Value → Shared → Prop := fun u s₁ => wpAny (model X.prog X.w) X.A (noteFrame u X.env) (fun _ s₂ => wpAny (model X.prog X.w) X.A (setFlight u none) (fun _ s₃ =>
    wpAny (model X.prog X.w) X.A (handleBy u X.env (.ExceptHandler (some (.Name x np)) (some n) (b₀ :: suite) pos' :: hds)) (SP X pins D) X.xe s₃) X.xe s₂) X.xe s₁
  refine wpAny_Try_except (wpAny_mono ((hb (wAs1 X.K c i ts D) (X.pn ++ pins) caught (fun u s' air => ?_)).run [] s σ H D (I.toTry caught) h) (fun f s1 e => ?_) fun _ _ e => e)
  · rcases air with ⟨a, B, s0, _, σ1, H1, cls, d, rfl, I1, nb, up, sky, na, os, ag, meets, wish⟩
    have J0 : Inv X pins σ1 H1 s0 := I1.ofTry ok
    refine Sky.land (env := X.env) (outer := X.outer) Zc.steady hfr hf (hs ▸ sky) fun h2 fl2 up2 => ?_
    rcases in_suite hf (J0.landed nb fl2.1 (up.trans up2) os ag : Inv X pins σ1 H1 { s' with heap := h2 }) fl2 na with ⟨o2, z2, _, g2, S2⟩
    have look := PySem.W.exm_one (M := model X.prog X.w) (h := h2) S2.kIn (fun _ _ _ _ k q => wpAny_typeOf_ref (k _ _ g2) (z2.1.symm ▸ q)) meets
    refine wpAny_handleBy_cons (codeAny_handlers_test (clause_name S2 hc (look.here (codeAny_handlers_suite_as ?_)))) fun q => nomatch q
    refine HandSPX.lands_againZ fl2 fun h3 fl3 up3 => ?_
    rcases in_suite hf (J0.landed nb fl3.1 ((up.trans up2).trans up3) os ag : Inv X pins σ1 H1 { s' with heap := h3 }) fl3 na with ⟨o3, z3, v3, _, S3⟩
    exact store_ok (X := X.suite a ((a, o3) :: (X.pn ++ pins))) (v := V.ref a) S3 hN hi (.inl hln) rfl (fun s4 S4 => wpAny_mono ((hsu a o3 cls d _ z3 v3).run [] s4 _ H1 _ S4 (wish a na)) (fun f s5 e => sp_gone ok hN hi hln e) fun _ _ z => z.elim) (.inr hln)
  · cases f with
    | next => exact wpAny_execs_nil (sp_body ok e)
    | _ => exact sp_body ok e⟩
end
end Nc

/-! Own rules: C(e) of an own class over ArithmeticError whose constructor keeps its argument in a field. -/
namespace Nc
open PySem PySem.Spec PyProof.Rows L2
/-- the class at C stands under ArithmeticError and has a dict -/
structure FieldC (K : PySem.W.Frag) (C : Addr) : Prop where
  over : PySem.W.excOver K C aeTail = true
  data : ∃ cd, PySem.W.clsIn K C = some cd ∧ cd.hasDict = true
  sets : PySem.W.findIn K (.ref C) "__setattr__" = some (some (.builtin "object.__setattr__"))
section
open Builtin Builtin.ObjectAttr PySem.W PySem.Calls PySem.HandSPX
variable {prog : Program} {w : World} {A : Around} {R : Result → Shared → Prop} {h0 : Heap} {g : Array GenState} {d : Drawn} {t : Nat} {os : OsState}
theorem lay_dict {K : PySem.W.Frag} {name : Str} {tk : Tok} {v : Value} {x C : Addr} {fv : Array Value} (T : FieldC K C) (X : K.In h0) (hx : h0.get? x = some ({ cls := .ref C, data := .fields fv } : Obj)) (ht : PySem.W.takerIn K C name = some none)
    (hq : ∀ h' tk' dx, (∀ b o, b ≠ x → h0.get? b = some o → h'.get? b = some o) → h0.objs.size ≤ dx → dx ≠ x → h'.get? x = some ({ cls := .ref C, dict := some dx, data := .fields fv } : Obj) →
      h'.Ns1 dx (fun y => if y = name then some v else none) → R (.ok (.ret .none)) ⟨h', g, d, tk', os⟩) :
    codeAny (model prog w) A (.call (.builtin "object.__setattr__") ⟨[.ref x, .str name tk, v], []⟩) R ⟨h0, g, d, t, os⟩ := by
  refine PySem.W.osa_openX PySem.F.store_ArithmeticError X (ox := { cls := .ref C, data := .fields fv }) (od := none) ⟨hx, rfl, rfl, trivial⟩ T.over ht fun b => ?_
  obtain ⟨cd, hcd, hh⟩ := T.data
  have look : PySem.W.Looks (model prog w) h0 (classData C) cd := PySem.W.looks_clsIn X hcd
  have xlt : x < h0.objs.size := Heap.lt_size hx
  show wpAny _ _ (storeInOwnDict (.ref x) (.ref C) (.str name tk) name v b) _ _ _
  obtain ⟨nm, bs, mro, ns, qn, hd, sn, sb, ab, col, del⟩ := cd
  cases hh
  unfold storeInOwnDict ownDictForStores
  repeat (first | with_reducible refine store_in_new ?_ ?_ | with_reducible refine wpAny_loadPart_at hx ?_ | with_reducible refine look.at ?_ | wp_step)
  · exact ⟨_, #[], _, (Heap.get?_update_ne _ _ _ _ (Nat.ne_of_gt xlt)).trans (Heap.get?_push_at rfl rfl), rfl, fun _ m => absurd m (by simp), fun _ => rfl⟩
  · intro h' tk' hn' sb
    refine hq h' tk' h0.objs.size (fun c u nc e => ?_) (Nat.le_refl _) (Nat.ne_of_gt xlt) ?_ hn'
    · exact (sb.2 c (Nat.ne_of_lt (Heap.lt_size e))).trans ((Heap.get?_update_ne _ _ _ _ nc).trans (Heap.get?_push_of_some _ e))
    · exact (sb.2 x (Nat.ne_of_lt xlt)).trans (Heap.get?_update_self _ (Heap.get?_push_of_some _ hx) rfl)
end
/-! ### the store, as the heap of the hand layer sees it -/
theorem Un.track {fs ex : List Addr} {H H1 : Hp} {h h1 : Heap} {d : Addr} {o : HO} (u : Un fs ex H H1 h h1) (hn : h.get? d = none) (hd : H d = none) : Un fs ex H (upd H1 d o) h h1 where
  keep := u.keep
  slot := u.slot
  there := u.there
  free := fun b ob e n x => by
    rw [upd_ne (fun z => by rw [z, hn] at e; cases e)]
    exact u.free b ob e n x
  tups := fun b xs e => by
    rw [upd_ne (ne_of_none e hd)]
    exact u.tups b xs e
  frzs := fun b ob v e => by
    rw [upd_ne (ne_of_none e hd)]
    exact u.frzs b ob v e
  tbls := fun b ps e => by
    rw [upd_ne (ne_of_none e hd)]
    exact u.tbls b ps e
section
variable {X : Cx} {pins : List (Addr × Obj)} {σ : L2.St} {H : Hp} {s : Shared} {a C : Addr} {f : Str} {y : V} {u : Value} {A : Around} {Q : Unit → Shared → Prop} {E : Value → Shared → Prop}
theorem first_field (T : FieldC X.K C) (ht : PySem.W.takerIn X.K C f = some none) (I : Inv X pins σ H s) (e : H a = some (exo a C none)) (ry : RelV y u)
    (h : ∀ dx s', H dx = none → dx ≠ a → Inv X pins σ (upd (upd H a (exo a C (some dx))) dx (exd dx [(f, y)])) s' → Q () s') : wpAny (model X.prog X.w) A (setAttr (.ref a) f u) Q E s := by
  rcases exo_at I.hok e with ⟨t1, ho⟩
  obtain ⟨h0, g, d, t, os⟩ := s
  refine PySem.W.set_plain I.kIn (od := none) ⟨ho, rfl, rfl, trivial⟩ T.sets (lay_dict T I.kIn ho ht fun h1 t2 dx old fresh ne ha hn => ?_)
  have nd : H dx = none := I.hok.fresh fresh
  have gd : h0.get? dx = none := by
    cases q : h0.get? dx with
    | none => rfl
    | some o => exact absurd (Heap.lt_size q) (Nat.not_lt.mpr fresh)
  have mu : Mut (H a) := by
    rw [e]
    exact True.intro
  exact h dx _ nd ne (I.un (t' := t2) (Un.track (Un.write (x := a) (e := a) (o := exo a C (some dx)) mu (.inl rfl) old ⟨_, ha⟩) gd nd)
    (HOk.laidN (I.hok.write mu (.inl rfl) old ⟨_, ha⟩ (exo_ok ha)) (fun _ _ z => z) (by rw [upd_ne ne]; exact nd) (exd_ok hn (relO_put (fs := []) ry fun _ => True.intro))))
end
/-- self.f = e, the only field of a new exception -/
def tField (K : PySem.W.Frag) (f : Str) (to te : TE) : TS := fun D σ H => te σ H fun y H1 => to σ H1 fun x H2 => ∃ a C : Addr, x = .ref a ∧ FieldC K C ∧ PySem.W.takerIn K C f = some none ∧ H2 a = some (exo a C none) ∧
  ∀ dx, H2 dx = none → dx ≠ a → D.nx σ (upd (upd H2 a (exo a C (some dx))) dx (exd dx [(f, y)]))
theorem ps_field {X : Cx} {o e : Expr} {to te : TE} {f : Str} {p' pos : Pos} (ho : PE X o to) (he : PE X e te) (hs : swapsWith e (some (.Attribute o f p')) pos.line X.env = pure false := by rfl) : PS X (.Assign [.Attribute o f p'] e pos) (tField X.K f to te) :=
  ⟨fun pins s σ H D I h => plainObj_wpAny_Assign_Attribute (thn (he.run pins s σ H _ I h) fun v s1 w1 => by
    rcases w1 with ⟨y, H1, I1, r1, w1⟩
    exact thn (ho.run pins s1 σ H1 _ I1 w1) fun u s2 w2 => by
      rcases w2 with ⟨x, H2, I2, r2, a, C, rfl, T, ht, ea, go⟩
      cases r2
      exact first_field T ht I2 ea r1 fun dx s3 n ne J => ⟨σ, _, J, go dx n ne⟩) hs⟩
/-- the promise of such a constructor: (self, y) -/
def spField (K : PySem.W.Frag) (f : Str) : Sp := fun vs H Q _ => ∃ (a C : Addr) (y : V), vs = [.ref a, y] ∧ FieldC K C ∧ PySem.W.takerIn K C f = some none ∧ H a = some (exo a C none) ∧ ∀ dx, H dx = none → dx ≠ a → Q .non (upd (upd H a (exo a C (some dx))) dx (exd dx [(f, y)]))
section
variable {X : Cx}
theorem pmk_field {CX : CXT} {x f ar : Str} {C fI : Addr} {k : Nat} {fd : FuncData} {e : Expr} {te : TE} {p pos : Pos} (T : PassC X.K C fI) (TF : FieldC X.K C) (ht : PySem.W.takerIn X.K C f = some none) (F1 : FnOk X.prog X.w X.K X.mg X.base CX k fI fd ["self", ar] (spField X.K f)) (hr : Room (k + 1) X.A)
    (hb : Binds X.K fd ["self", ar] []) (hx : Passes CX X (fun _ _ _ => False)) (hg : Gl X x) (hm : X.mg x = some (.ref C)) (he : PE X e te) (hdb : (x == ("__debug__" : Str)) = false := by decide)
    (hst : starEach [e] X.env = (false, eval e X.env) :: starEach [] X.env := by rfl) (hpl : (backTo pos (starEach [] X.env)).any (·.1) = false := by rfl) :
    PMk X (.Call (.Name x p) [e] [] pos) (fun σ H Q => te σ H fun y H1 => ∀ d, H1 d = none → Q (.ref C) (some d) (upd H1 d (.xd [(f, y)]))) := by
  intro pins s σ H Q I h
  rcases T.cls with ⟨nm, q, N, bs, bm, hd, sn, sub, ab, col, dd, k0, k1, k2, k3, k5, hC, hbm⟩
  let post : List V → Hp → Prop := fun vs H1 => match vs with
    | [y] => ∀ d, H1 d = none → Q (.ref C) (some d) (upd H1 d (.xd [(f, y)]))
    | _ => False
  refine wpAny_Call_Name_kw (ld_glob I hg hm (PySem.W.callWith_K (h₀ := X.base) I.ok.mod.kin T.stays (thn ((pa_cons he pa_nil hst).run pos pins s σ H post I h) fun us s1 w1 => ?_) hst hpl) hdb)
  rcases w1 with ⟨vs, H1, I1, rv, wish⟩
  refine ⟨I1.kIn, ?_⟩
  match vs, us, rv, wish with
  | [y], [u], .cons ry .nil, wish =>
    have wish : ∀ d, H1 d = none → Q (.ref C) (some d) (upd H1 d (.xd [(f, y)])) := wish
    show wpAny _ _ (call (.ref C) [u]) _ _ _
    obtain ⟨h0, g, dr, tk, os⟩ := s1
    have below : h0.objs.size ≤ h0.objs.size + 1 := Nat.le_succ _
    have na : H1 (h0.objs.size + 1) = none := I1.hok.fresh below
    have old : ∀ b o, h0.get? b = some o → ((h0.push (PySem.W.kdv_tup [u])).push (PySem.HandSPX.excO C h0.objs.size)).get? b = some o := fun b o e => Heap.get?_push_of_some _ (Heap.get?_push_of_some _ e)
    have atE : ((h0.push (PySem.W.kdv_tup [u])).push (PySem.HandSPX.excO C h0.objs.size)).get? (h0.objs.size + 1) = some (PySem.HandSPX.excO C h0.objs.size) := by heap_get
    have I2 := I1.laid (t' := tk) (a := h0.objs.size + 1) (o := exo (h0.objs.size + 1) C none) old below (exo_ok atE)
    have hsp : spField X.K f [V.ref (h0.objs.size + 1), y] (upd H1 (h0.objs.size + 1) (exo (h0.objs.size + 1) C none))
        (fun v H2 => v = .non ∧ ∃ d, H1 d = none ∧ d ≠ h0.objs.size + 1 ∧ H2 = upd (upd (upd H1 (h0.objs.size + 1) (exo (h0.objs.size + 1) C none)) (h0.objs.size + 1) (exo (h0.objs.size + 1) C (some d))) d (exd d [(f, y)])) (fun _ _ _ => False) :=
      ⟨_, C, y, rfl, TF, ht, upd_same, fun d n ne => ⟨rfl, d, by rw [upd_ne ne] at n; exact n, ne, rfl⟩⟩
    have b := hb _ [Value.ref (h0.objs.size + 1), u] I2.kIn rfl
    refine wpAny_call (PySem.HandSPX.call_own F.excBase_ArithmeticError hbm (I1.kIn _ _ hC) (PySem.W.looks_findIn I1.kIn T.initF) (fun self => PySem.W.bind_fn I1.kIn self T.isDef) (by show 1 ≤ sizeLine; decide)
      (codeAny_mono (F1.run _ X.stack _ _ ⟨[Value.ref (h0.objs.size + 1), u], []⟩ [Value.ref (h0.objs.size + 1), u] [V.ref (h0.objs.size + 1), y] _ (fun _ _ _ => False) (hr.make C [u] []) (I2.env0.make C [u] []) b (.cons rfl (.cons ry .nil)) hsp) fun r s2 got => ?_))
    match r, got with
    | .error err, got => exact hx pins σ _ _ err s2 I2 got
    | .ok (.ret v0), got =>
      rcases got with ⟨v, H2, osE, bare, und, ok2, rv2, rfl, d, nd, ne, rfl⟩
      obtain ⟨h2, g2, d2, t2, os2⟩ := s2
      have ea : (upd (upd (upd H1 (h0.objs.size + 1) (exo (h0.objs.size + 1) C none)) (h0.objs.size + 1) (exo (h0.objs.size + 1) C (some d))) d (exd d [(f, y)])) (h0.objs.size + 1) = some (exo (h0.objs.size + 1) C (some d)) := by
        rw [upd_ne (Ne.symm ne), upd_same]
      have fin := mk_end (Q := Q) (t2 := t2) (d2 := d2) (raises_own T.ofBase T.ofType) I1 below old und ok2 osE bare ea upd_same nd (by
        have z : upd (del (upd (upd (upd H1 (h0.objs.size + 1) (exo (h0.objs.size + 1) C none)) (h0.objs.size + 1) (exo (h0.objs.size + 1) C (some d))) d (exd d [(f, y)])) (h0.objs.size + 1)) d (.xd [(f, y)]) = upd H1 d (.xd [(f, y)]) := by
          funext b
          by_cases h1 : b = d
          · rw [h1, upd_same, upd_same]
          · rw [upd_ne h1, upd_ne h1]
            by_cases h2 : b = h0.objs.size + 1
            · rw [h2, del_same, na]
            · rw [del_ne h2, upd_ne h1, upd_ne h2, upd_ne h2]
        rw [z]
        exact wish d nd)
      exact ⟨rv2, fin⟩
    | .ok .next, got => exact False.elim got
    | .ok .brk, got => exact False.elim got
    | .ok .cont, got => exact False.elim got
end
end Nc

/-! Own rules: a try with clauses of both kinds, named and unnamed, the first that meets takes the error. -/
namespace Nc
open PySem PySem.Spec PyProof.Rows L2
abbrev Clause := Value × Option Nat × (Addr → Value → Option Addr → TS)
/-- the clauses, with their classes, the slots of their names, what their suites do -/
inductive Clauses (X : Cx) : List ExceptHandler → List Clause → Prop
  | nil : Clauses X [] []
  | plain {x : Str} {c : Value} {ts : Addr → Value → Option Addr → TS} {b₀ : Stmt} {suite : List Stmt} {np pos : Pos} {hds : List ExceptHandler} {l : List Clause} (hc : Names X x c)
      (hsu : ∀ (a : Addr) (oe : Obj) (cls : Value) (d : Option Addr) (pn : List (Addr × Obj)), Zc cls d oe → (∃ vs, oe.data = .fields vs) → PSs (X.suite a ((a, oe) :: pn)) (b₀ :: suite) (ts a cls d)) (r : Clauses X hds l) :
      Clauses X (.ExceptHandler (some (.Name x np)) none (b₀ :: suite) pos :: hds) ((c, none, ts) :: l)
  | named {x n : Str} {c : Value} {i : Nat} {ts : Addr → Value → Option Addr → TS} {b₀ : Stmt} {suite : List Stmt} {np pos : Pos} {hds : List ExceptHandler} {l : List Clause} (hc : Names X x c) (hi : X.N[i]? = some n) (hl : X.env.kindOf n = some .local)
      (hsu : ∀ (a : Addr) (oe : Obj) (cls : Value) (d : Option Addr) (pn : List (Addr × Obj)), Zc cls d oe → (∃ vs, oe.data = .fields vs) → PSs (X.suite a ((a, oe) :: pn)) (b₀ :: suite) (ts a cls d)) (r : Clauses X hds l) :
      Clauses X (.ExceptHandler (some (.Name x np)) (some n) (b₀ :: suite) pos :: hds) ((c, some i, ts) :: l)
/-- the wish: one of them meets -/
def wMeets (K : PySem.W.Frag) (D : Ends) : List Clause → WX
  | [] => fun _ _ _ _ => False
  | (c, none, ts) :: r => fun cls d σ H => ∃ b, PySem.W.exmOne K cls c = some b ∧ (b = true → ∀ a, H a = none → ts a cls d D σ H) ∧ (b = false → wMeets K D r cls d σ H)
  | (c, some i, ts) :: r => fun cls d σ H => ∃ b, PySem.W.exmOne K cls c = some b ∧ (b = true → ∀ a, H a = none → ts a cls d (dropI i D) (σ.set i (some (.ref a))) H) ∧ (b = false → wMeets K D r cls d σ H)
section
variable {X : Cx} {pins : List (Addr × Obj)} {D : Ends}
theorem sp_plain {σ : L2.St} {H : Hp} {s : Shared} {a : Addr} {o : Obj} {f : Flow} (ok : X.Ok) (h : SP (X.suite a ((a, o) :: (X.pn ++ pins))) [] D f s) : SP X pins D f s := by
  cases f with
  | ret u => exact h.elim fun v h => h.elim fun σ1 h => h.elim fun H1 h => ⟨v, σ1, H1, h.1.unsuite ok, h.2⟩
  | _ => exact h.elim fun σ1 h => h.elim fun H1 h => ⟨σ1, H1, h.1.unsuite ok, h.2⟩
theorem handle_meets {σ : L2.St} {H : Hp} {s0 s1 : Shared} {B h2 : Heap} {a : Addr} {cls : Value} {d : Option Addr} (ok : X.Ok) (hf : X.env.frame = some X.env.locals) (hN : X.N.Nodup) (J0 : Inv X pins σ H s0) (nb : ∀ b o, s0.heap.get? b = some o → b ∉ frs X.stack → B.get? b = some o)
    (up : s0.heap.UpToSlots h2) (os : s1.os = s0.os) (ag : AllBare s1.gens) (na : H a = none) (fl : HandSPX.FlyingZ B (X.env :: X.outer) a (Zc cls d) h2) {hds : List ExceptHandler} {l : List Clause} (hk : Clauses X hds l) (w : wMeets X.K D l cls d σ H) :
    wpAny (model X.prog X.w) X.A (handleBy (.ref a) X.env hds) (SP X pins D) X.xe { s1 with heap := h2 } := by
  rcases in_suite hf (J0.landed nb fl.1 up os ag : Inv X pins σ H { s1 with heap := h2 }) fl na with ⟨o2, z2, _, g2, S2⟩
  have look := fun {c b} => PySem.W.exm_one (M := model X.prog X.w) (h := h2) (K := X.K) (cls := cls) (c := c) (b := b) S2.kIn (fun _ _ _ _ k q => wpAny_typeOf_ref (k _ _ g2) (z2.1.symm ▸ q))
  have held : ∀ h3, HandSPX.FlyingZ B (X.env :: X.outer) a (Zc cls d) h3 → h2.UpToSlots h3 → ∃ oe : Obj, Zc cls d oe ∧ (∃ vs, oe.data = .fields vs) ∧ h3.get? a = some oe ∧ Inv (X.suite a ((a, oe) :: (X.pn ++ pins))) [] σ H { s1 with heap := h3 } :=
    fun h3 fl3 up3 => in_suite hf (J0.landed nb fl3.1 (up.trans up3) os ag : Inv X pins σ H { s1 with heap := h3 }) fl3 na
  induction hk with
  | nil => exact w.elim
  | plain hc hsu r ih =>
    rcases w with ⟨b, e, yes, no⟩
    refine wpAny_handleBy_cons (codeAny_handlers_test (clause_name S2 hc ((look e).here ?_))) fun q => nomatch q
    match b with
    | true =>
      refine codeAny_handlers_suite (HandSPX.lands_againZ fl fun h3 fl3 up3 => ?_)
      rcases held h3 fl3 up3 with ⟨o3, z3, v3, _, S3⟩
      exact wpAny_mono ((hsu a o3 cls d _ z3 v3).run [] _ _ H _ S3 (yes rfl a na)) (fun f s5 e => sp_plain (σ := σ) (H := H) ok e) fun _ _ z => z.elim
    | false => exact ih (no rfl)
  | named hc hi hl hsu r ih =>
    rcases w with ⟨b, e, yes, no⟩
    refine wpAny_handleBy_cons (codeAny_handlers_test (clause_name S2 hc ((look e).here ?_))) fun q => nomatch q
    match b with
    | true =>
      refine codeAny_handlers_suite_as (HandSPX.lands_againZ fl fun h3 fl3 up3 => ?_)
      rcases held h3 fl3 up3 with ⟨o3, z3, v3, _, S3⟩
      exact store_ok (X := X.suite a ((a, o3) :: (X.pn ++ pins))) (v := V.ref a) S3 hN hi (.inl hl) rfl (fun s4 S4 => wpAny_mono ((hsu a o3 cls d _ z3 v3).run [] s4 _ H _ S4 (yes rfl a na)) (fun f s5 e => sp_gone ok hN hi hl e) fun _ _ z => z.elim) (.inr hl)
    | false => exact ih (no rfl)
theorem ps_try_meets {body : List Stmt} {h₀ : ExceptHandler} {hds : List ExceptHandler} {l : List Clause} {pos : Pos} {tb : WX → TS} (hs : X.stack = X.env :: X.outer) (hf : X.env.frame = some X.env.locals) (hN : X.N.Nodup)
    (hb : ∀ (W : WX) (pn : List (Addr × Obj)) (xe : Value → Shared → Prop), Takes (X.tr pn xe) W → PSs (X.tr pn xe) body (tb W)) (hk : Clauses X (h₀ :: hds) l) : PS X (.Try body (h₀ :: hds) [] [] pos) (fun D σ H => tb (wMeets X.K D l) D σ H) := ⟨fun pins s σ H D I h => by
  have ok := I.ok
  have hfr : X.A.frames = some (X.env :: X.outer) := ok.frames.trans (congrArg some hs)
  let caught : Value → Shared → Prop := fun u s₁ => wpAny (model X.prog X.w) X.A (noteFrame u X.env) (fun _ s₂ => wpAny (model X.prog X.w) X.A (setFlight u none) (fun _ s₃ =>
    wpAny (model X.prog X.w) X.A (handleBy u X.env (h₀ :: hds)) (SP X pins D) X.xe s₃) X.xe s₂) X.xe s₁
  refine wpAny_Try_except (wpAny_mono ((hb (wMeets X.K D l) (X.pn ++ pins) caught (fun u s' air => ?_)).run [] s σ H D (I.toTry caught) h) (fun f s1 e => ?_) fun _ _ e => e)
  · rcases air with ⟨a, B, s0, _, σ1, H1, cls, d, rfl, I1, nb, up, sky, na, os, ag, wish⟩
    exact Sky.land (env := X.env) (outer := X.outer) Zc.steady hfr hf (hs ▸ sky) fun h2 fl2 up2 => handle_meets ok hf hN (I1.ofTry ok) nb (up.trans up2) os ag na fl2 hk wish
  · cases f with
    | next => exact wpAny_execs_nil (sp_body ok e)
    | _ => exact sp_body ok e⟩
end
end Nc

/-! Own rules: a lambda that is made and kept (a tracked object), to be called later. -/
namespace Nc
open PySem PySem.Spec PyProof.Rows L2 LamX
/-- at f: the object o, for good -/
def LamO (f : Addr) (o : Obj) : HO := .ext fun h => h.get? f = some o
theorem lamO_ok {P : Program} {w : World} {H : Hp} {h : Heap} {f : Addr} {o : Obj} (e : h.get? f = some o) : ObjOk P w H h f (LamO f o) := ⟨e, ⟨o, e⟩, fun h1 h2 z k => k _ z⟩
theorem lamO_at {P : Program} {w : World} {H : Hp} {h : Heap} {f : Addr} {o : Obj} (hok : HOk P w H h) (e : H f = some (LamO f o)) : h.get? f = some o := by
  have x : ObjOk P w H h f (.ext fun h => h.get? f = some o) := hok f _ e
  exact x.1
theorem lamO_tbl {f : Addr} {o : Obj} (ps : Array Value) : LamO f o ≠ .tbl ps := fun z => by
  unfold LamO at z
  cases z
section
variable {X : Cx} {pins : List (Addr × Obj)} {σ : L2.St} {H : Hp} {s : Shared}
/-- the lambda's object, of the maker X -/
abbrev lamObj (X : Cx) (params : Arguments) (body : Expr) (scope : Scope) (pm ctv : Value) (c' : Addr) : Obj := PySem.W.kla_obj "<lambda>" (X.env.qual ++ "<lambda>") params body scope (cloFrom X.env.cells scope.names []) pm c' ctv
theorem lam_keep {T : List (Addr × Str)} {c P : Addr} {params : Arguments} {body : Expr} {scope : Scope} {pos : Pos} {E : Value → Shared → Prop} {Q : Value → Shared → Prop} (I : Inv X pins σ H s) (TB : TabB X.base X.mg c P) (hcode : X.env.code = .ref c)
    (hm : (P, X.env.qual ++ "<lambda>") ∈ T) (hu : ∀ p ∈ T, p.1 = P → p.2 = X.env.qual ++ "<lambda>") (hT : Tabs T H) (hdef : defaultsOf params X.env = ([], [])) (hfree : ∀ y ∈ scope.names, y.2 = .free → ∃ c, X.env.cells.lookup y.1 = some c)
    (h : ∀ (f c' : Addr) (pm ctv : Value) (H1 : Hp) (s' : Shared), Inv X pins σ H1 s' → ExtN H H1 → Tabs T H1 → H f = none → H1 f = some (LamO f (lamObj X params body scope pm ctv c')) → H1 c' = some (CodeO c' (X.env.qual ++ "<lambda>")) → Q (.ref f) s') :
    wpAny (model X.prog X.w) X.A (eval (.Lambda params body scope pos) X.env) Q E s := by
  refine PySem.W.kla_eval hdef ?_
  rcases hT _ hm with ⟨ps, atP, tri, among⟩
  have tabP : s.heap.get? P = some { cls := .none, data := .fields ps } := I.hok P _ atP
  have blt : s.heap.BuiltinsAt X.mg P := TB.bm.keeps I.bk
  -- the new object is tracked behind whatever stands
  have last : ∀ (H2 : Hp) (h2 : Heap) (t2 : Nat) (pm ctv : Value) (c' : Addr), Inv X pins σ H2 { s with heap := h2, toks := t2 } → ExtN H H2 → Tabs T H2 → s.heap.objs.size ≤ h2.objs.size → H2 c' = some (CodeO c' (X.env.qual ++ "<lambda>")) →
      Q (.ref h2.objs.size) { s with heap := h2.push (lamObj X params body scope pm ctv c'), toks := t2 } := fun H2 h2 t2 pm ctv c' I2 e2 T2 le co => by
    have n2 : H2 h2.objs.size = none := I2.hok.fresh (Nat.le_refl _)
    have grow : ∀ b o, H2 b = some o → upd H2 h2.objs.size (LamO h2.objs.size (lamObj X params body scope pm ctv c')) b = some o := fun b o z => by
      rw [upd_ne (ne_of_none z n2)]
      exact z
    have I3 := I2.laid (t' := t2) (a := h2.objs.size) (o := LamO h2.objs.size (lamObj X params body scope pm ctv c')) (h' := h2.push (lamObj X params body scope pm ctv c')) (fun b o z => Heap.get?_push_of_some _ z) (Nat.le_refl _) (lamO_ok (Heap.get?_push_size _ rfl))
    exact h h2.objs.size c' pm ctv _ _ I3 (e2.trans (ExtN.of grow)) (T2.ext grow) (I.hok.fresh le) upd_same (grow _ _ co)
  cases hc : codeAmong pos ps.toList with
  | some cv =>
    rcases among pos cv hc with ⟨c', rfl, co⟩
    exact PySem.W.kla_makeFunctionHit (mg := X.mg) (c := c) (P := P) (ps := ps) (closure_ok hfree) I.ok.glob (I.mod.glob.keeps I.bk) hcode (TB.code.keeps I.bk) tabP tri hc blt fun ctv h2 t2 old le =>
      last H h2 t2 _ ctv c' (I.kept old) (ExtN.refl H) hT le co
  | none =>
    refine PySem.W.kla_makeFunction (mg := X.mg) (c := c) (P := P) (ps := ps) (closure_ok hfree) I.ok.glob (I.mod.glob.keeps I.bk) hcode (TB.code.keeps I.bk) tabP tri hc TB.gP blt fun c' ctv h2 t2 old ge lt rec tab => ?_
    have I2 : Inv X pins σ (upd (upd H P (.tbl (ps ++ #[rawInt pos.line, rawInt pos.col, .ref c']))) c' (CodeO c' (X.env.qual ++ "<lambda>"))) { s with heap := h2, toks := t2 } :=
      inv_table (more := #[rawInt pos.line, rawInt pos.col, .ref c']) I atP old tab ge (let ⟨_, oc, vs, t, e, g, d, v⟩ := rec; ⟨oc, vs, t, by cases e; exact g, d, v⟩)
    have nc : H c' = none := I.hok.fresh ge
    have nPc : P ≠ c' := ne_of_none atP nc
    have ext : ExtN H (upd (upd H P (.tbl (ps ++ #[rawInt pos.line, rawInt pos.col, .ref c']))) c' (CodeO c' (X.env.qual ++ "<lambda>"))) := fun b o e n => by
      have nb : b ≠ P := fun z => by
        rw [z, atP] at e
        exact n ps (Option.some.inj e).symm
      rw [upd_ne (ne_of_none e nc), upd_ne nb]
      exact e
    refine last _ h2 t2 _ ctv c' I2 ext (fun p hp => ?_) (Nat.le_trans ge (Nat.le_of_lt lt)) upd_same
    by_cases same : p.1 = P
    · have lst : (ps ++ #[rawInt pos.line, rawInt pos.col, Value.ref c']).toList = ps.toList ++ [rawInt pos.line, rawInt pos.col, .ref c'] := by simp
      rw [hu p hp same, same]
      refine ⟨_, by rw [upd_ne nPc, upd_same], by rw [lst]; exact PySem.TriplesOk_snoc _ _ _ _ tri, fun p2 cv found => ?_⟩
      rw [lst] at found
      rcases among_app _ tri found with z | z
      · rcases among p2 cv z with ⟨c0, e1, e2⟩
        exact ⟨c0, e1, ext _ _ e2 codeO_ne⟩
      · exact ⟨c', z, upd_same⟩
    · rcases hT p hp with ⟨qs, a1, a2, a3⟩
      refine ⟨qs, by rw [upd_ne (ne_of_none a1 nc), upd_ne same]; exact a1, a2, fun p2 cv found => ?_⟩
      rcases a3 p2 cv found with ⟨c0, e1, e2⟩
      exact ⟨c0, e1, ext _ _ e2 codeO_ne⟩
/-- a lambda as a value -/
def tLamV (X : Cx) (T : List (Addr × Str)) (params : Arguments) (body : Expr) (scope : Scope) : TE := fun _ H Q => Tabs T H ∧ ∀ (f c' : Addr) (pm ctv : Value) (H1 : Hp), ExtN H H1 → Tabs T H1 → H f = none →
  H1 f = some (LamO f (lamObj X params body scope pm ctv c')) → H1 c' = some (CodeO c' (X.env.qual ++ "<lambda>")) → Q (.ref f) H1
theorem pe_lamV {T : List (Addr × Str)} {c P : Addr} {params : Arguments} {body : Expr} {scope : Scope} {pos : Pos} (TB : TabB X.base X.mg c P) (hcode : X.env.code = .ref c) (hm : (P, X.env.qual ++ "<lambda>") ∈ T) (hu : ∀ p ∈ T, p.1 = P → p.2 = X.env.qual ++ "<lambda>")
    (L : LamS X.env.scope scope) (hdef : defaultsOf params X.env = ([], [])) : PE X (.Lambda params body scope pos) (tLamV X T params body scope) :=
  ⟨fun pins s σ H Q I h => lam_keep I TB hcode hm hu h.1 hdef (L.has I.ok) fun f c' pm ctv H1 s' I1 e1 T1 nf lf co => ⟨.ref f, H1, I1, rfl, h.2 f c' pm ctv H1 e1 T1 nf lf co⟩⟩
/-- x(), deep in the frames behind the maker X, which stands at s and H with the slots σ; Z: the frame that calls -/
theorem pe_kept {A0 : Around} {outer0 : List Env} {s0 : Shared} {H0 : Hp} {CXg : CXT} {Eg : XK} {Ng : List Str} {qg : Str} {sg : Scope} {g f c' : Addr} {cdg pm ctv : Value} {params : Arguments} {body : Expr} {scope : Scope} {k i : Nat} {a : Str} {pn : List (Addr × Obj)} {xe : Value → Shared → Prop} {W : WX} {E : XK} {tb : TE} {p1 p2 : Pos}
    (I : Inv X pins σ H s) (L : LamS X.env.scope scope) (hun : ∀ {pinsZ σZ HZ s1}, Inv ((cxOf CXg X.prog X.w X.K X.mg X.base Ng qg sg g cdg A0 outer0 s0 H0 Eg).tr pn xe) pinsZ σZ HZ s1 → Un (frs X.stack) [] H HZ s.heap s1.heap)
    (hbind : bindArgs (PySem.W.kla_fn "<lambda>" (X.env.qual ++ "<lambda>") params body scope (cloFrom X.env.cells scope.names []) pm (.ref c') ctv) ⟨[], []⟩ = pure [])
    (tk : Takes ((cxOf CXg X.prog X.w X.K X.mg X.base Ng qg sg g cdg A0 outer0 s0 H0 Eg).tr pn xe) W) (hW : ∀ cls d σ' H', E cls d H' → W cls d σ' H') (hr : Room (k + 1) (A0.deeper (envOfC qg sg s0.heap.objs.size g cdg)))
    (hbody : ∀ (A : Around) (outer : List Env) (s : Shared) (H : Hp), Room k (A.deeper (lamEnv X scope s.heap.objs.size f c')) → PE (lamCx X A outer s H E scope f c') body tb)
    (hN : Ng[i]? = some a) (hv : Vis sg a) (hd : (a == ("__debug__" : Str)) = false := by decide) (hcd : (a == ("__classdict__" : Str)) = false := by decide) :
    PE ((cxOf CXg X.prog X.w X.K X.mg X.base Ng qg sg g cdg A0 outer0 s0 H0 Eg).tr pn xe) (.Call (.Name a p1) [] [] p2)
      (fun σZ HZ Q => σZ[i]? = some (some (.ref f)) ∧ HZ f = some (LamO f (lamObj X params body scope pm ctv c')) ∧ HZ c' = some (CodeO c' (X.env.qual ++ "<lambda>")) ∧ tb σ HZ Q) :=
  ⟨fun pinsZ sZ σZ HZ Q IZ w => wpAny_Call_Name_kw (thn ((pe_var (pos := p1) (i := i) hN hv hd hcd).run pinsZ sZ σZ HZ (fun v H1 => v = .ref f ∧ H1 = HZ) IZ ⟨.ref f, w.1, rfl, rfl⟩) fun u s1 w1 => by
    rcases w1 with ⟨v, H1, I1, r1, rfl, rfl⟩
    cases r1
    have obj := lamO_at I1.hok w.2.1
    have un := hun I1
    rcases (I1.hok c' _ w.2.2.1).1 with ⟨oc, vs, t, coAt, coD, coN⟩
    have rc : codeAny (model X.prog X.w) (A0.deeper (envOfC qg sg s0.heap.objs.size g cdg)) (.call (.ref f) ⟨[], []⟩) (CR (L2.CX X.prog X.w) (envOfC qg sg s0.heap.objs.size g cdg :: outer0) X.prog X.w H1 s1 Q E) s1 := by
      refine PySem.W.kla_callFunE hr.depth obj rfl L.co L.gen rfl ⟨c', oc, vs, t, rfl, coAt, coD, coN⟩ ?_
      rw [hbind]
      refine wpAny_pure (wpAny_newFunctionEnv (fun y m => (L.own y m).2) (fun y m => absurd m (by simp)) (fun h2 fresh but => ⟨I1.nolimit.fresh _ but, ?_⟩) L.kind)
      have old : ∀ b o, s1.heap.get? b = some o → h2.get? b = some o := fun b o e => but.extBut b o (Nat.ne_of_lt (Heap.lt_size e)) (Heap.get?_push_of_some _ e)
      have J : Inv (lamCx X (A0.deeper (envOfC qg sg s0.heap.objs.size g cdg)) (envOfC qg sg s0.heap.objs.size g cdg :: outer0) s1 H1 E scope f c') [] σ H1 { s1 with heap := h2, toks := s1.toks + ([] : List (Str × Value)).length } :=
        lam_start2 I L I1.env0 hr.hd un fresh old
      exact PySem.W.kla_codeExpr (wpAny_mono ((hbody _ _ s1 H1 (hr.deeper _)).run [] _ _ H1 Q J w.2.2.2) (fun v s2 q => by
        rcases q with ⟨x, H2, J2, rv, q⟩
        exact ⟨x, H2, J2.os, J2.bare, J2.base, J2.hok, rv, q⟩) fun _ _ q => q)
    exact PySem.W.callWith_F0 ⟨_, _, _, _, obj⟩ (wpAny_call (codeAny_mono rc fun r s2 q => by
      match r, q with
      | .error e, q => exact passes_call tk (fun cls d σ' H' => hW cls d σ' H') pinsZ σZ H1 s1 e s2 I1 q
      | .ok (.ret u), q => exact I1.after q
      | .ok .next, q => exact False.elim q
      | .ok .brk, q => exact False.elim q
      | .ok .cont, q => exact False.elim q)))⟩
end
/-- from h to h1 behind the frames fs, then on to h2 behind more frames, of which only those of fs stood in h -/
theorem Un.further {fs fs2 : List Addr} {H H1 H2 : Hp} {h h1 h2 : Heap} (a : Un fs [] H H1 h h1) (b : Un fs2 [] H1 H2 h1 h2) (fr : ∀ c o, h.get? c = some o → c ∈ fs2 → c ∈ fs) : Un fs [] H H2 h h2 where
  keep := fun c o e n k x => b.keep c o (a.keep c o e n k x) (a.free c o e n x) (fun m => k (fr c o e m)) x
  slot := fun c o e n k x => by
    rcases a.slot c o e n k x with ⟨sl, e1⟩
    by_cases m : c ∈ fs2
    · rcases b.slot c _ e1 (a.free c o e n x) m x with ⟨sl2, e2⟩
      exact ⟨sl2, e2⟩
    · exact ⟨sl, b.keep c _ e1 (a.free c o e n x) m x⟩
  free := fun c o e n x => by
    rcases a.there c o e x with ⟨o1, e1⟩
    exact b.free c o1 e1 (a.free c o e n x) x
  there := fun c o e x => by
    rcases a.there c o e x with ⟨o1, e1⟩
    exact b.there c o1 e1 x
  tups := fun c xs e => b.tups c xs (a.tups c xs e)
  frzs := fun c o u e => b.frzs c o u (a.frzs c o u e)
  tbls := fun c ps e => by
    rcases a.tbls c ps e with ⟨m1, e1⟩
    rcases b.tbls c _ e1 with ⟨m2, e2⟩
    exact ⟨m1 ++ m2, by rw [← Array.append_assoc]; exact e2⟩
/-- Z runs behind the maker X, which stands at s and H -/
structure Behind (X Z : Cx) (H : Hp) (s : Shared) : Prop where
  un : ∀ {pins σ HZ s1}, Inv Z pins σ HZ s1 → Un (frs X.stack) [] H HZ s.heap s1.heap
  fr : ∀ b o, s.heap.get? b = some o → b ∈ frs Z.stack → b ∈ frs X.stack
section
variable {X Z : Cx} {pins : List (Addr × Obj)} {σ : L2.St} {H HZ : Hp} {s s1 : Shared} {CXg : CXT} {Ng : List Str} {qg : Str} {sg : Scope} {g : Addr} {cdg : Value} {Eg : XK} {pn : List (Addr × Obj)} {xe : Value → Shared → Prop}
theorem frs_env {S : Shared} {l : List Env} : frs (envOfC qg sg S.heap.objs.size g cdg :: l) = S.heap.objs.size :: frs l := List.filterMap_cons_some rfl
/-- a def that X itself calls -/
theorem Behind.first : Behind X ((cxOf CXg X.prog X.w X.K X.mg X.base Ng qg sg g cdg X.A X.stack s H Eg).tr pn xe) H s where
  un := fun I => I.base
  fr := fun b o e m => by
    have m2 : b ∈ frs (envOfC qg sg s.heap.objs.size g cdg :: X.stack) := m
    rw [frs_env] at m2
    rcases List.mem_cons.mp m2 with z | z
    · rw [z] at e
      exact absurd (Heap.lt_size e) (Nat.lt_irrefl _)
    · exact z
/-- a def that such a def calls -/
theorem Behind.next (B : Behind X Z H s) (I : Inv Z pins σ HZ s1) : Behind X ((cxOf CXg Z.prog Z.w Z.K Z.mg Z.base Ng qg sg g cdg Z.A Z.stack s1 HZ Eg).tr pn xe) H s where
  un := fun I2 => Un.further (B.un I) I2.base B.fr
  fr := fun b o e m => by
    have m2 : b ∈ frs (envOfC qg sg s1.heap.objs.size g cdg :: Z.stack) := m
    rw [frs_env] at m2
    rcases List.mem_cons.mp m2 with z | z
    · rcases (B.un I).there b o e (by simp) with ⟨o1, e1⟩
      rw [z] at e1
      exact absurd (Heap.lt_size e1) (Nat.lt_irrefl _)
    · exact B.fr b o e z
end
end Nc

/-! Own rules: the cells of a frame, lent to the defs that it calls, so that a lambda that was kept may read them. -/
namespace Nc
open PySem PySem.Spec PyProof.Rows L2 LamX
/-- the cell at c is known for a while, with what is in it -/
def CellF (H : Hp) (c : Addr) (v : Option Value) : Prop := ∃ oc : Obj, oc.data = .cell v ∧ H c = some (.frz oc (.own 0))
theorem CellF.same {H H' : Hp} {c : Addr} {v : Option Value} (k : Same H H') (x : CellF H c v) : CellF H' c v := let ⟨oc, d, e⟩ := x; ⟨oc, d, k _ _ e⟩
def lendH (cs : List Addr) (h : Heap) (H : Hp) : Hp := fun b => if b ∈ cs then (h.get? b).map (fun o => .frz o (.own 0)) else H b
def delC (cs : List Addr) (H : Hp) : Hp := fun b => if b ∈ cs then none else H b
def putC (cs : List Addr) (H H' : Hp) : Hp := fun b => if b ∈ cs then H b else H' b
section
variable {P : Program} {w : World} {cs fs ex : List Addr} {H H' : Hp} {h h' B : Heap}
theorem delC_in {b : Addr} (m : b ∈ cs) : delC cs H b = none := by unfold delC; rw [if_pos m]
theorem delC_out {b : Addr} (m : b ∉ cs) : delC cs H b = H b := by unfold delC; rw [if_neg m]
theorem putC_in {b : Addr} (m : b ∈ cs) : putC cs H H' b = H b := by unfold putC; rw [if_pos m]
theorem putC_out {b : Addr} (m : b ∉ cs) : putC cs H H' b = H' b := by unfold putC; rw [if_neg m]
theorem lendH_out {b : Addr} (m : b ∉ cs) : lendH cs h H b = H b := by unfold lendH; rw [if_neg m]
theorem lendH_in {b : Addr} {o : Obj} (m : b ∈ cs) (e : h.get? b = some o) : lendH cs h H b = some (.frz o (.own 0)) := by unfold lendH; rw [if_pos m, e]; rfl
theorem out_of {b : Addr} {o : HO} (n : ∀ c ∈ cs, H c = none) (e : H b = some o) : b ∉ cs := fun m => by
  rw [n b m] at e
  cases e
theorem frz_out {b : Addr} {o : HO} (n : ∀ c ∈ cs, ∃ v, CellF H c v) (e : H b = some o) (d : ∀ oc, o ≠ .frz oc (.own 0)) : b ∉ cs := fun m => by
  rcases n b m with ⟨v, oc, _, e2⟩
  rw [e] at e2
  exact d oc (Option.some.inj e2)
/-- what is lent is known -/
theorem hok_lend (hok : HOk P w H h) (n : ∀ c ∈ cs, H c = none) : HOk P w (lendH cs h H) h := fun a o e => by
  by_cases m : a ∈ cs
  · cases g : h.get? a with
    | none =>
      unfold lendH at e
      rw [if_pos m, g] at e
      cases e
    | some oa =>
      rw [lendH_in m g] at e
      cases e
      exact ⟨g, oa, g⟩
  · rw [lendH_out m] at e
    exact (hok a o e).stay (fun b u _ z => z) (fun b z => by rw [lendH_out (out_of n z)]; exact z) fun b xs z => by rw [lendH_out (out_of n z)]; exact z
theorem hok_del (hok : HOk P w H h) (n : ∀ c ∈ cs, ∃ v, CellF H c v) : HOk P w (delC cs H) h := fun a o e => by
  by_cases m : a ∈ cs
  · rw [delC_in m] at e
    cases e
  · rw [delC_out m] at e
    exact (hok a o e).stay (fun b u _ z => z) (fun b z => by rw [delC_out (frz_out n z fun oc z => by cases z)]; exact z) fun b xs z => by rw [delC_out (frz_out n z fun oc z => by cases z)]; exact z
/-- back to the lender -/
theorem un_lend (u : Un fs ex (lendH cs h H) H' h h') (hok : HOk P w H' h') (n : ∀ c ∈ cs, H c = none) (nf : ∀ c ∈ cs, c ∉ fs) (at_ : ∀ c ∈ cs, ∃ o, h.get? c = some o) : Un fs ex H (delC cs H') h h' where
  keep := fun b o e nb k x => by
    by_cases m : b ∈ cs
    · have z := u.frzs b o _ (lendH_in m e)
      exact (show ObjOk P w H' h' b (.frz o (.own 0)) from hok b _ z).1
    · exact u.keep b o e (by rw [lendH_out m]; exact nb) k x
  slot := fun b o e nb k x => by
    have m : b ∉ cs := fun m => nf b m k
    exact u.slot b o e (by rw [lendH_out m]; exact nb) k x
  free := fun b o e nb x => by
    by_cases m : b ∈ cs
    · exact delC_in m
    · rw [delC_out m]
      exact u.free b o e (by rw [lendH_out m]; exact nb) x
  there := u.there
  tups := fun b xs e => by
    have m := out_of n e
    rw [delC_out m]
    exact u.tups b xs (by rw [lendH_out m]; exact e)
  frzs := fun b o v e => by
    have m := out_of n e
    rw [delC_out m]
    exact u.frzs b o v (by rw [lendH_out m]; exact e)
  tbls := fun b ps e => by
    have m := out_of n e
    rw [delC_out m]
    exact u.tbls b ps (by rw [lendH_out m]; exact e)
theorem lend_frz (u : Un fs ex (lendH cs h H) H' h h') (at_ : ∀ c ∈ cs, ∃ v, h.IsCell c v) : ∀ c ∈ cs, ∃ v, CellF H' c v := fun c m => by
  rcases at_ c m with ⟨v, o, e, d⟩
  exact ⟨v, o, d, u.frzs c o _ (lendH_in m e)⟩
/-- behind a body that had them for its own -/
theorem un_put (u : Un fs [] (delC cs H) H' h h') (n : ∀ c ∈ cs, ∃ v, CellF H c v) : Un fs [] H (putC cs H H') h h' where
  keep := fun b o e nb k x => by
    have m : b ∉ cs := fun m => by
      rcases n b m with ⟨v, oc, _, e2⟩
      rw [nb] at e2
      cases e2
    exact u.keep b o e (by rw [delC_out m]; exact nb) k x
  slot := fun b o e nb k x => by
    have m : b ∉ cs := fun m => by
      rcases n b m with ⟨v, oc, _, e2⟩
      rw [nb] at e2
      cases e2
    exact u.slot b o e (by rw [delC_out m]; exact nb) k x
  free := fun b o e nb x => by
    have m : b ∉ cs := fun m => by
      rcases n b m with ⟨v, oc, _, e2⟩
      rw [nb] at e2
      cases e2
    rw [putC_out m]
    exact u.free b o e (by rw [delC_out m]; exact nb) x
  there := u.there
  tups := fun b xs e => by
    have m := frz_out n e fun oc z => by cases z
    rw [putC_out m]
    exact u.tups b xs (by rw [delC_out m]; exact e)
  frzs := fun b o v e => by
    by_cases m : b ∈ cs
    · rw [putC_in m]
      exact e
    · rw [putC_out m]
      exact u.frzs b o v (by rw [delC_out m]; exact e)
  tbls := fun b ps e => by
    have m := frz_out n e fun oc z => by cases z
    rw [putC_out m]
    exact u.tbls b ps (by rw [delC_out m]; exact e)
theorem hok_put (hok0 : HOk P w H h) (hok : HOk P w H' h') (n : ∀ c ∈ cs, ∃ v, CellF H c v) (keep : ∀ c ∈ cs, ∀ o, h.get? c = some o → h'.get? c = some o ∧ H' c = none) : HOk P w (putC cs H H') h' := fun a o e => by
  have at_ : ∀ c ∈ cs, ∃ oc, H c = some (.frz oc (.own 0)) ∧ h.get? c = some oc := fun c m => by
    rcases n c m with ⟨v, oc, _, e2⟩
    exact ⟨oc, e2, (show ObjOk P w H h c (.frz oc (.own 0)) from hok0 c _ e2).1⟩
  have out : ∀ b u, H' b = some u → b ∉ cs := fun b u z m => by
    rcases at_ b m with ⟨oc, _, g⟩
    rw [(keep b m oc g).2] at z
    cases z
  by_cases m : a ∈ cs
  · rw [putC_in m] at e
    rcases at_ a m with ⟨oc, e2, g⟩
    rw [e2] at e
    cases e
    exact ⟨(keep a m oc g).1, oc, (keep a m oc g).1⟩
  · rw [putC_out m] at e
    exact (hok a o e).stay (fun b u _ z => z) (fun b z => by rw [putC_out (out b _ z)]; exact z) fun b xs z => by rw [putC_out (out b _ z)]; exact z
theorem ub_put (u : UB fs (delC cs H) H' h B h') (n : ∀ c ∈ cs, ∃ v, CellF H c v) (nf : ∀ c ∈ cs, c ∉ fs) : UB fs H (putC cs H H') h B h' where
  keep := fun b o e nb k => by
    have m : b ∉ cs := fun m => by
      rcases n b m with ⟨v, oc, _, e2⟩
      rw [nb] at e2
      cases e2
    exact u.keep b o e (by rw [delC_out m]; exact nb) k
  slot := u.slot
  free := fun b o e nb => by
    have m : b ∉ cs := fun m => by
      rcases n b m with ⟨v, oc, _, e2⟩
      rw [nb] at e2
      cases e2
    rw [putC_out m]
    exact u.free b o e (by rw [delC_out m]; exact nb)
  there := u.there
  tups := fun b xs e => by
    have m := frz_out n e fun oc z => by cases z
    rw [putC_out m]
    exact u.tups b xs (by rw [delC_out m]; exact e)
  frzs := fun b o v e => by
    by_cases m : b ∈ cs
    · rw [putC_in m]
      exact e
    · rw [putC_out m]
      exact u.frzs b o v (by rw [delC_out m]; exact e)
  tbls := fun b ps e => by
    have m := frz_out n e fun oc z => by cases z
    rw [putC_out m]
    exact u.tbls b ps (by rw [delC_out m]; exact e)
/-! ### behind a call -/
theorem ce_put {outer : List Env} {s s' : Shared} {Q : VK} {u : Value} (c : CE outer P w (delC cs H) s (fun v H' => (∀ c ∈ cs, H' c = none) → Q v (putC cs H H')) u s') (hok0 : HOk P w H s.heap) (n : ∀ c ∈ cs, ∃ v, CellF H c v) (nf : ∀ c ∈ cs, c ∉ frs outer) : CE outer P w H s Q u s' := by
  rcases c with ⟨v, H', os, bare, un, hok, rv, q⟩
  have keep : ∀ c ∈ cs, ∀ o, s.heap.get? c = some o → s'.heap.get? c = some o ∧ H' c = none := fun c m o g => ⟨un.keep c o g (delC_in m) (nf c m) (by simp), un.free c o g (delC_in m) (by simp)⟩
  exact ⟨v, _, os, bare, un_put un n, hok_put hok0 hok n keep, rv, q fun c m => by
    rcases n c m with ⟨v, oc, _, e2⟩
    exact (keep c m oc (show ObjOk P w H s.heap c (.frz oc (.own 0)) from hok0 c _ e2).1).2⟩
theorem cx_put {outer : List Env} {s s' : Shared} {E : XK} {u : Value} (c : L2.CX P w outer (delC cs H) s (fun cls d H' => (∀ c ∈ cs, H' c = none) → E cls d (putC cs H H')) u s') (hok0 : HOk P w H s.heap) (n : ∀ c ∈ cs, ∃ v, CellF H c v) (nf : ∀ c ∈ cs, c ∉ frs outer) : L2.CX P w outer H s E u s' := by
  rcases c with ⟨a, B, H', cls, d, rfl, fl, hok, ub, na, os, ag, hE⟩
  have keep : ∀ c ∈ cs, ∀ o, s.heap.get? c = some o → B.get? c = some o ∧ H' c = none := fun c m o g => ⟨ub.keep c o g (delC_in m) (nf c m), ub.free c o g (delC_in m)⟩
  have none_ : ∀ c ∈ cs, H' c = none := fun c m => by
    rcases n c m with ⟨v, oc, _, e2⟩
    exact (keep c m oc (show ObjOk P w H s.heap c (.frz oc (.own 0)) from hok0 c _ e2).1).2
  refine ⟨a, B, _, cls, d, rfl, fl, hok_put hok0 hok n keep, ub_put ub n nf, ?_, os, ag, hE none_⟩
  have m : a ∉ cs := fun m => by
    rcases n a m with ⟨v, oc, _, e2⟩
    have g := (show ObjOk P w H s.heap a (.frz oc (.own 0)) from hok0 a _ e2).1
    have z := (keep a m oc g).1
    have f1 := fl.2.1
    rw [f1] at z
    cases z
  rw [putC_out m]
  exact na
end
end Nc

/-! Own rules: a lambda that was kept (with or without defaults) is called by any def, while its maker lends its cells. -/
namespace Nc
open PySem PySem.Spec PyProof.Rows L2 LamX
/-- of a frame, for good -/
structure XSt (X : Cx) (σ : L2.St) : Prop where
  inj : ∀ x y c, X.env.cells.lookup x = some c → X.env.cells.lookup y = some c → x = y
  has : ∀ x, (X.env.kindOf x = some .cell ∨ X.env.kindOf x = some .free) → ∃ c, X.env.cells.lookup x = some c
  len : σ.length = X.N.length
theorem XSt.of {X : Cx} {pins : List (Addr × Obj)} {σ : L2.St} {H : Hp} {s : Shared} (I : Inv X pins σ H s) : XSt X σ := ⟨I.ok.inj, I.ok.has, I.len⟩
abbrev cellsOf (X : Cx) : List Addr := X.env.cells.filterMap fun p => X.env.cells.lookup p.1
theorem mem_cellsOf {X : Cx} {x : Str} {c : Addr} (e : X.env.cells.lookup x = some c) : c ∈ cellsOf X := List.mem_filterMap.mpr ⟨(x, c), PySem.mem_of_lookup e, e⟩
theorem of_cellsOf {X : Cx} {c : Addr} (m : c ∈ cellsOf X) : ∃ x, X.env.cells.lookup x = some c := let ⟨p, _, e⟩ := List.mem_filterMap.mp m; ⟨p.1, e⟩
/-- the frame's cells are lent -/
structure Lent (X : Cx) (σ : L2.St) (H : Hp) : Prop where
  all : ∀ c ∈ cellsOf X, ∃ v, CellF H c v
  slot : ∀ (i : Nat) (x : Str) (v : V), X.N[i]? = some x → σ[i]? = some (some v) → (X.env.kindOf x = some .cell ∨ X.env.kindOf x = some .free) → ∀ c, X.env.cells.lookup x = some c → ∃ u, RelV v u ∧ CellF H c (some u)
theorem Lent.same {X : Cx} {σ : L2.St} {H H' : Hp} (k : Same H H') (l : Lent X σ H) : Lent X σ H' :=
  ⟨fun c m => let ⟨v, z⟩ := l.all c m; ⟨v, z.same k⟩, fun i x v e1 e2 e3 c e4 => let ⟨u, r, z⟩ := l.slot i x v e1 e2 e3 c e4; ⟨u, r, z.same k⟩⟩
/-- a lambda's names: captured ones, globals, parameters that no name of the maker's bears -/
structure LamP (N : List Str) (sc scope : Scope) : Prop where
  kind : scope.kind = .function
  co : scope.isCoroutine = false
  gen : scope.isGenerator = false
  cell : ∀ y ∈ scope.names, y.2 ≠ .cell
  loc : ∀ x ∈ N, scope.names.lookup x ≠ some .local
  free : ∀ y ∈ scope.names, y.2 = .free → sc.names.lookup y.1 = some .cell ∨ sc.names.lookup y.1 = some .free
def lamPB (N : List Str) (sc scope : Scope) : Bool :=
  decide (scope.kind = .function) && !scope.isCoroutine && !scope.isGenerator && (scope.names.all fun y => !decide (y.2 = .cell) && (!decide (y.2 = .free) || decide (sc.names.lookup y.1 = some .cell) || decide (sc.names.lookup y.1 = some .free))) &&
  N.all fun x => !decide (scope.names.lookup x = some .local)
theorem lamP_by {N : List Str} {sc scope : Scope} (h : lamPB N sc scope = true) : LamP N sc scope := by
  unfold lamPB at h
  simp only [Bool.and_eq_true, Bool.or_eq_true, Bool.not_eq_true', decide_eq_true_eq, decide_eq_false_iff_not, List.all_eq_true] at h
  obtain ⟨⟨⟨⟨h1, h2⟩, h3⟩, h4⟩, h5⟩ := h
  refine ⟨h1, h2, h3, fun y hy => (h4 y hy).1, h5, fun y hy e => ?_⟩
  rcases (h4 y hy).2 with (z | z) | z
  · exact absurd e z
  · exact .inl z
  · exact .inr z
section
variable {X : Cx} {pins : List (Addr × Obj)} {σ : L2.St} {H HZ : Hp} {s s1 : Shared}
theorem LamP.has {N : List Str} {scope : Scope} (L : LamP N X.env.scope scope) (xs : XSt X σ) : ∀ y ∈ scope.names, y.2 = .free → ∃ c, X.env.cells.lookup y.1 = some c := fun y hy e => by
  rcases L.free y hy e with k | k
  · exact xs.has _ (.inl k)
  · exact xs.has _ (.inr k)
theorem lam_startL {A : Around} {outer : List Env} {E : XK} {scope : Scope} {f c' : Addr} {h₁ : Heap} {tk : Nat} {m : Str → Option Value} (xs : XSt X σ) (L : LamP X.N X.env.scope scope) (e0 : Env0 X.prog X.w X.K X.mg X.base A outer s1 HZ) (hd : A.handled = none)
    (le : Lent X σ HZ) (hns : h₁.Ns s1.heap.objs.size m) (kp : ∀ b o, s1.heap.get? b = some o → h₁.get? b = some o) :
    Inv (lamCx X A outer s1 (delC (cellsOf X) HZ) E scope f c') [] σ (delC (cellsOf X) HZ) { s1 with heap := h₁, toks := tk } := by
  have hfree := L.has xs
  have cm : ∀ {y c}, (cloFrom X.env.cells scope.names []).lookup y = some c → X.env.cells.lookup y = some c := fun {y c} e => by
    rcases cloFrom_mem (PySem.mem_of_lookup e) with hm | ⟨h1, h2⟩
    · cases hm
    · obtain ⟨c1, hc⟩ := hfree _ h1 rfl
      have hc : X.env.cells.lookup y = some c1 := hc
      have e2 : c = c1 := by
        rw [h2, hc] <;> rfl
      rw [e2]
      exact hc
  have look : ∀ {y}, scope.names.lookup y = some .free → ∃ c, (cloFrom X.env.cells scope.names []).lookup y = some c := fun {y} hl => by
    have hy : (y, NameKind.free) ∈ scope.names := PySem.mem_of_lookup hl
    exact mem_lookup (cloFrom_has (cells := X.env.cells) (acc := []) hy)
  have heldAt : ∀ {c : Addr} {v : Option Value}, CellF HZ c v → h₁.IsCell c v := fun {c v} z => by
    rcases z with ⟨oc, d, e⟩
    have x : ObjOk X.prog X.w HZ s1.heap c (.frz oc (.own 0)) := e0.hok c _ e
    exact ⟨oc, kp _ _ x.1, d⟩
  have hok := hok_del e0.hok le.all
  have noA : ∀ b : Addr, b ∉ (lamCx X A outer s1 (delC (cellsOf X) HZ) E scope f c').ex := fun b z => absurd (show b ∈ ([] : List Addr) from z) (by simp)
  have nil : ∀ {b : Addr}, HZ b = none → delC (cellsOf X) HZ b = none := fun {b} n => by
    by_cases m : b ∈ cellsOf X
    · exact delC_in m
    · rw [delC_out m]
      exact n
  refine ⟨⟨e0.mod, L.kind, rfl, rfl, Nat.le_refl _, fun y z c e1 e2 => xs.inj y z c (cm e1) (cm e2), fun y hy => ?_, fun y c z _ => ?_, fun _ => hd, Around.frames_deeper e0.frames, .inr ⟨rfl, rfl⟩, fun b z => absurd z (noA b), fun b o e => ⟨(e0.bs b o e).1, nil (e0.bs b o e).2⟩, e0.bsz, fun b _ _ => noA b,
      fun b z => absurd z (noA b), e0.funs, fun b m => nil (e0.frf b m)⟩,
    rfl, e0.bare, Un.kept kp, ⟨_, hns, fun i y v e1 e2 e3 => ?_⟩, fun y c e => ?_, hok.fresh (Nat.le_refl _), fun y c e => delC_in (mem_cellsOf (cm e)), fun q hq => absurd (show q ∈ ([] : List (Addr × Obj)) ++ [] from hq) (by simp), hok.kept kp, xs.len⟩
  · have hy : scope.names.lookup y = some .cell ∨ scope.names.lookup y = some .free := hy
    rcases hy with hy | hy
    · exact absurd rfl (L.cell _ (PySem.mem_of_lookup hy))
    · exact look hy
  · have z : false = true := z
    cases z
  · have e3 : Vis scope y := e3
    have e1 : X.N[i]? = some y := e1
    rcases e3 with k | k | k
    · exact absurd k (L.loc y (List.mem_of_getElem? e1))
    · exact absurd rfl (L.cell _ (PySem.mem_of_lookup k))
    · obtain ⟨c2, h2⟩ := look k
      have kind : X.env.kindOf y = some .cell ∨ X.env.kindOf y = some .free := L.free _ (PySem.mem_of_lookup k) rfl
      obtain ⟨u, r, z⟩ := le.slot i y v e1 e2 kind c2 (cm h2)
      exact ⟨u, r, .inr ⟨.inr k, c2, h2, heldAt z⟩⟩
  · obtain ⟨v, z⟩ := le.all c (mem_cellsOf (cm e))
    exact ⟨v, heldAt z⟩
/-- f() keeps a promise, whoever calls -/
def KCall (P : Program) (w : World) (K : PySem.W.Frag) (mg : Str → Option Value) (base : Heap) (k : Nat) (f : Addr) (tl : XK → Hp → VK → Prop) : Prop := ∀ (A : Around) (outer : List Env) (s : Shared) (H : Hp) (Q : VK) (E : XK),
  Room k A → Env0 P w K mg base A outer s H → tl E H Q → codeAny (model P w) A (.call (.ref f) ⟨[], []⟩) (CR (L2.CX P w) outer P w H s Q E) s
/-- the object of a lambda of the maker X -/
abbrev lamOb (X : Cx) (params : Arguments) (body : Expr) (scope : Scope) (dV doc pm ctv : Value) (c' : Addr) : Obj := PySem.W.kdv_obj "<lambda>" (X.env.qual ++ "<lambda>") params (.expr body) scope (cloFrom X.env.cells scope.names []) dV doc pm c' ctv
theorem lam_kcall {params : Arguments} {body : Expr} {scope : Scope} {dV doc pm ctv : Value} {f c' : Addr} {binds : List (Str × Value)} {k : Nat} {Hd : Hp → Prop} {tb : XK → TE} (xs : XSt X σ) (L : LamP X.N X.env.scope scope)
    (hbind : ∀ (H : Hp) (s : Shared), Hd H → HOk X.prog X.w H s.heap → BindsTo s (PySem.W.kdv_fn "<lambda>" (X.env.qual ++ "<lambda>") params (.expr body) scope (cloFrom X.env.cells scope.names []) dV doc pm (.ref c') ctv) ⟨[], []⟩ binds)
    (hloc : ∀ y ∈ binds, scope.names.lookup y.1 = some .local)
    (hbody : ∀ (A : Around) (outer : List Env) (s : Shared) (H : Hp) (E : XK), Room k (A.deeper (lamEnv X scope s.heap.objs.size f c')) → PE (lamCx X A outer s H E scope f c') body (tb E)) :
    KCall X.prog X.w X.K X.mg X.base (k + 1) f (fun E H Q => H f = some (LamO f (lamOb X params body scope dV doc pm ctv c')) ∧ H c' = some (CodeO c' (X.env.qual ++ "<lambda>")) ∧ Hd H ∧ Lent X σ H ∧
      tb (fun cls d H' => (∀ c ∈ cellsOf X, H' c = none) → E cls d (putC (cellsOf X) H H')) σ (delC (cellsOf X) H) (fun v H' => (∀ c ∈ cellsOf X, H' c = none) → Q v (putC (cellsOf X) H H'))) := fun A outer s H Q E hr e0 h => by
  rcases h with ⟨hf, hc, hdv, le, ht⟩
  have obj := lamO_at e0.hok hf
  rcases (e0.hok c' _ hc).1 with ⟨oc, vs, t, coAt, coD, coN⟩
  have lim : s.heap.NoLimit := e0.mod.nolimit.keeps fun b o e => (e0.bs b o e).1
  have nf : ∀ c ∈ cellsOf X, c ∉ frs outer := fun c m z => by
    rcases le.all c m with ⟨v, o, _, e⟩
    rw [e0.frf c z] at e
    cases e
  refine PySem.W.kla_callFunE hr.depth obj rfl L.co L.gen rfl ⟨c', oc, vs, t, rfl, coAt, coD, coN⟩ (hbind H s hdv e0.hok _ _ _ _ ?_)
  refine wpAny_newFunctionEnv (fun y m => L.cell y m) hloc (fun h2 fresh but => ⟨lim.fresh _ but, ?_⟩) L.kind
  have old : ∀ b o, s.heap.get? b = some o → h2.get? b = some o := fun b o e => but.extBut b o (Nat.ne_of_lt (Heap.lt_size e)) (Heap.get?_push_of_some _ e)
  have J : Inv (lamCx X A outer s (delC (cellsOf X) H) (fun cls d H' => (∀ c ∈ cellsOf X, H' c = none) → E cls d (putC (cellsOf X) H H')) scope f c') [] σ (delC (cellsOf X) H) { s with heap := h2, toks := s.toks + binds.length } :=
    lam_startL xs L e0 hr.hd le fresh old
  refine PySem.W.kla_codeExpr (wpAny_mono ((hbody A outer s (delC (cellsOf X) H) (fun cls d H' => (∀ c ∈ cellsOf X, H' c = none) → E cls d (putC (cellsOf X) H H')) (hr.deeper _)).run [] _ _ _ _ J ht) (fun v s2 q => ?_) fun e s2 q => ?_)
  · rcases q with ⟨x, H2, J2, rv, q⟩
    exact ce_put ⟨x, H2, J2.os, J2.bare, J2.base, J2.hok, rv, q⟩ e0.hok le.all nf
  · exact wpAny_mono q (fun _ s3 z => cx_put z e0.hok le.all nf) fun _ s3 z => cx_put z e0.hok le.all nf
end
end Nc

/-! Own rules: the calls: a() of what was kept; g(..) with the own cells lent; lambdas with defaults made. -/
namespace Nc
open PySem PySem.Spec PyProof.Rows L2 LamX
section
variable {Z X : Cx}
/-- a(), a a local that holds a kept lambda -/
theorem pe_callK {k i : Nat} {a : Str} {E : XK} {p1 p2 : Pos} (hx : Passes (L2.CX Z.prog Z.w) Z E) (hr : Room k Z.A) (hN : Z.N[i]? = some a) (hv : Vis Z.env.scope a) (hd : (a == ("__debug__" : Str)) = false := by decide) (hcd : (a == ("__classdict__" : Str)) = false := by decide) :
    PE Z (.Call (.Name a p1) [] [] p2) (fun σ H Q => ∃ (f : Addr) (fd : FuncData) (tl : XK → Hp → VK → Prop), σ[i]? = some (some (.ref f)) ∧ H f = some (LamO f { cls := .type "function", data := .func fd }) ∧ KCall Z.prog Z.w Z.K Z.mg Z.base k f tl ∧ tl E H Q) :=
  ⟨fun pins s σ H Q I w => by
    rcases w with ⟨f, fd, tl, at_, hf, kc, h⟩
    refine wpAny_Call_Name_kw (thn ((pe_var (pos := p1) (i := i) hN hv hd hcd).run pins s σ H (fun v H1 => v = .ref f ∧ H1 = H) I ⟨.ref f, at_, rfl, rfl⟩) fun u s1 w1 => ?_)
    rcases w1 with ⟨v, H1, I1, r1, rfl, rfl⟩
    cases r1
    have obj := lamO_at I1.hok hf
    refine PySem.W.callWith_F0 ⟨_, _, _, _, obj⟩ (wpAny_call (codeAny_mono (kc Z.A Z.stack s1 _ Q E hr I1.env0 h) fun r s2 q => ?_))
    match r, q with
    | .error e, q => exact hx pins σ _ s1 e s2 I1 q
    | .ok (.ret u), q => exact I1.after q
    | .ok .next, q => exact False.elim q
    | .ok .brk, q => exact False.elim q
    | .ok .cont, q => exact False.elim q⟩
theorem cell_not_frs {pins : List (Addr × Obj)} {σ : L2.St} {H : Hp} {s : Shared} (I : Inv X pins σ H s) (hfn : ∀ y, X.fn y = true) : ∀ c ∈ cellsOf X, c ∉ frs X.stack := fun c m z => by
  rcases of_cellsOf m with ⟨x, e⟩
  have ge : X.s_0.heap.objs.size ≤ c := I.ok.cab x c (hfn x) e
  have out : c ∉ frs X.outer := fun z => by
    rcases I.ok.funs.mem z with ⟨_, o, g, _⟩
    exact Nat.lt_irrefl _ (Nat.lt_of_lt_of_le (Heap.lt_size g) ge)
  rcases I.ok.stk with q | ⟨q, fr⟩
  · rw [q] at z
    exact out z
  · rw [q] at z
    unfold frs at z
    rw [List.filterMap_cons_some fr] at z
    rcases List.mem_cons.mp z with z | z
    · rcases I.loc with ⟨m0, ⟨o, es, ep, g, d, _⟩, _⟩
      rcases I.cell x c e with ⟨v, o2, g2, d2⟩
      rw [z] at g2
      rw [g] at g2
      cases g2
      rw [d] at d2
      cases d2
    · exact out z
theorem lend_none {pins : List (Addr × Obj)} {σ : L2.St} {H : Hp} {s : Shared} (I : Inv X pins σ H s) : ∀ c ∈ cellsOf X, H c = none := fun c m => by
  rcases of_cellsOf m with ⟨x, e⟩
  exact I.freeC x c e
theorem lent_of {pins : List (Addr × Obj)} {σ : L2.St} {H : Hp} {s : Shared} (I : Inv X pins σ H s) : Lent X σ (lendH (cellsOf X) s.heap H) where
  all := fun c m => by
    rcases of_cellsOf m with ⟨x, e⟩
    rcases I.cell x c e with ⟨v, o, g, d⟩
    exact ⟨v, o, d, lendH_in m g⟩
  slot := fun i x v e1 e2 e3 c e4 => by
    rcases I.loc with ⟨m0, _, lk⟩
    rcases lk i x v e1 e2 (e3.elim (fun k => .inr (.inl k)) fun k => .inr (.inr k)) with ⟨u, r, q⟩
    rcases q with ⟨k, _⟩ | ⟨_, c2, e5, o, g, d⟩
    · have k : X.env.kindOf x = some .local := k
      rcases e3 with k2 | k2 <;> rw [k] at k2 <;> cases k2
    · rw [e4] at e5
      cases e5
      exact ⟨u, r, o, d, lendH_in (mem_cellsOf e4) g⟩
/-- f(..), the own cells lent -/
theorem pe_lend {k : Nat} {f : Addr} {fd : FuncData} {ps : List Str} {sp : Sp} {dvs : List V} {ds : List Value} {x : Str} {p pos : Pos} {e : Expr} {es : List Expr} {t : TA} (F : FnOk X.prog X.w X.K X.mg X.base CX0 k f fd ps sp) (hr : Room k X.A) (hg : Gl X x) (hm : X.mg x = some (.ref f))
    (hk : PySem.W.keepIn X.K (.ref f) = true) (hb : Binds X.K fd ps ds) (hd : Vals dvs ds) (hfn : ∀ y, X.fn y = true)
    (ha : PA X (e :: es) t) (hdb : (x == ("__debug__" : Str)) = false := by decide) (he : starEach (e :: es) X.env = (false, eval e X.env) :: starEach es X.env := by rfl) (hpl : (backTo pos (starEach es X.env)).any (·.1) = false := by rfl) :
    PE X (.Call (.Name x p) (e :: es) [] pos) (fun σ H Q => t σ H fun vs H1 => ∀ H2, Same H1 H2 → XSt X σ → Lent X σ H2 → (∀ H3, Same H2 H3 → Same H1 (delC (cellsOf X) H3)) → sp (vs ++ dvs) H2 (fun v H3 => Q v (delC (cellsOf X) H3)) (fun _ _ _ => False)) := by
  refine ⟨fun pins s σ H Q I h => ?_⟩
  refine wpAny_Call_Name_kw (ld_glob I hg hm ?_ hdb)
  refine PySem.W.callWith_K (h₀ := X.base) I.ok.mod.kin hk (thn (ha.run pos pins s σ H _ I h) fun us s1 ⟨vs, H1, I1, r, q⟩ => ⟨I1.kIn, ?_⟩) he hpl
  have no := lend_none I1
  have nf := cell_not_frs I1 hfn
  have heldC : ∀ c ∈ cellsOf X, ∃ v, s1.heap.IsCell c v := fun c m => let ⟨y, e⟩ := of_cellsOf m; I1.cell y c e
  have sm : Same H1 (lendH (cellsOf X) s1.heap H1) := fun b o z => by
    rw [lendH_out (out_of no z)]
    exact z
  have q := q _ sm (XSt.of I1) (lent_of I1) (fun H3 s3 b o z => by
    rw [delC_out (out_of no z)]
    exact s3 b o (sm b o z))
  have r2 : Vals (vs ++ dvs) (us ++ ds) := r.append hd
  have hl : (us ++ ds).length = ps.length := by rw [← r2.length]; exact F.len _ _ _ _ q
  have e0 : Env0 X.prog X.w X.K X.mg X.base X.A X.stack s1 (lendH (cellsOf X) s1.heap H1) := by
    have z := I1.env0
    refine ⟨z.frames, z.mod, fun b o g => ⟨(z.bs b o g).1, ?_⟩, z.bsz, z.funs, fun b m => ?_, hok_lend z.hok no, z.bare⟩
    · rw [lendH_out (fun m => ?_)]
      · exact (z.bs b o g).2
      · rcases of_cellsOf m with ⟨y, e⟩
        have ge : X.s_0.heap.objs.size ≤ b := I1.ok.cab y b (hfn y) e
        exact Nat.lt_irrefl _ (Nat.lt_of_lt_of_le (Heap.lt_size g) (Nat.le_trans I1.ok.bsz ge))
    · rw [lendH_out (fun m2 => nf b m2 m)]
      exact z.frf b m
  refine wpAny_call (codeAny_mono (F.run X.A X.stack s1 _ ⟨us, []⟩ (us ++ ds) (vs ++ dvs) _ _ hr e0 (hb s1 us I1.kIn hl) r2 q) fun r s2 hq => ?_)
  match r, hq with
  | .error e, hq => exact False.elim hq
  | .ok (.ret u), hq =>
    rcases hq with ⟨v, H', os, bare, un, hok, rv, q⟩
    have fz := lend_frz un heldC
    exact I1.after ⟨v, _, os, bare, un_lend un hok no nf (fun c m => let ⟨v, o, g, _⟩ := heldC c m; ⟨o, g⟩), hok_del hok fz, rv, q⟩
  | .ok .next, hq => exact False.elim hq
  | .ok .brk, hq => exact False.elim hq
  | .ok .cont, hq => exact False.elim hq
end
end Nc

/-! Own rules: lambdas that are made and kept, with a default or without. -/
namespace Nc
open PySem PySem.Spec PyProof.Rows L2 LamX
section
variable {X : Cx} {pins : List (Addr × Obj)} {σ : L2.St} {H : Hp} {s : Shared}
theorem lam_tail {T : List (Addr × Str)} {c P : Addr} {params : Arguments} {body : Expr} {scope : Scope} {pos : Pos} {fl : Nat} {dV : Value} {E : Value → Shared → Prop} {Q : Value → Shared → Prop} (I : Inv X pins σ H s) (TB : TabB X.base X.mg c P) (hcode : X.env.code = .ref c)
    (hm : (P, X.env.qual ++ "<lambda>") ∈ T) (hu : ∀ p ∈ T, p.1 = P → p.2 = X.env.qual ++ "<lambda>") (hT : Tabs T H) (hfree : ∀ y ∈ scope.names, y.2 = .free → ∃ c, X.env.cells.lookup y.1 = some c)
    (h : ∀ (f c' : Addr) (doc pm ctv : Value) (H1 : Hp) (s' : Shared), Inv X pins σ H1 s' → ExtN H H1 → Tabs T H1 → H f = none → H1 f = some (LamO f (lamOb X params body scope dV doc pm ctv c')) → H1 c' = some (CodeO c' (X.env.qual ++ "<lambda>")) → Q (.ref f) s') :
    wpAny (model X.prog X.w) X.A (makeTail "<lambda>" (X.env.qual ++ "<lambda>") params (.expr body) scope X.env dV .none none pos fl) Q E s := by
  rcases hT _ hm with ⟨ps, atP, tri, among⟩
  have tabP : s.heap.get? P = some { cls := .none, data := .fields ps } := I.hok P _ atP
  have blt : s.heap.BuiltinsAt X.mg P := TB.bm.keeps I.bk
  have last : ∀ (H2 : Hp) (h2 : Heap) (t2 : Nat) (doc pm ctv : Value) (c' : Addr), Inv X pins σ H2 { s with heap := h2, toks := t2 } → ExtN H H2 → Tabs T H2 → s.heap.objs.size ≤ h2.objs.size → H2 c' = some (CodeO c' (X.env.qual ++ "<lambda>")) →
      Q (.ref h2.objs.size) { s with heap := h2.push (lamOb X params body scope dV doc pm ctv c'), toks := t2 } := fun H2 h2 t2 doc pm ctv c' I2 e2 T2 le co => by
    have n2 : H2 h2.objs.size = none := I2.hok.fresh (Nat.le_refl _)
    have grow : ∀ b o, H2 b = some o → upd H2 h2.objs.size (LamO h2.objs.size (lamOb X params body scope dV doc pm ctv c')) b = some o := fun b o z => by
      rw [upd_ne (ne_of_none z n2)]
      exact z
    have I3 := I2.laid (t' := t2) (a := h2.objs.size) (o := LamO h2.objs.size (lamOb X params body scope dV doc pm ctv c')) (h' := h2.push (lamOb X params body scope dV doc pm ctv c')) (fun b o z => Heap.get?_push_of_some _ z) (Nat.le_refl _) (lamO_ok (Heap.get?_push_size _ rfl))
    exact h h2.objs.size c' doc pm ctv _ _ I3 (e2.trans (ExtN.of grow)) (T2.ext grow) (I.hok.fresh le) upd_same (grow _ _ co)
  cases hc : codeAmong pos ps.toList with
  | some cv =>
    rcases among pos cv hc with ⟨c', rfl, co⟩
    exact PySem.W.kdv_makeTailHit (mg := X.mg) (c := c) (P := P) (ps := ps) (closure_ok hfree) I.ok.glob (I.mod.glob.keeps I.bk) hcode (TB.code.keeps I.bk) tabP tri hc blt fun ctv doc h2 t2 old le =>
      last H h2 t2 doc _ ctv c' (I.kept old) (ExtN.refl H) hT le co
  | none =>
    refine PySem.W.kdv_makeTail (mg := X.mg) (c := c) (P := P) (ps := ps) (closure_ok hfree) I.ok.glob (I.mod.glob.keeps I.bk) hcode (TB.code.keeps I.bk) tabP tri hc TB.gP blt fun c' ctv doc h2 t2 old ge lt rec tab => ?_
    have I2 : Inv X pins σ (upd (upd H P (.tbl (ps ++ #[rawInt pos.line, rawInt pos.col, .ref c']))) c' (CodeO c' (X.env.qual ++ "<lambda>"))) { s with heap := h2, toks := t2 } :=
      inv_table (more := #[rawInt pos.line, rawInt pos.col, .ref c']) I atP old tab ge (let ⟨_, oc, vs, t, e, g, d, v⟩ := rec; ⟨oc, vs, t, by cases e; exact g, d, v⟩)
    have nc : H c' = none := I.hok.fresh ge
    have nPc : P ≠ c' := ne_of_none atP nc
    have ext : ExtN H (upd (upd H P (.tbl (ps ++ #[rawInt pos.line, rawInt pos.col, .ref c']))) c' (CodeO c' (X.env.qual ++ "<lambda>"))) := fun b o e n => by
      have nb : b ≠ P := fun z => by
        rw [z, atP] at e
        exact n ps (Option.some.inj e).symm
      rw [upd_ne (ne_of_none e nc), upd_ne nb]
      exact e
    refine last _ h2 t2 doc _ ctv c' I2 ext (fun p hp => ?_) (Nat.le_trans ge (Nat.le_of_lt lt)) upd_same
    by_cases same : p.1 = P
    · have lst : (ps ++ #[rawInt pos.line, rawInt pos.col, Value.ref c']).toList = ps.toList ++ [rawInt pos.line, rawInt pos.col, .ref c'] := by simp
      rw [hu p hp same, same]
      refine ⟨_, by rw [upd_ne nPc, upd_same], by rw [lst]; exact PySem.TriplesOk_snoc _ _ _ _ tri, fun p2 cv found => ?_⟩
      rw [lst] at found
      rcases among_app _ tri found with z | z
      · rcases among p2 cv z with ⟨c0, e1, e2⟩
        exact ⟨c0, e1, ext _ _ e2 codeO_ne⟩
      · exact ⟨c', z, upd_same⟩
    · rcases hT p hp with ⟨qs, a1, a2, a3⟩
      refine ⟨qs, by rw [upd_ne (ne_of_none a1 nc), upd_ne same]; exact a1, a2, fun p2 cv found => ?_⟩
      rcases a3 p2 cv found with ⟨c0, e1, e2⟩
      exact ⟨c0, e1, ext _ _ e2 codeO_ne⟩
/-- lambda x=d: body -/
def tLamD (X : Cx) (T : List (Addr × Str)) (params : Arguments) (body : Expr) (scope : Scope) (te : TE) : TE := fun σ H Q => te σ H fun y H0 => Tabs T H0 ∧ ∀ (f c' t : Addr) (u doc pm ctv : Value) (H1 : Hp), RelV y u → ExtN H0 H1 → Tabs T H1 → H0 f = none →
  H1 f = some (LamO f (lamOb X params body scope (.ref t) doc pm ctv c')) → H1 c' = some (CodeO c' (X.env.qual ++ "<lambda>")) → H1 t = some (LamO t (PySem.W.kdv_tup [u])) → Q (.ref f) H1
theorem pe_lamD {T : List (Addr × Str)} {c P : Addr} {params : Arguments} {d body : Expr} {scope : Scope} {pos : Pos} {te : TE} (TB : TabB X.base X.mg c P) (hcode : X.env.code = .ref c) (hm : (P, X.env.qual ++ "<lambda>") ∈ T) (hu : ∀ p ∈ T, p.1 = P → p.2 = X.env.qual ++ "<lambda>")
    (L : LamP X.N X.env.scope scope) (hdef : params.defaults = [d]) (hkw : params.kw_defaults = []) (he : PE X d te) : PE X (.Lambda params body scope pos) (tLamD X T params body scope te) :=
  ⟨fun pins s σ H Q I h => by
    refine PySem.W.kdv_lam (by rw [hdef]; rfl) hkw ?_
    rw [hdef]
    refine PySem.W.kdv_all1 (thn (he.run pins s σ H _ I h) fun u s1 ⟨y, H0, I0, r, hT, h⟩ => PySem.W.kdv_all0 ?_)
    rw [makeFunction_eq]
    simp only [List.zip_nil_right, List.filterMap_nil, List.isEmpty_nil, if_true, pure_bind, List.isEmpty_cons, Bool.false_eq_true, if_false]
    refine wpAny_bind (wpAny_newTextTuple ?_)
    have nt : H0 s1.heap.objs.size = none := I0.hok.fresh (Nat.le_refl _)
    have grow : ∀ b o, H0 b = some o → upd H0 s1.heap.objs.size (LamO s1.heap.objs.size (PySem.W.kdv_tup [u])) b = some o := fun b o z => by
      rw [upd_ne (ne_of_none z nt)]
      exact z
    have I1 := I0.laid (t' := s1.toks) (a := s1.heap.objs.size) (o := LamO s1.heap.objs.size (PySem.W.kdv_tup [u])) (h' := s1.heap.push (PySem.W.kdv_tup [u])) (fun b o z => Heap.get?_push_of_some _ z) (Nat.le_refl _) (lamO_ok (Heap.get?_push_size _ rfl))
    refine lam_tail I1 TB hcode hm hu (hT.ext grow) (L.has (XSt.of I1)) fun f c' doc pm ctv H1 s' I2 e2 T2 nf lf co => ?_
    refine ⟨.ref f, H1, I2, rfl, h f c' _ u doc pm ctv H1 r ((ExtN.of grow).trans e2) T2 ?_ lf co (e2 _ _ upd_same (lamO_tbl))⟩
    cases z : H0 f with
    | none => rfl
    | some o =>
      rw [grow f o z] at nf
      cases nf⟩
/-- lambda: body -/
def tLamN (X : Cx) (T : List (Addr × Str)) (params : Arguments) (body : Expr) (scope : Scope) : TE := fun σ H Q => Tabs T H ∧ ∀ (f c' : Addr) (doc pm ctv : Value) (H1 : Hp), ExtN H H1 → Tabs T H1 → H f = none →
  H1 f = some (LamO f (lamOb X params body scope .none doc pm ctv c')) → H1 c' = some (CodeO c' (X.env.qual ++ "<lambda>")) → Q (.ref f) H1
theorem pe_lamN {T : List (Addr × Str)} {c P : Addr} {params : Arguments} {body : Expr} {scope : Scope} {pos : Pos} (TB : TabB X.base X.mg c P) (hcode : X.env.code = .ref c) (hm : (P, X.env.qual ++ "<lambda>") ∈ T) (hu : ∀ p ∈ T, p.1 = P → p.2 = X.env.qual ++ "<lambda>")
    (L : LamP X.N X.env.scope scope) (hdef : defaultsOf params X.env = ([], [])) : PE X (.Lambda params body scope pos) (tLamN X T params body scope) :=
  ⟨fun pins s σ H Q I h => by
    refine PySem.W.kla_eval hdef ?_
    rw [makeFunction_eq]
    simp only [List.zip_nil_right, List.filterMap_nil, List.isEmpty_nil, if_true, pure_bind]
    exact lam_tail I TB hcode hm hu h.1 (L.has (XSt.of I)) fun f c' doc pm ctv H1 s' I2 e2 T2 nf lf co => ⟨.ref f, H1, I2, rfl, h.2 f c' doc pm ctv H1 e2 T2 nf lf co⟩⟩
end
end Nc

/-! Own rules: a() of what was kept, within a try. -/
namespace Nc
open PySem PySem.Spec PyProof.Rows L2 LamX
theorem pe_callT {Z : Cx} {k i : Nat} {a : Str} {W : WX} {p1 p2 : Pos} (tk : Takes Z W) (hr : Room k Z.A) (hN : Z.N[i]? = some a) (hv : Vis Z.env.scope a) (hd : (a == ("__debug__" : Str)) = false := by decide) (hcd : (a == ("__classdict__" : Str)) = false := by decide) :
    PE Z (.Call (.Name a p1) [] [] p2) (fun σ H Q => ∃ (E : XK) (f : Addr) (fd : FuncData) (tl : XK → Hp → VK → Prop), (∀ cls d H', E cls d H' → W cls d σ H') ∧ σ[i]? = some (some (.ref f)) ∧ H f = some (LamO f { cls := .type "function", data := .func fd }) ∧ KCall Z.prog Z.w Z.K Z.mg Z.base k f tl ∧ tl E H Q) :=
  ⟨fun pins s σ H Q I w => by
    rcases w with ⟨E, f, fd, tl, hW, at_, hf, kc, h⟩
    refine wpAny_Call_Name_kw (thn ((pe_var (pos := p1) (i := i) hN hv hd hcd).run pins s σ H (fun v H1 => v = .ref f ∧ H1 = H) I ⟨.ref f, at_, rfl, rfl⟩) fun u s1 w1 => ?_)
    rcases w1 with ⟨v, H1, I1, r1, rfl, rfl⟩
    cases r1
    have obj := lamO_at I1.hok hf
    refine PySem.W.callWith_F0 ⟨_, _, _, _, obj⟩ (wpAny_call (codeAny_mono (kc Z.A Z.stack s1 _ Q E hr I1.env0 h) fun r s2 q => ?_))
    match r, q with
    | .error e, q => exact tk e s2 (XE.of_call I1 (fun cls d H' h => hW cls d H' h) q)
    | .ok (.ret u), q => exact I1.after q
    | .ok .next, q => exact False.elim q
    | .ok .brk, q => exact False.elim q
    | .ok .cont, q => exact False.elim q⟩
/-- a kept lambda that raises InvalidBound(due), or NoCircle for "circle"; all else stands -/
def ErrIs (IB NC : Addr) (due : Str) (cls : Value) (d : Option Addr) (H : Hp) : Prop := (cls = .ref IB ∧ ∃ dd, d = some dd ∧ H dd = some (.xd [("argument", .str due)])) ∨ (cls = .ref NC ∧ due = "circle")
def Raiser (P : Program) (w : World) (K : PySem.W.Frag) (mg : Str → Option Value) (base : Heap) (IB NC : Addr) (k : Nat) (f : Addr) (H : Hp) (due : Str) : Prop := ∃ (fd : FuncData) (tl : XK → Hp → VK → Prop),
  H f = some (LamO f { cls := .type "function", data := .func fd }) ∧ KCall P w K mg base k f tl ∧ ∀ H1, Same H H1 → ∀ (E : XK) (Q : VK), (∀ cls d H', Same H1 H' → ErrIs IB NC due cls d H' → E cls d H') → tl E H1 Q
theorem Raiser.same {P : Program} {w : World} {K : PySem.W.Frag} {mg : Str → Option Value} {base : Heap} {IB NC : Addr} {k : Nat} {f : Addr} {H H' : Hp} {due : Str} (s : Same H H') (r : Raiser P w K mg base IB NC k f H due) : Raiser P w K mg base IB NC k f H' due :=
  let ⟨fd, tl, a, b, c⟩ := r; ⟨fd, tl, s _ _ a, b, fun H1 s1 => c H1 (s.trans s1)⟩
section
variable {X : Cx} {σ : L2.St} {H1 H2 : Hp} {IB NC : Addr} {due : Str}
theorem same_put {cs : List Addr} {H H' : Hp} (k : Same (delC cs H) H') : Same H (putC cs H H') := fun b o e => by
  by_cases m : b ∈ cs
  · rw [putC_in m]
    exact e
  · rw [putC_out m]
    exact k b o (by rw [delC_out m]; exact e)
theorem err_put {cs : List Addr} {H H' : Hp} {cls : Value} {d : Option Addr} (n : ∀ c ∈ cs, H' c = none) (e : ErrIs IB NC due cls d H') : ErrIs IB NC due cls d (putC cs H H') := by
  rcases e with ⟨rfl, dd, rfl, e⟩ | ⟨rfl, rfl⟩
  · refine .inl ⟨rfl, dd, rfl, ?_⟩
    rw [putC_out fun m => by rw [n dd m] at e; cases e]
    exact e
  · exact .inr ⟨rfl, rfl⟩
/-- a lambda whose body raises, whatever has come -/
theorem raiserL {params : Arguments} {body : Expr} {scope : Scope} {dV doc pm ctv : Value} {f c' : Addr} {binds : List (Str × Value)} {k : Nat} {Hd : Hp → Prop} {tb : XK → TE} (xs : XSt X σ) (L : LamP X.N X.env.scope scope)
    (hbind : ∀ (H : Hp) (s : Shared), Hd H → HOk X.prog X.w H s.heap → BindsTo s (PySem.W.kdv_fn "<lambda>" (X.env.qual ++ "<lambda>") params (.expr body) scope (cloFrom X.env.cells scope.names []) dV doc pm (.ref c') ctv) ⟨[], []⟩ binds)
    (hloc : ∀ y ∈ binds, scope.names.lookup y.1 = some .local)
    (hbody : ∀ (A : Around) (outer : List Env) (s : Shared) (H : Hp) (E : XK), Room k (A.deeper (lamEnv X scope s.heap.objs.size f c')) → PE (lamCx X A outer s H E scope f c') body (tb E))
    (hf : H2 f = some (LamO f (lamOb X params body scope dV doc pm ctv c'))) (hc : H2 c' = some (CodeO c' (X.env.qual ++ "<lambda>"))) (hd : ∀ H3, Same H2 H3 → Hd H3) (le : Lent X σ H2) (back : ∀ H3, Same H2 H3 → Same H1 (delC (cellsOf X) H3))
    (rd : ∀ (H4 : Hp) (E : XK) (Q : VK), Same H1 H4 → (∀ cls d H', Same H4 H' → ErrIs IB NC due cls d H' → E cls d H') → tb E σ H4 Q) : Raiser X.prog X.w X.K X.mg X.base IB NC (k + 1) f H2 due :=
  ⟨_, _, hf, lam_kcall xs L hbind hloc hbody, fun H3 s3 E Q hE => ⟨s3 _ _ hf, s3 _ _ hc, hd _ s3, le.same s3, rd _ _ _ (back _ s3) fun cls d H' sm e n => hE cls d _ (same_put sm) (err_put n e)⟩⟩
/-- .. without defaults -/
theorem raiserN {params : Arguments} {body : Expr} {scope : Scope} {doc pm ctv : Value} {f c' : Addr} {k : Nat} {tb : XK → TE} (xs : XSt X σ) (L : LamP X.N X.env.scope scope)
    (hbind : bindArgs (PySem.W.kdv_fn "<lambda>" (X.env.qual ++ "<lambda>") params (.expr body) scope (cloFrom X.env.cells scope.names []) .none doc pm (.ref c') ctv) ⟨[], []⟩ = pure [])
    (hbody : ∀ (A : Around) (outer : List Env) (s : Shared) (H : Hp) (E : XK), Room k (A.deeper (lamEnv X scope s.heap.objs.size f c')) → PE (lamCx X A outer s H E scope f c') body (tb E))
    (hf : H2 f = some (LamO f (lamOb X params body scope .none doc pm ctv c'))) (hc : H2 c' = some (CodeO c' (X.env.qual ++ "<lambda>"))) (le : Lent X σ H2) (back : ∀ H3, Same H2 H3 → Same H1 (delC (cellsOf X) H3))
    (rd : ∀ (H4 : Hp) (E : XK) (Q : VK), Same H1 H4 → (∀ cls d H', Same H4 H' → ErrIs IB NC due cls d H' → E cls d H') → tb E σ H4 Q) : Raiser X.prog X.w X.K X.mg X.base IB NC (k + 1) f H2 due :=
  raiserL (binds := []) (Hd := fun _ => True) xs L (fun _ _ _ _ => .of_eq hbind) (fun y m => absurd m (by simp)) hbody hf hc (fun _ _ => True.intro) le back rd
/-- .. with one default -/
theorem raiserD {params : Arguments} {body : Expr} {scope : Scope} {u doc pm ctv : Value} {f c' t : Addr} {x : Str} {k : Nat} {kk : Option (Array Value) → Sem (List (Str × Value))} {tb : XK → TE} (xs : XSt X σ) (L : LamP X.N X.env.scope scope)
    (h₁ : bindArgs (PySem.W.kdv_fn "<lambda>" (X.env.qual ++ "<lambda>") params (.expr body) scope (cloFrom X.env.cells scope.names []) (.ref t) doc pm (.ref c') ctv) ⟨[], []⟩ = seqItems? (.ref t) >>= kk) (h₂ : kk (some [u].toArray) = pure [(x, u)]) (hx : scope.names.lookup x = some .local)
    (hbody : ∀ (A : Around) (outer : List Env) (s : Shared) (H : Hp) (E : XK), Room k (A.deeper (lamEnv X scope s.heap.objs.size f c')) → PE (lamCx X A outer s H E scope f c') body (tb E))
    (hf : H2 f = some (LamO f (lamOb X params body scope (.ref t) doc pm ctv c'))) (hc : H2 c' = some (CodeO c' (X.env.qual ++ "<lambda>"))) (ht : H2 t = some (LamO t (PySem.W.kdv_tup [u]))) (le : Lent X σ H2) (back : ∀ H3, Same H2 H3 → Same H1 (delC (cellsOf X) H3))
    (rd : ∀ (H4 : Hp) (E : XK) (Q : VK), Same H1 H4 → (∀ cls d H', Same H4 H' → ErrIs IB NC due cls d H' → E cls d H') → tb E σ H4 Q) : Raiser X.prog X.w X.K X.mg X.base IB NC (k + 1) f H2 due :=
  raiserL (binds := [(x, u)]) (Hd := fun H => H t = some (LamO t (PySem.W.kdv_tup [u]))) xs L (fun H s hd hok => .of_defaults rfl (lamO_at hok hd) rfl h₁ h₂) (fun y m => by rw [List.mem_singleton.mp m]; exact hx) hbody hf hc (fun H3 s3 => s3 _ _ ht) le back rd
end
end Nc

/-! Own rules: a def of the text with all that a caller needs, in one. -/
namespace Nc
open PySem PySem.Spec PyProof.Rows L2
/-- the def x as it stands behind the top -/
structure Df (K : PySem.W.Frag) (mg : Str → Option Value) (x : Str) (st : Stmt) (ps : List Str) : Prop where
  ex : ∃ (f : Addr) (fd : FuncData), Fun K x x st f fd ∧ mg x = some (.ref f) ∧ PySem.W.keepIn K (.ref f) = true ∧ Binds K fd ps []
/-- the def x keeps its promise -/
structure Cl (P : Program) (w : World) (K : PySem.W.Frag) (mg : Str → Option Value) (base : Heap) (CX : CXT) (x : Str) (k : Nat) (ps : List Str) (sp : Sp) : Prop where
  ex : ∃ (f : Addr) (fd : FuncData), FnOk P w K mg base CX k f fd ps sp ∧ mg x = some (.ref f) ∧ PySem.W.keepIn K (.ref f) = true ∧ Binds K fd ps []
section
variable {P : Program} {w : World} {K : PySem.W.Frag} {mg : Str → Option Value} {base : Heap} {CX : CXT} {x : Str} {k : Nat} {ps : List Str} {sp : Sp} {st : Stmt}
theorem Df.mk' {f : Addr} {fd : FuncData} (F : Fun K x x st f fd) (g : mg x = some (.ref f)) (k : PySem.W.keepIn K (.ref f) = true) (b : Binds K fd ps []) : Df K mg x st ps := ⟨f, fd, F, g, k, b⟩
theorem Df.cl (D : Df K mg x st ps) (h : ∀ f fd, Fun K x x st f fd → FnOk P w K mg base CX k f fd ps sp) : Cl P w K mg base CX x k ps sp := by
  obtain ⟨f, fd, F, g, kk, b⟩ := D.ex
  exact ⟨f, fd, h f fd F, g, kk, b⟩
theorem Cl.imp {sp' : Sp} (C : Cl P w K mg base CX x k ps sp) (h : ∀ vs H Q E, sp' vs H Q E → sp vs H Q E) : Cl P w K mg base CX x k ps sp' := by
  obtain ⟨f, fd, F, g, kk, b⟩ := C.ex
  exact ⟨f, fd, F.imp h, g, kk, b⟩
theorem Cl.up {j : Nat} (C : Cl P w K mg base CX x j ps sp) (h : j ≤ k) : Cl P w K mg base CX x k ps sp := by
  obtain ⟨f, fd, F, g, kk, b⟩ := C.ex
  exact ⟨f, fd, F.mono h, g, kk, b⟩
end
section
variable {X : Cx} {CX : CXT} {k : Nat} {ps : List Str} {sp : Sp} {E : XK} {x : Str} {p pos : Pos} {e : Expr} {es : List Expr} {t : TA}
theorem pe_cl (C : Cl X.prog X.w X.K X.mg X.base CX x k ps sp) (hr : Room k X.A) (hg : Gl X x) (hx : Passes CX X E) (ha : PA X (e :: es) t) (hdb : (x == ("__debug__" : Str)) = false := by decide) (he : starEach (e :: es) X.env = (false, eval e X.env) :: starEach es X.env := by rfl) (hpl : (backTo pos (starEach es X.env)).any (·.1) = false := by rfl) :
    PE X (.Call (.Name x p) (e :: es) [] pos) (tCall sp [] E t) := by
  obtain ⟨f, fd, F, g, kk, b⟩ := C.ex
  exact pe_call F hr hg g kk b .nil hx ha hdb he hpl
theorem pe_cl0 (C : Cl X.prog X.w X.K X.mg X.base CX x k ps sp) (hr : Room k X.A) (hg : Gl X x) (hx : Passes CX X E) (hdb : (x == ("__debug__" : Str)) = false := by decide) : PE X (.Call (.Name x p) [] [] pos) (tCall sp [] E tNil) := by
  obtain ⟨f, fd, F, g, kk, b⟩ := C.ex
  exact pe_call0 F hr hg g kk b .nil hx hdb
end
/-! ### tuples of ints that are compared -/
section
variable {K : PySem.W.Frag} {H : Hp} {Q : VK} {p q : Addr} {ns ms : List Int}
theorem dpa_ints : ∀ (ns : List Int), DpAll K H (ns.map V.int) (ns.map PyData.int)
  | [] => .nil
  | n :: ns => .cons (.int n) (dpa_ints ns)
theorem dp_ints (h : H p = some (.tup (ns.map V.int))) : Dp K H (.ref p) (.tuple (ns.map PyData.int)) := .tup (SqT.of h) (dpa_ints ns)
theorem dpl_ints (h : H p = some (.lst (ns.map V.int))) : Dp K H (.ref p) (.list (ns.map PyData.int)) := .lst (SqL.of h) (dpa_ints ns)
theorem eqva_ints : ∀ (ns ms : List Int), PyData.eqvAll (ns.map PyData.int) (ms.map PyData.int) = decide (ns = ms)
  | [], [] => rfl
  | [], m :: ms => rfl
  | n :: ns, [] => rfl
  | n :: ns, m :: ms => by
    have ih := eqva_ints ns ms
    simp only [List.map_cons, PyData.eqvAll, PyData.eqv]
    rw [ih]
    by_cases e : n = m
    · subst e
      simp
    · simp [e]
theorem eqv_ints (ns ms : List Int) : PyData.eqv (.tuple (ns.map PyData.int)) (.tuple (ms.map PyData.int)) = decide (ns = ms) := by
  rw [← eqva_ints ns ms]
  simp only [PyData.eqv]
theorem shaped_all : ∀ ns : List Int, PyData.canLayAll0 (ns.map PyData.int) = true ∧ PyData.depthAll (ns.map PyData.int) = 0
  | [] => ⟨rfl, rfl⟩
  | n :: ns => by
    obtain ⟨h1, h2⟩ := shaped_all ns
    simp only [List.map_cons, PyData.canLayAll0, PyData.canLay0, PyData.depthAll, PyData.depth, h1, h2]
    exact ⟨rfl, rfl⟩
theorem shaped_ints (ns : List Int) : SeqAt.shaped (.tuple (ns.map PyData.int)) = true := by
  obtain ⟨h1, h2⟩ := shaped_all ns
  simp only [SeqAt.shaped, PyData.canLay0, PyData.depth, h1, h2]
  rfl
theorem shapedl_ints (ns : List Int) : SeqAt.shaped (.list (ns.map PyData.int)) = true := by
  obtain ⟨h1, h2⟩ := shaped_all ns
  simp only [SeqAt.shaped, PyData.canLay0, PyData.depth, h1, h2]
  rfl
/-- two tuples of ints, a != b, a == b -/
theorem w_neT (h : H p = some (.tup (ns.map V.int))) (h2 : H q = some (.tup (ms.map V.int))) (z : Q (.bl (!decide (ns = ms))) H) : rNeD K (.ref p) (.ref q) H Q := ⟨_, _, dp_ints h, dp_ints h2, shaped_ints _, shaped_ints _, by rw [eqv_ints]; exact z⟩
theorem w_eqT (h : H p = some (.tup (ns.map V.int))) (h2 : H q = some (.tup (ms.map V.int))) (z : Q (.bl (decide (ns = ms))) H) : rEqD K (.ref p) (.ref q) H Q := ⟨_, _, dp_ints h, dp_ints h2, shaped_ints _, shaped_ints _, by rw [eqv_ints]; exact z⟩
theorem w_neT' (h : H p = some (.tup (ns.map V.int))) (h2 : H q = some (.tup (ms.map V.int))) (e : ns = ms) (z : Q (.bl false) H) : rNeD K (.ref p) (.ref q) H Q := w_neT h h2 (by rw [decide_eq_true e]; exact z)
theorem w_eqT' (h : H p = some (.tup (ns.map V.int))) (h2 : H q = some (.tup (ms.map V.int))) (e : ns = ms) (z : Q (.bl true) H) : rEqD K (.ref p) (.ref q) H Q := w_eqT h h2 (by rw [decide_eq_true e]; exact z)
theorem eqvl_ints (ns ms : List Int) : PyData.eqv (.list (ns.map PyData.int)) (.list (ms.map PyData.int)) = decide (ns = ms) := by
  rw [← eqva_ints ns ms]
  simp only [PyData.eqv]
end
section
theorem all_flat (zs : List Int) : (zs.map V.int).all flatV = true := by
  induction zs with
  | nil => rfl
  | cons z zs ih => simpa [flatV] using ih
theorem inV_ints (z : Int) (zs : List Int) : inV (V.int z) (zs.map V.int) = decide (z ∈ zs) := by
  induction zs with
  | nil => rfl
  | cons y zs ih =>
    unfold inV at *
    rw [List.map_cons, List.any_cons, ih]
    simp [eqV]
    by_cases h : y = z
    · subst h; simp
    · have : ¬ z = y := fun e => h e.symm
      simp [h, this]
theorem int_at {zs : List Int} {i : Nat} {x : V} (h : (zs.map V.int)[i]? = some x) : ∃ z, zs[i]? = some z ∧ x = .int z := by
  rw [List.getElem?_map] at h
  obtain ⟨z, e, e2⟩ := Option.map_eq_some_iff.mp h
  exact ⟨z, e, e2.symm⟩
end
end Nc

/-! Own rules: sets of tuples of ints: set(), t in s (not there), s.add(t), len(s). -/
namespace Nc
open PySem PySem.Spec PyProof.Rows L2
def run0 (m : Nat) (h : Int) : SetTable.Probe := runAt m (SetTable.bits h % (m + 1)) (SetTable.bits h)
theorem dummy_nth (m : Nat) : ∀ (n : Nat) (p : SetTable.Probe), p.dummy = none → (nth m p n).dummy = none
  | 0, _, e => e
  | n + 1, p, e => dummy_nth m n (adv m p) (by unfold adv; split <;> exact e)
section
variable {P : Program} {w : World} {A : Around} {E : Value → Shared → Prop} {s : Shared} {a : Addr} {L : List (Addr × List Int)} {es : Array (Int × Value)} {ep : Nat} {t : SetTable}
abbrev hashOf (es : Array (Int × Value)) : Nat → Int := fun i => (es[i]?.map (·.1)).getD 0
/-- from the c-th place of the way on, of a key that isn't there -/
theorem probe_free (R : SetTR P w s.heap a L es ep t) {h : Int} {K c : Nat} (far : K < 10 * SetTable.turns t.mask) (free : way t.mask h K ∉ t.place.toList) (full : ∀ d, d < K → way t.mask h d ∈ t.place.toList) (le : c ≤ K) :
    (∃ q i p, c + q < K ∧ L[i]? = some p ∧ t.place.toList[i]? = some (way t.mask h (c + q)) ∧ t.probe (hashOf es) h (nth t.mask (run0 t.mask h) c) = some (.candidate (way t.mask h (c + q)) i (nth t.mask (run0 t.mask h) (c + q + 1)))) ∨
    t.probe (hashOf es) h (nth t.mask (run0 t.mask h) c) = some (.empty (way t.mask h K) none) := by
  have sh : ∀ q, nth t.mask (nth t.mask (run0 t.mask h) c) q = nth t.mask (run0 t.mask h) (c + q) := fun q => (nth_add t.mask c _ q).symm
  have wj : ∀ q, (nth t.mask (nth t.mask (run0 t.mask h) c) q).j = way t.mask h (c + q) := fun q => congrArg SetTable.Probe.j (sh q)
  have back : c + (K - c) = K := by omega
  rcases go_spec t R.tab.ris R.tab.dm (hashOf es) h (10 * SetTable.turns t.mask) (K - c) (nth t.mask (run0 t.mask h) c) (dummy_nth _ _ _ rfl) (by omega) (fun q hq => by rw [wj]; exact full _ (by omega)) (by rw [wj, back]; exact free) with ⟨q, i, hq, hi, _, _, e⟩ | ⟨_, e⟩
  · rw [wj] at hi
    have il : i < L.length := by
      have l1 : i < t.place.toList.length := (List.getElem?_eq_some_iff.mp hi).1
      have l2 := R.tab.sz
      rw [List.length_map] at l2
      rw [Array.length_toList, l2] at l1
      exact l1
    refine .inl ⟨q, i, L[i], by omega, List.getElem?_eq_getElem il, hi, ?_⟩
    rw [wj, sh] at e
    exact e
  · rw [wj, back] at e
    exact .inr e
theorem mem_at {α : Type} {l : List α} {i : Nat} {p : α} (e : l[i]? = some p) : p ∈ l := List.mem_of_getElem? e
/-- a search for what isn't there ends at the free place -/
theorem search_free (R : SetTR P w s.heap a L es ep t) {x : Addr} {k : List Int} (hx : IsT P w s.heap k x) (room : A.units < cLine) (out : k ∉ L.map (·.2)) {K : Nat} (far : K < 10 * SetTable.turns t.mask)
    (free : way t.mask (thash P w k) K ∉ t.place.toList) (full : ∀ d, d < K → way t.mask (thash P w k) d ∈ t.place.toList) {Q : SetFound → Shared → Prop} (q : ∀ j, Q (.free j false) s) :
    ∀ (f c : Nat) (stand : Option SetTable.Probe), stand.getD (t.probeStart (thash P w k)) = nth t.mask (run0 t.mask (thash P w k)) c → c ≤ K → K < c + f →
      wpAny (model P w) A (setSearchFrom a (.ref x) (thash P w k) false f stand) Q E s := by
  obtain ⟨o, ho, _, hd⟩ := R.ob
  intro f
  induction f with
  | zero =>
    intro c stand _ le lt
    exact absurd lt (by omega)
  | succ f ih =>
    intro c stand e le lt
    rw [setSearchFrom_succ]
    refine wpAny_bind (wpAny_setState_of ho hd R.fits ?_)
    dsimp only
    refine wp_if_neg R.gw ?_
    try refine wpAny_bind (wpAny_pure ?_)
    rw [e]
    rcases probe_free R far free full le with ⟨m, i, p, lt2, at_, pl, z⟩ | z
    · rw [z]
      dsimp only
      have hp := R.tup p (mem_at at_)
      have ne : p.2 ≠ k := fun b => out (List.mem_map.mpr ⟨p, mem_at at_, b⟩)
      have go : wpAny (model P w) A (searchRest a (.ref x) (thash P w k) false f es t (way t.mask (thash P w k) (c + m)) i (nth t.mask (run0 t.mask (thash P w k)) (c + m + 1))) Q E s := by
        unfold searchRest
        rw [R.entry at_]
        dsimp only
        refine wpAny_bind (wpAny_holding (wpAny_eqBool_tuple room hp hx ?_))
        refine wpAny_bind (wpAny_setState_of ho hd R.fits ?_)
        dsimp only
        refine wp_if_neg Bool.false_ne_true ?_
        try refine wpAny_bind (wpAny_pure ?_)
        rw [sameMem]
        dsimp only
        simp only [if_true, slot_live R.tab.ris pl, R.entry at_]
        refine wpAny_bind (wpAny_isSame_ref_self (wpAny_bind (wpAny_pure ?_)))
        simp only [if_true]
        refine wp_if_neg (by simp [ne]) ?_
        exact ih (c + m + 1) _ rfl (by omega) (by omega)
      by_cases led : t.led = true
      · refine wp_if_neg (by simp [led]) ?_
        try refine wpAny_bind (wpAny_pure ?_)
        exact go
      · refine wp_if_pos (by simp [led]) ?_
        refine wpAny_bind (seen_tup hx (fun y my => ?_) ?_)
        · obtain ⟨r, mr, er⟩ := List.mem_map.mp my
          have m1 : r ∈ es ∧ r.1 = thash P w k := by simpa using mr
          have m2 : r ∈ es.toList := by simpa using m1.1
          rw [R.rows] at m2
          obtain ⟨u, mu, eu⟩ := List.mem_map.mp m2
          exact ⟨u.2, u.1, by rw [← er, ← eu], R.tup u mu⟩
        · refine wp_if_neg (by decide) ?_
          try refine wpAny_bind (wpAny_pure ?_)
          exact go
    · rw [z]
      dsimp only
      exact wpAny_pure (q _)
/-- the search that a membership asks for: nothing -/
theorem find_free (R : SetTR P w s.heap a L es ep t) {x : Addr} {k : List Int} (hx : IsT P w s.heap k x) (room : A.units < cLine) (out : k ∉ L.map (·.2)) {Q : Option Nat → Shared → Prop} (q : Q none s) :
    wpAny (model P w) A (setFind a (.ref x) (thash P w k)) Q E s := by
  obtain ⟨o, ho, _, hd⟩ := R.ob
  have far := R.room
  obtain ⟨K, k1, k2, k3⟩ := R.tab.first (by rw [List.length_map]; omega) (thash P w k)
  have big : 10 * SetTable.turns t.mask ≤ 1420 := by
    unfold SetTable.turns
    rcases R.tab.mok with e | e | e <;> omega
  unfold setFind; rw [show (100000 : Nat) = 99999 + 1 from rfl]; unfold setFindIn
  refine wpAny_bind (wpAny_setState_of ho hd R.fits ?_)
  dsimp only
  refine wp_if_neg (by simp [byScan, Value.scannable]) ?_
  try refine wpAny_bind (wpAny_pure ?_)
  unfold setSearch
  refine wpAny_bind (search_free R hx room out k1 k2 k3 (fun j => ?_) 100000 0 none rfl (Nat.zero_le _) (by omega))
  dsimp only
  exact wpAny_pure q
/-- t in s, t not there -/
theorem contains_free (R : SetTR P w s.heap a L es ep t) {x : Addr} {k : List Int} (hx : IsT P w s.heap k x) (room : A.units + 1 < cLine) (out : k ∉ L.map (·.2)) {Q : Value → Shared → Prop} (q : ∀ tk, Q (.bool false) { s with toks := tk }) :
    wpAny (model P w) A (compareOp .In (.ref x) (.ref a)) Q E s := by
  have ty : s.TypeIs (.ref a) "set" := let ⟨o, ho, hc, _⟩ := R.ob; ⟨o, ho, hc.1⟩
  show wpAny _ _ (do return .bool (← contains (.ref a) (.ref x))) Q E s
  refine wpAny_bind ?_; unfold contains; (try with_reducible refine wpAny_holding ?_); refine wpAny_bind (wpAny_specialOf ty F.slot_set_contains.lookup ?_)
  show wpAny _ _ (if (some (Value.builtin "set.__contains__") == some Value.none) = true then _ else _) _ E s
  rw [if_neg (by rw [beq_builtin_none]; decide)]
  refine wpAny_bind (wpAny_callSpecialUnlessNone?_slot (name := Str.ofString "__contains__") ty F.slot_set_contains (wpAny_call_entry F.slot_set_contains ty entry_set_contains ?_ (F.args_set_contains_2 _ _)))
  unfold Builtin.«frozenset.__contains__» Builtin.Frozenset.oneOther; simp only [List.isEmpty_nil, bind_assoc]; unfold Builtin.Frozenset.addrOf Builtin.Frozenset.withSetAsKey setContains
  refine wpAny_bind (wpAny_pure ?_); (try dsimp only); refine wpAny_bind (wpAny_pure ?_); (try dsimp only); refine wpAny_bind (wpAny_tryCatch (wpAny_holding ?_))
  refine wpAny_bind (wpAny_pyHash_tuple (by exact room) hx (wpAny_bind (find_free (s := { s with toks := s.toks + (k.length + 1) }) ⟨R.ob, R.rows, R.tab, R.nd, R.tup, R.plain, R.led, R.room, R.few⟩ hx (by exact room) out (wpAny_pure ?_))))
  show wpAny _ _ (ret (Value.bool false)) _ _ _
  exact wpAny_pure ⟨_, rfl, wpAny_truthy_bool (wpAny_pure (q _))⟩
/-- s.add(t) -/
theorem adds (R : SetTR P w s.heap a L es ep t) {x : Addr} {k : List Int} (hx : IsT P w s.heap k x) (room : A.units + 1 < cLine) (few : L.length + 1 < 64) {Q : Value → Shared → Prop}
    (q : ∀ h' L' es' ep' t' tk, Heap.SameBut a s.heap h' → SetTR P w h' a L' es' ep' t' → (k ∈ L.map (·.2) → L' = L) → (k ∉ L.map (·.2) → L'.Perm ((x, k) :: L)) → Q .none { s with heap := h', toks := tk }) :
    wpAny (model P w) A (call (.builtin "set.add") [.ref a, .ref x]) Q E s := by
  have ty : s.TypeIs (.ref a) "set" := let ⟨o, ho, hc, _⟩ := R.ob; ⟨o, ho, hc.1⟩
  refine wpAny_call_entry F.slot_set_add ty F.entry_set_add ?_ (F.args_set_add_2 _ _)
  unfold Builtin.«set.add» Builtin.Frozenset.oneOther; simp only [List.isEmpty_nil, bind_assoc]; unfold Builtin.Frozenset.addrOf setAdd
  refine wpAny_bind (wpAny_pure ?_); (try dsimp only); refine wpAny_bind (wpAny_pure ?_); (try dsimp only); refine wpAny_bind (wpAny_holding ?_)
  refine wpAny_bind (wpAny_pyHash_tuple (by exact room) hx ?_)
  refine add_at (s := { s with toks := s.toks + (k.length + 1) }) ⟨R.ob, R.rows, R.tab, R.nd, R.tup, R.plain, R.led, R.room, R.few⟩ hx (by exact room) few fun b h' L' es' ep' t' sb R' c1 c2 => ?_
  show wpAny _ _ (ret Value.none) _ _ _
  exact wpAny_pure ⟨_, rfl, q h' L' es' ep' t' _ sb R' c1 c2⟩
end
section
variable {X : Cx}
/-- set() -/
def rSet0T (P : Program) (w : World) : List V → Hp → VK → Prop := fun xs H Q => xs = [] ∧ ∀ p, H p = none → Q (.ref p) (upd H p (SetTO P w p []))
theorem cr_set0T : CallR X (.type "set") (rSet0T X.prog X.w) := by
  intro pins s σ H xs us Q I r h
  obtain ⟨rfl, q⟩ := h
  cases r
  refine setR_new fun _ => ?_
  have new : SetT0 X.prog X.w (s.heap.push { cls := .type "set", dict := none, data := .set #[] 0 (.fresh 0 0 (!X.w.params.followText "set-order")) }) s.heap.objs.size [] := (setTR_fresh (Heap.get?_push_size _ rfl)).t0
  exact ⟨.ref _, upd H s.heap.objs.size (SetTO X.prog X.w s.heap.objs.size []), I.laid (t' := s.toks) (fun b u e => Heap.get?_push_of_some _ e) (Nat.le_refl _) (setTO_new new), rfl, q _ (I.hok.fresh (Nat.le_refl _))⟩
/-- t in s, t a tuple of ints that isn't there -/
def rNotIn (K : PySem.W.Frag) (P : Program) (w : World) : V → V → Hp → VK → Prop := fun x y H Q => ∃ (b a : Addr) (k : List Int) (L : List (Addr × List Int)), x = .ref b ∧ y = .ref a ∧ SqT K H b (k.map V.int) ∧ H a = some (SetTO P w a L) ∧ (∀ p ∈ L, SqT K H p.1 (p.2.map V.int)) ∧ k ∉ L.map (·.2) ∧ Q (.bl false) H
theorem op_notIn (hu : X.A.units + 1 < cLine) : OpR X (compareOp .In) (rNotIn X.K X.prog X.w) := by
  intro pins s σ H x y v u Q I rx ry h
  obtain ⟨b, a, k, L, rfl, rfl, hb, ha, hL, out, q⟩ := h
  cases rx
  cases ry
  have R0 : SetT0 X.prog X.w s.heap a L := (I.hok a _ ha).1
  obtain ⟨es, ep, t, R⟩ := R0.full fun p hp => I.isT (hL p hp)
  exact contains_free R (I.isT hb) hu out fun tk => ⟨.bl false, H, I.tok _, rfl, q⟩
/-- s.add(t), t a tuple of ints that isn't there -/
def tSAddT (K : PySem.W.Frag) (P : Program) (w : World) (to : TE) (t : TA) : TE := fun σ H Q => to σ H fun x H1 => (∃ a L, x = V.ref a ∧ H1 a = some (SetTO P w a L) ∧ ∀ p ∈ L, SqT K H1 p.1 (p.2.map V.int)) ∧ t σ H1 fun xs H2 => ∃ (a b : Addr) (k : List Int) (L : List (Addr × List Int)), x = .ref a ∧ xs = [.ref b] ∧ SqT K H2 b (k.map V.int) ∧ H2 a = some (SetTO P w a L) ∧ (∀ p ∈ L, SqT K H2 p.1 (p.2.map V.int)) ∧ k ∉ L.map (·.2) ∧ L.length + 1 < 64 ∧
  ∀ L', L'.Perm ((b, k) :: L) → Q .non (upd H2 a (SetTO P w a L'))
variable {o e : Expr} {es : List Expr} {to : TE} {t : TA} {apos cpos : Pos}
theorem pe_saddT (hu : X.A.units + 1 < cLine) (ho : PE X o to) (ha : PA X (e :: es) t)
    (hbase : attributeBase o "add" X.env (eval o X.env) = eval o X.env := by rfl)
    (hfew : ((backTo cpos (starEach (e :: es) X.env)).all (fun x => !x.1) && (backToKw cpos (keywordEach [] X.env)).all (fun x => x.1.isSome) && decide ((e :: es).length + ([] : List Keyword).length + (if ([] : List Keyword).isEmpty then 0 else 1) < 30)) = true := by rfl)
    (hline : (apos.endLine == cpos.line) = true := by rfl) (hs : starEach (e :: es) X.env = (false, eval e X.env) :: starEach es X.env := by rfl) (hplain : (backTo cpos (starEach es X.env)).any (·.1) = false := by rfl) :
    PE X (.Call (.Attribute o "add" apos) (e :: es) [] cpos) (tSAddT X.K X.prog X.w to t) := by
  refine ⟨fun pins s σ H Q I h => wpAny_Call_method_late hbase hfew hline rfl (thn (ho.run pins s σ H _ I h) fun v s1 ⟨x, H1, I1, r1, ⟨a, L, ex, hL, hT⟩, q1⟩ => ?_)⟩
  subst ex
  cases r1
  have R1 : SetT0 X.prog X.w s1.heap a L := (I1.hok a _ hL).1
  have ty : s1.TypeIs (.ref a) "set" := let ⟨_, _, _, ⟨o, ho, hc, _⟩, _⟩ := R1.ex; ⟨o, ho, hc.1⟩
  refine ⟨"set", "set.add", F.plainAttrs_set, F.slot_set_add, F.type_set_add, ty, ?_, ?_⟩
  · rintro b eb; cases eb; obtain ⟨_, _, _, ⟨o, ho, hc, _⟩, _⟩ := R1.ex; exact ⟨o, ho, hc.2.1⟩
  have hA := ha.run cpos pins s1 σ H1 _ I1 q1
  rw [hs] at hA ⊢
  refine Calls.callWith_builtin (by show (false || (backTo cpos (starEach es X.env)).any (·.1)) = false; rw [hplain]; rfl) (Calls.evalArgs_plain ?_)
  refine thn hA fun us s2 ⟨vs, H2, I2, r2, a', b, k, L2, e1, e2, hb, hL2, hT2, out, few, q2⟩ => ?_
  cases e1
  subst e2
  rw [Vals.ref1 r2]
  have R0 : SetT0 X.prog X.w s2.heap a L2 := (I2.hok a _ hL2).1
  obtain ⟨es, ep, tt, R⟩ := R0.full fun p hp => I2.isT (hT2 p hp)
  refine adds R (I2.isT hb) hu few fun h' L' es' ep' t' tk sb R' _ c2 => ?_
  have he : ∃ u, h'.get? a = some u := let ⟨o, ho, _⟩ := R'.ob; ⟨o, ho⟩
  exact ⟨.non, upd H2 a (SetTO X.prog X.w a L'), I2.write (e := a) (t' := tk) (by rw [hL2]; trivial) (.inl rfl) (fun c u hc hu => (sb.2 c hc).trans hu) he (setTO_new R'.t0), rfl, q2 L' (c2 out)⟩
end
end Nc

/-! Own rules: min(d), d a dict with pairs of ints as keys; d.setdefault(t, x) of such. -/
namespace Nc
open PySem PySem.Spec PyProof.Rows L2
section
variable {prog : Program} {w : World} {A : Around} {R : Result → Shared → Prop} {I S : Addr} {fp wr : List Addr} {n : Nat} {P : Nat → Value → Prop} {St : Nat → Heap → Prop} {h0 : Heap} {bt : Nat → Nat → Bool}
/-- a walk's steps leave an older heap as it was -/
theorem keep_walk {h h' : Heap} (old : ∀ b ∈ wr, h0.get? b = none) (k : KeepH h0 h) (k' : ∀ b o, b ∉ wr → h.get? b = some o → h'.get? b = some o) : KeepH h0 h' := fun c o e =>
  k' c o (fun m => by rw [old c m] at e; cases e) (k c o e)
theorem keep_at {h : Heap} {g : Obj → Obj} (old : h0.get? S = none) (k : KeepH h0 h) : KeepH h0 (h.update S g) := fun c o e =>
  (Heap.get?_update_other _ _ (fun z => by rw [← z, old] at e; cases e)).trans (k c o e)
/-- min's loop from its (j + 1)-th item on: what is compared may stand in the heap -/
theorem min_rounds (W : Walks prog w A.in1 I fp wr n P St) (cmp : ∀ i j vi vj (s : Shared), KeepH h0 s.heap → P i vi → P j vj → Ob.RcOp .Lt A.in1 s vi vj (bt i j)) (out : S ∉ fp) (old : ∀ b ∈ wr, h0.get? b = none) (oldS : h0.get? S = none) :
    ∀ (k j : Nat) (s : Shared) (best : Value) (c : Nat), k + (j + 1) = n → St (j + 1) s.heap → KeepH h0 s.heap → P (argBest bt j) best → s.heap.get? S = some { cls := .type "list", dict := none, data := .seq #[best, best] c, slots := #[] } →
      (∀ v h' tk, P (argBest bt (n - 1)) v → KeepH h0 h' → R (.ok (.ret v)) { s with heap := h', toks := tk }) → codeAny (model prog w) A (.builtin "min.loop" ⟨[.ref I, .none, .ref S], []⟩) R s := by
  have outW : S ∉ wr := fun m => out (W.sub _ m)
  have nm : (toString "min" ++ toString ".loop" : String) = "min.loop" := by decide
  intro k
  induction k with
  | zero =>
    intro j s best c e st kp pb hS fin
    have jn : j + 1 = n := by omega
    subst jn
    refine codeAny_builtin F.entry_min_loop ?_; rw [Around.under_plainId F.plain_min_loop _]
    refine wpAny_bind (wpAny_seqItems hS rfl (wpAny_bind (wpAny_tryCatch (W.done s _ _ st fun h' tk k' => ?_))))
    refine wpAny_bind (wpAny_updateSeq (k' S _ outW hS) rfl (wpAny_bind (wpAny_letGo (wpAny_pure ?_))))
    exact fin best _ tk pb (keep_at oldS (keep_walk old kp k'))
  | succ k ih =>
    intro j s best c e st kp pb hS fin
    refine codeAny_builtin F.entry_min_loop ?_; rw [Around.under_plainId F.plain_min_loop _]
    refine wpAny_bind (wpAny_seqItems hS rfl (wpAny_bind (wpAny_tryCatch (W.item (j + 1) s _ _ (by omega) st fun v h' tk pv st' k' => ?_))))
    have hS' := k' S _ outW hS
    have kp' := keep_walk old kp k'
    refine wpAny_bind (wpAny_pure ?_)
    show wpAny _ _ (tryCatch (holding [v, v] (richCompare _ v best >>= _)) _ >>= _) _ _ _
    refine wpAny_bind (wpAny_tryCatch (wpAny_holding (wpAny_bind ((cmp (j + 1) (argBest bt j) v best _ kp' pv pb) prog w _ _ ?_))))
    refine wpAny_bind (wpAny_holding (wpAny_truthy_bool (wpAny_bind (wpAny_letGo (wpAny_pure ?_)))))
    cases hb : bt (j + 1) (argBest bt j) with
    | true =>
      simp only [if_true]
      refine wpAny_bind (wpAny_updateSeq hS' rfl (wpAny_bind (wpAny_letGo ?_))); rw [nm]
      refine wpAny_pure ⟨plainId_quiet F.plain_min_loop _, ih (j + 1) _ v _ (by omega) (W.frame _ _ _ st' fun b m o eb => (Heap.get?_update_other _ _ (fun z : S = b => out (by rw [z]; exact m))).trans eb) (keep_at oldS kp') (by unfold argBest; rw [hb]; exact pv) (Heap.get?_update_self _ hS' rfl) fun u h2 tk2 pu k2 => fin u h2 tk2 pu k2⟩
    | false =>
      simp only [Bool.false_eq_true, if_false]
      refine wpAny_bind (wpAny_letGo ?_); rw [nm]
      refine wpAny_pure ⟨plainId_quiet F.plain_min_loop _, ih (j + 1) _ best c (by omega) st' kp' (by unfold argBest; rw [hb]; exact pb) hS' fun u h2 tk2 pu k2 => fin u h2 tk2 pu k2⟩
end
section
variable {prog : Program} {w : World} {A : Around} {E : Value → Shared → Prop} {s : Shared}
/-- min of a walk -/
theorem min_over {x : Value} {Q : Value → Shared → Prop} {n : Nat} {P : Nat → Value → Prop} {bt : Nat → Nat → Bool} (n0 : 0 < n) (cmp : ∀ i j vi vj (s2 : Shared), KeepH s.heap s2.heap → P i vi → P j vj → Ob.RcOp .Lt A.in1 s2 vi vj (bt i j))
    (h : wpAny (model prog w) A.in1 (pyIter x) (fun it s2 => ∃ I fp wr St, it = .ref I ∧ Walks prog w A.in1 I fp wr n P St ∧ St 0 s2.heap ∧ (∀ b ∈ fp, b < s2.heap.objs.size) ∧ (∀ b ∈ wr, s.heap.get? b = none) ∧ KeepH s.heap s2.heap ∧ s.heap.objs.size ≤ s2.heap.objs.size ∧
      ∀ v h' tk, P (argBest bt (n - 1)) v → KeepH s.heap h' → Q v { s2 with heap := h', toks := tk }) E s) : wpAny (model prog w) A (call (.builtin "min") [x]) Q E s := by
  have nm : (toString "min" ++ toString ".loop" : String) = "min.loop" := by decide
  refine call_function_tree F.kind_min F.plain_min F.entry_min (F.args_min1 _) ?_
  refine wpAny_bind (wpAny_of_eq (show Builtin.Builtins.bindParams "min" ["key", "default"] 0 ⟨[], []⟩ = pure [none, none] from rfl) (wpAny_bind (wpAny_pure (wpAny_bind (wpAny_mono h (fun it s2 q => ?_) fun _ _ e => e)))))
  obtain ⟨I, fp, wr, St, rfl, W, st, inF, old, kp, sz, fin⟩ := q
  refine wpAny_bind (wpAny_newObj_type ?_); rw [nm]
  have out : s2.heap.objs.size ∉ fp := fun m => Nat.lt_irrefl _ (inF _ m)
  have outW : s2.heap.objs.size ∉ wr := fun m => out (W.sub _ m)
  have oldS : s.heap.get? s2.heap.objs.size = none := by
    cases z : s.heap.get? s2.heap.objs.size with
    | none => rfl
    | some o => exact absurd (Nat.lt_of_lt_of_le (Heap.lt_size z) sz) (Nat.lt_irrefl _)
  refine wpAny_pure ⟨plainId_quiet F.plain_min_loop _, ?_⟩
  refine codeAny_builtin F.entry_min_loop ?_; rw [Around.under_plainId F.plain_min_loop _]
  have hS : (s2.heap.push { cls := .type "list", data := .seq #[] }).get? s2.heap.objs.size = some { cls := .type "list", data := .seq #[] } := Heap.get?_push_size _ rfl
  have kp1 : KeepH s.heap (s2.heap.push { cls := .type "list", data := .seq #[] }) := fun c o e => Heap.get?_push_of_some _ (kp c o e)
  refine wpAny_bind (wpAny_seqItems hS rfl (wpAny_bind (wpAny_tryCatch (W.item 0 { s2 with heap := s2.heap.push { cls := .type "list", data := .seq #[] } } _ _ n0 (W.frame _ _ _ st fun b _ o e => Heap.get?_push_of_some _ e) fun v h' tk pv st' k' => ?_))))
  have hS' := k' _ _ outW hS
  refine wpAny_bind (wpAny_pure ?_)
  show wpAny _ _ (updateSeq s2.heap.objs.size (fun _ => #[v, v]) >>= _) _ _ _
  refine wpAny_bind (wpAny_updateSeq hS' rfl ?_); rw [nm]
  refine wpAny_pure ⟨plainId_quiet F.plain_min_loop _, min_rounds (h0 := s.heap) W cmp out old oldS (n - 1) 0 _ v _ (by omega) (W.frame _ _ _ st' fun b m o e => (Heap.get?_update_other _ _ (fun z => out (by rw [z]; exact m))).trans e) (keep_at oldS (keep_walk old kp1 k')) pv (Heap.get?_update_self _ hS' rfl) fun u h2 tk2 pu k2 => fin u h2 tk2 pu k2⟩
/-- the walk over a dict's keys, as they stand -/
theorem walks_keys (hh : A.handled = none) {I d : Addr} (ne : d ≠ I) {od : Obj} {es : Array DictEntry} {ep : Nat} (hd : od.data = .dict es ep) :
    Walks prog w A I [I, d] [I] es.size (fun i v => ∃ en, es[i]? = some en ∧ v = en.key) (fun i h => h.IsKeyIter I d i es.size ep ∧ h.get? d = some od) where
  sub := fun b m => by rw [List.mem_singleton.mp m]; exact List.mem_cons_self
  frame := fun i h h' st k => ⟨st.1.at fun o e => k I List.mem_cons_self o e, k d (List.mem_cons_of_mem _ List.mem_cons_self) _ st.2⟩
  item := fun i s Q E lt st q => next_key_item st.1 st.2 hd rfl (Array.getElem?_eq_getElem lt) fun h' st' sb => q _ h' s.toks ⟨_, Array.getElem?_eq_getElem lt, rfl⟩ ⟨st', (sb.2 d ne).trans st.2⟩ fun b o m e => (sb.2 b fun z => m (by rw [z]; exact List.mem_cons_self)).trans e
  done := fun s Q E st q => next_key_end hh st.1 st.2 hd rfl (Nat.le_refl _) fun h' x => q h' s.toks fun b o m e => x b o (fun z => m (by rw [z]; exact List.mem_cons_self)) e
  self := fun i s Q E st q => wpAny_pyIter_keyiter st.1 q
end
/-- t < u of two tracked tuples, in any state that keeps what stood -/
theorem tup_less {X : Cx} {s s2 : Shared} {pins : List (Addr × Obj)} {σ : L2.St} {H : Hp} {a b : Addr} {ns ms : List Int} (I : L2.Inv X pins σ H s) (ha : H a = some (.tup (ns.map V.int))) (hb : H b = some (.tup (ms.map V.int))) (hu : X.A.units + 1 < cLine) (kp : KeepH s.heap s2.heap) :
    Ob.RcOp .Lt X.A.in1 s2 (.ref a) (.ref b) (lexP (fun x y => decide (x < y)) (decide (ns.length < ms.length)) ns ms) := by
  obtain ⟨us, r1, ⟨o1, g1, c1, n1, d1⟩, _⟩ := I.tuple (SqT.of ha)
  obtain ⟨vs, r2, ⟨o2, g2, c2, n2, d2⟩, _⟩ := I.tuple (SqT.of hb)
  have i1 : IntsAre us ns := Vals.ints r1
  have i2 : IntsAre vs ms := Vals.ints r2
  have at1 : ∀ j (h1 : j < us.toArray.size), ∃ t, us.toArray[j] = .int (ns.getD j 0) t := fun j h1 => IntsAre.int_at i1 _ _ (by simp at h1; simp [h1])
  have at2 : ∀ j (h1 : j < vs.toArray.size), ∃ t, vs.toArray[j] = .int (ms.getD j 0) t := fun j h1 => IntsAre.int_at i2 _ _ (by simp at h1; simp [h1])
  have R := Ob.RcOp.tuples_lt (A := X.A.in1) (s := s2) (e := fun j => decide (ns.getD j 0 = ms.getD j 0)) (r := fun j => decide (ns.getD j 0 < ms.getD j 0)) ⟨o1, kp _ _ g1, c1, n1, d1⟩ ⟨o2, kp _ _ g2, c2, n2, d2⟩ hu (fun j h1 h2 => by
    obtain ⟨t, et⟩ := at1 j h1
    obtain ⟨u, eu⟩ := at2 j h2
    rw [et, eu, ← Bool.beq_eq_decide_eq]
    exact SeqAt.EqAt.int_int _ _ _ _) (fun j h1 h2 _ => by
    obtain ⟨t, et⟩ := at1 j h1
    obtain ⟨u, eu⟩ := at2 j h2
    rw [et, eu]
    exact Ob.RcOp.lt_int _ _ _ _)
  rw [List.size_toArray, List.size_toArray, i1.length, i2.length] at R
  exact R
/-! the order of pairs -/
def lexLe (p q : Int × Int) : Prop := p.1 < q.1 ∨ (p.1 = q.1 ∧ p.2 ≤ q.2)
instance (p q : Int × Int) : Decidable (lexLe p q) := by unfold lexLe; infer_instance
theorem lexLe.trans {p q r : Int × Int} (a : lexLe p q) (b : lexLe q r) : lexLe p r := by unfold lexLe at *; omega
theorem lexLe.refl (p : Int × Int) : lexLe p p := .inr ⟨rfl, Int.le_refl _⟩
theorem lexLe.total (p q : Int × Int) : lexLe p q ∨ lexLe q p := by unfold lexLe; omega
theorem lexLe.anti {p q : Int × Int} (a : lexLe p q) (b : lexLe q p) : p = q := by
  unfold lexLe at *
  exact Prod.ext (by omega) (by omega)
theorem lexP_pair (p q : Int × Int) : lexP (fun x y => decide (x < y)) (decide ((2 : Nat) < 2)) [p.1, p.2] [q.1, q.2] = decide (¬ lexLe q p) := by
  show (if decide (p.1 = q.1) = true then (if decide (p.2 = q.2) = true then decide ((2 : Nat) < 2) else decide (p.2 < q.2)) else decide (p.1 < q.1)) = _
  unfold lexLe
  by_cases a : p.1 = q.1
  · rw [if_pos (decide_eq_true a)]
    by_cases b : p.2 = q.2
    · rw [if_pos (decide_eq_true b), decide_eq_false (by omega), decide_eq_false (by omega)]
    · rw [if_neg (by simpa using b)]
      by_cases c : p.2 < q.2
      · rw [decide_eq_true c, decide_eq_true (by omega)]
      · rw [decide_eq_false c, decide_eq_false (by omega)]
  · rw [if_neg (by simpa using a)]
    by_cases c : p.1 < q.1
    · rw [decide_eq_true c, decide_eq_true (by omega)]
    · rw [decide_eq_false c, decide_eq_false (by omega)]
theorem argBest_le (f : Nat → Int × Int) : ∀ k, argBest (fun i j => decide (¬ lexLe (f j) (f i))) k ≤ k ∧ ∀ i, i ≤ k → lexLe (f (argBest (fun i j => decide (¬ lexLe (f j) (f i))) k)) (f i)
  | 0 => ⟨Nat.le_refl _, fun i h => by rw [Nat.le_zero.mp h]; exact lexLe.refl _⟩
  | k + 1 => by
    obtain ⟨h1, h2⟩ := argBest_le f k
    unfold argBest
    by_cases c : lexLe (f (argBest (fun i j => decide (¬ lexLe (f j) (f i))) k)) (f (k + 1))
    · rw [if_neg (by simpa using c)]
      refine ⟨by omega, fun i hi => ?_⟩
      by_cases e : i = k + 1
      · rw [e]; exact c
      · exact h2 i (by omega)
    · rw [if_pos (by simpa using c)]
      refine ⟨Nat.le_refl _, fun i hi => ?_⟩
      by_cases e : i = k + 1
      · rw [e]; exact lexLe.refl _
      · rcases lexLe.total (f (argBest (fun i j => decide (¬ lexLe (f j) (f i))) k)) (f (k + 1)) with z | z
        · exact absurd z c
        · exact z.trans (h2 i (by omega))
section
variable {X : Cx}
/-- a key of two ints -/
def k2 (p : Int × Int) : List L2.Key := [Sum.inl p.1, Sum.inl p.2]
def rMinT : List V → Hp → VK → Prop := fun vs H Q => ∃ (a : Addr) (kvs : List (List L2.Key × V)) (ps : List (Int × Int)), vs = [V.ref a] ∧ H a = some (.dT kvs) ∧ kvs.map (·.1) = ps.map k2 ∧ ps ≠ [] ∧
  ∀ (q : Addr) (p : Int × Int), p ∈ ps → (∀ p' ∈ ps, lexLe p p') → H q = some (.tup [.int p.1, .int p.2]) → Q (.ref q) H
theorem cr_minT (hc : X.calm = true) (hu : X.A.units + 1 < cLine) : CallR X (.builtin "min") rMinT := by
  intro pins s σ H vs us Q I r h
  obtain ⟨a, kvs, ps, rfl, ha, hk, hne, q⟩ := h
  rw [Vals.ref1 r]
  obtain ⟨_, hsys, xs, rel, o, es, ep, ho, hx, hd, he, _⟩ := dt_of I.hok ha
  have hes : es.size = ps.length := by
    have e1 := congrArg List.length he
    have e2 := Paired.length rel
    have e3 := congrArg List.length hk
    rw [List.length_map] at e1
    rw [List.length_map, List.length_map] at e3
    rw [Array.length_toList] at e1
    omega
  have ent : ∀ (i : Nat) (v : Value), (∃ en, es[i]? = some en ∧ v = en.key) → ∃ b, v = .ref b ∧ i < ps.length ∧ H b = some (.tup [.int (ps.getD i (0, 0)).1, .int (ps.getD i (0, 0)).2]) := by
    rintro i v ⟨en, e1, rfl⟩
    have lt : i < ps.length := by
      rw [← hes]
      exact (Array.getElem?_eq_some_iff.mp e1).1
    have lk : i < kvs.length := by
      have e3 := congrArg List.length hk
      rw [List.length_map, List.length_map] at e3
      omega
    obtain ⟨b, hb, e4, e5, _⟩ := paired_get rel (List.getElem?_eq_getElem lk)
    have z := entry_at he i
    rw [hb] at z
    have z2 : es[i]? = some (entryOfKey (tupleKind (mixKind X.prog X.w)) b) := z
    rw [e1] at z2
    have z3 := Option.some.inj z2
    have ek : kvs[i].1 = k2 (ps.getD i (0, 0)) := by
      have w := congrArg (fun l => l[i]?) hk
      simp only [List.getElem?_map, List.getElem?_eq_getElem lk, List.getElem?_eq_getElem lt, Option.map_some] at w
      rw [Option.some.inj w, List.getD_eq_getElem?_getD, List.getElem?_eq_getElem lt]
      rfl
    refine ⟨b.2.1, by rw [z3]; rfl, lt, ?_⟩
    rw [e5, ek]
    rfl
  have n0 : 0 < es.size := by
    rw [hes]
    exact List.length_pos_iff.mpr hne
  refine min_over (n := es.size) (P := fun i v => ∃ en, es[i]? = some en ∧ v = en.key) (bt := fun i j => decide (¬ lexLe (ps.getD j (0, 0)) (ps.getD i (0, 0)))) n0 (fun i j vi vj s2 kp pi pj => ?_) (iter_keys hsys ho hx hd ?_)
  · obtain ⟨b, rfl, _, hb⟩ := ent i vi pi
    obtain ⟨c, rfl, _, hc'⟩ := ent j vj pj
    have z := (tup_less (ns := [(ps.getD i (0, 0)).1, (ps.getD i (0, 0)).2]) (ms := [(ps.getD j (0, 0)).1, (ps.getD j (0, 0)).2]) I hb hc' hu kp)
    have e2 : lexP (fun x y => decide (x < y)) (decide ([(ps.getD i (0, 0)).1, (ps.getD i (0, 0)).2].length < [(ps.getD j (0, 0)).1, (ps.getD j (0, 0)).2].length)) [(ps.getD i (0, 0)).1, (ps.getD i (0, 0)).2] [(ps.getD j (0, 0)).1, (ps.getD j (0, 0)).2] = decide (¬ lexLe (ps.getD j (0, 0)) (ps.getD i (0, 0))) := lexP_pair _ _
    rw [e2] at z
    exact z
  · have lt := Heap.lt_size ho
    refine ⟨s.heap.objs.size, _, _, _, rfl, walks_keys (prog := X.prog) (w := X.w) (A := X.A.in1) (I.ok.hd hc) (Nat.ne_of_lt lt) hd, ⟨⟨_, Heap.get?_push_size _ rfl, rfl, rfl⟩, Heap.get?_push_of_some _ ho⟩, fun b m => ?_, fun b m => ?_, fun c o e => Heap.get?_push_of_some _ e, ?_, fun v h' tk pv kp => ?_⟩
    · show b < (s.heap.push _).objs.size
      rw [Heap.size_push]
      rcases List.mem_cons.mp m with e | m
      · rw [e]; exact Nat.lt_succ_self _
      · rw [List.mem_singleton.mp m]; exact Nat.lt_succ_of_lt lt
    · rw [List.mem_singleton.mp m]
      cases z : s.heap.get? s.heap.objs.size with
      | none => rfl
      | some o => exact absurd (Heap.lt_size z) (Nat.lt_irrefl _)
    · show _ ≤ (s.heap.push _).objs.size
      rw [Heap.size_push]
      omega
    · obtain ⟨b, rfl, lt2, hb⟩ := ent _ v pv
      obtain ⟨b1, b2⟩ := argBest_le (fun i => ps.getD i (0, 0)) (es.size - 1)
      have at_ : ∀ i, i < ps.length → ps.getD i (0, 0) ∈ ps := fun i hi => by
        rw [List.getD_eq_getElem?_getD, List.getElem?_eq_getElem hi]
        exact List.getElem_mem hi
      refine ⟨.ref b, H, I.kept (t' := tk) fun c o e => kp c o e, rfl, q b _ (at_ _ lt2) (fun p' m => ?_) hb⟩
      obtain ⟨i, hi, e⟩ := List.mem_iff_getElem.mp m
      have e2 : ps.getD i (0, 0) = p' := by rw [List.getD_eq_getElem?_getD, List.getElem?_eq_getElem hi, ← e]; rfl
      rw [← e2]
      exact b2 i (by omega)
end
end Nc

/-! Own rules: d.setdefault(t, x) of a dict with tuples as keys; len(s) of a set of tuples. -/
namespace Nc
open PySem PySem.Spec PyProof.Rows L2
section
variable {X : Cx} {pins : List (Addr × Obj)} {σ : L2.St} {H : Hp} {s : Shared} {a b : Addr} {r : Value} {z : V} {ks : List L2.Key} {A : Around} {E : Value → Shared → Prop}
theorem setd_tup {kvs : List (List L2.Key × V)} {Q : Value → Shared → Prop} (hu : A.units + 1 < cLine) (I : L2.Inv X pins σ H s) (e : H a = some (.dT kvs)) (eb : H b = some (.tup (ks.map kV))) (rz : RelV z r) (room : kvs.length < sizeLine)
    (old : ∀ v, valV kvs ks = some v → ∀ w' s', L2.Inv X pins σ H s' → RelV v w' → Q w' s') (new : valV kvs ks = none → ∀ s', L2.Inv X pins σ (upd H a (.dT (putK kvs ks z))) s' → Q r s') :
    wpAny (model X.prog X.w) A (call (.builtin "dict.setdefault") [.ref a, .ref b, r]) Q E s := by
  obtain ⟨len, sys, xs, rel, dd⟩ := dt_of I.hok e
  have lx : xs.length ≤ sizeLine := by rw [← Paired.length rel]; exact len
  refine call_setdefault_heap (hsz := lx) (knd := tupleKind (mixKind X.prog X.w)) (tupleKind_room_in1 hu) (key_of I.hok eb) sys dd (fun p hp => ?_) fun hn h' dd' hs => ?_
  · have q := rel.val ks
    rw [hp] at q
    cases ev : valV kvs ks with
    | none => rw [ev] at q; exact (show False from q).elim
    | some v => rw [ev] at q; exact old v ev _ _ (I.tok _) q
  · have q := rel.val ks
    rw [hn] at q
    have ev : valV kvs ks = none := by
      cases ev : valV kvs ks with
      | none => rfl
      | some v => rw [ev] at q; exact (show False from q).elim
    have l2 : (putK kvs ks z).length ≤ sizeLine := Nat.le_trans (length_putK kvs ks z) room
    obtain ⟨o, es, ep, ho, c1, c2, c3, _, c4⟩ := dd'
    refine new ev _ (d_write I (by rw [e]; exact True.intro) hs ⟨o, ho⟩ ⟨l2, sys, _, (rel.put ks eb rz).keeps fun c ys ec => ?_, o, es, ep, ho, c1, c2, c3, c4⟩)
    rw [upd_ne (ne_of ec e (fun z => nomatch z))]; exact ec
end
/-- d.setdefault(t, x) -/
def tDSetdT (td ty tx : TE) : TE := fun σ H Q => td σ H fun x H1 => ∃ a, x = .ref a ∧ IsD H1 a ∧ ty σ H1 fun y H2 => tx σ H2 fun z H3 => ∃ (kvs : List (List L2.Key × V)) (ks : List L2.Key) (b : Addr), H3 a = some (.dT kvs) ∧ y = .ref b ∧ H3 b = some (.tup (ks.map kV)) ∧ kvs.length < sizeLine ∧
  (∀ v, valV kvs ks = some v → Q v H3) ∧ (valV kvs ks = none → Q z (upd H3 a (.dT (putK kvs ks z))))
theorem pe_dsetdT {X : Cx} {o e f : Expr} {td ty tx : TE} {apos cpos : Pos} (hu : X.A.units + 1 < cLine) (ho : PE X o td) (he : PE X e ty) (hf : PE X f tx) (m : M2 X o "setdefault" apos e f cpos) : PE X (.Call (.Attribute o "setdefault" apos) [e, f] [] cpos) (tDSetdT td ty tx) := by
  constructor
  intro pins s σ H Q I h
  refine wpAny_Call_method m.base m.few m.line PySem.F.plainAttrs_dict PySem.F.slot_dict_setdefault PySem.F.type_dict_setdefault (thn (ho.run pins s σ H _ I h) ?_)
  rintro u s1 ⟨x, H1, I1, rx, a, rfl, d, q1⟩
  cases rx
  obtain ⟨t1, t2, _⟩ := isD_at I1 d
  refine ⟨t1, t2, ?_⟩; rw [m.trees]
  refine Calls.callWith_builtin rfl (Calls.evalArgs_plain (Calls.spliced_cons (thn (he.run pins s1 σ H1 _ I1 q1) ?_)))
  rintro iv s2 ⟨y, H2, I2, ry, q2⟩
  refine Calls.spliced_cons (thn (hf.run pins s2 σ H2 _ I2 q2) ?_)
  rintro fv s3 ⟨z, H3, I3, rz, kvs, ks, b, ea, rfl, eb, room, q3, q4⟩
  cases ry
  exact Calls.spliced_nil (setd_tup hu I3 ea eb rz room (fun v hv w' s4 I4 rw' => ⟨v, _, I4, rw', q3 v hv⟩) fun hn s4 I4 => ⟨z, _, I4, rz, q4 hn⟩)
/-- len(s), s a set of tuples -/
def rLenT2 (P : Program) (w : World) : List V → Hp → VK → Prop := fun vs H Q => ∃ (a : Addr) (L : List (Addr × List Int)), vs = [.ref a] ∧ H a = some (SetTO P w a L) ∧ Q (.int (L.length : Nat)) H
theorem call_len_setT {X : Cx} : CallR X (.builtin "len") (rLenT2 X.prog X.w) := by
  intro pins s σ H xs us Q I r h
  obtain ⟨a, L, rfl, ha, q⟩ := h
  rw [Vals.ref1 r]
  have R0 : SetT0 X.prog X.w s.heap a L := (I.hok a _ ha).1
  obtain ⟨es, ep, t, ⟨o, ho, hex, hd⟩, rows, tab, _, _, _, room, few⟩ := R0.ex
  have sz : es.size = L.length := by
    have h := congrArg List.length rows
    unfold rowsOf at h
    rw [Array.length_toList, List.length_map] at h
    exact h
  have fits : t.fits es.size = true := by
    have h1 := tab.sz
    rw [List.length_map] at h1
    unfold SetTable.fits SetTable.fill
    rw [tab.dm, Bool.and_eq_true, beq_iff_eq, decide_eq_true_eq]
    show t.place.size = es.size ∧ t.place.size + 0 ≤ t.mask
    omega
  refine call_len_set ho hex hd fits (by omega) ?_
  rw [sz]
  exact ⟨.int (L.length : Nat), H, I.tok _, ⟨_, rfl⟩, q⟩
end Nc

/-! Own rules: readings with heaps that are told by what is true of them alone; walks over enumerate; sorted sites. -/
namespace Nc
open PySem PySem.Spec PyProof.Rows L2
section
variable {X : Cx}
def tTupG (t : TA) : TE := fun σ H Q => t σ H fun vs H1 => vs.length ≤ sizeLine ∧ ∀ p H2, Same H1 H2 → H1 p = none → H2 p = some (.tup vs) → Q (.ref p) H2
def tLstG (t : TA) : TE := fun σ H Q => t σ H fun vs H1 => vs.length ≤ sizeLine ∧ ∀ p H2, Same H1 H2 → H1 p = none → H2 p = some (.lst vs) → Q (.ref p) H2
def tDicG : TE := fun _ H Q => ∀ p H2, Same H H2 → H p = none → H2 p = some (.dK []) → Q (.ref p) H2
theorem pe_tupG {es : List Expr} {k : Nat} {pos : Pos} {t : TA} (h : PA X es t) : PE X (.Tuple es k pos) (tTupG t) := ⟨fun pins s σ H Q I w => by
  have step := h.run pos pins s σ H _ I w
  refine wpAny_Tuple_spliced (thn step fun us s1 got => ?_)
  rcases got with ⟨vs, H1, I1, rv, len, q⟩
  refine ⟨rv.length ▸ len, ?_⟩
  have free : H1 s1.heap.objs.size = none := I1.hok.fresh (Nat.le_refl _)
  have new : ObjOk X.prog X.w (upd H1 s1.heap.objs.size (.tup vs)) (s1.heap.push { cls := .type "tuple", data := .seq us.toArray }) s1.heap.objs.size (.tup vs) := ⟨len, us, rv, _, Heap.get?_push_size _ rfl, rfl, _, rfl⟩
  exact ⟨.ref _, _, I1.laid (t' := s1.toks) (fun _ _ e => Heap.get?_push_of_some _ e) (Nat.le_refl _) new, rfl, q _ _ (Same.upd free) free upd_same⟩⟩
theorem pe_lstG {es : List Expr} {pos : Pos} {t : TA} (h : PA X es t) : PE X (.List es pos) (tLstG t) := ⟨fun pins s σ H Q I w => by
  have step := h.run pos pins s σ H _ I w
  refine wpAny_List_spliced (thn step fun us s1 got => ?_)
  rcases got with ⟨vs, H1, I1, rv, len, q⟩
  refine ⟨rv.length ▸ len, ?_⟩
  have free : H1 s1.heap.objs.size = none := I1.hok.fresh (Nat.le_refl _)
  have new : ObjOk X.prog X.w (upd H1 s1.heap.objs.size (.lst vs)) (s1.heap.push { cls := .type "list", data := .seq us.toArray 0 }) s1.heap.objs.size (.lst vs) := ⟨len, us, 0, rv, Heap.get?_push_size _ rfl⟩
  exact ⟨.ref _, _, I1.laid (t' := s1.toks) (fun _ _ e => Heap.get?_push_of_some _ e) (Nat.le_refl _) new, rfl, q _ _ (Same.upd free) free upd_same⟩⟩
theorem pe_dicG {pos : Pos} : PE X (.Dict [] [] pos) tDicG := peOf pe_dnewK fun σ H Q q p np => q p _ (Same.upd np) np upd_same
def rCatG : R2 := fun x y H Q => ∃ l b xs zs, x = .ref l ∧ y = .ref b ∧ H l = some (.lst xs) ∧ H b = some (.lst zs) ∧ xs.length + zs.length ≤ sizeLine ∧ ∀ p H2, Same H H2 → H p = none → H2 p = some (.lst (xs ++ zs)) → Q (.ref p) H2
theorem op_catG : OpR X (binaryOp .Add) rCatG := fun pins s σ H x y v u Q I rx ry w => by
  rcases w with ⟨l, b, xs, zs, e1, e2, h1, h2, z, q⟩
  exact op_cat pins s σ H x y v u Q I rx ry ⟨l, b, xs, zs, e1, e2, h1, h2, z, fun p np => q p _ (Same.upd np) np upd_same⟩
def tDnTG : TE := fun _ H Q => ∀ p H2, Same H H2 → H p = none → H2 p = some (.dT []) → Q (.ref p) H2
theorem pe_dnTG {pos : Pos} : PE X (.Dict [] [] pos) tDnTG := peOf pe_dnewT fun σ H Q q p np => q p _ (Same.upd np) np upd_same
def unref : V → Addr
  | .ref t => t
  | _ => 0
theorem unref_map : ∀ {ys : List V}, (∀ y ∈ ys, ∃ t, y = V.ref t) → ys = (ys.map unref).map V.ref
  | [], _ => rfl
  | y :: ys, h => by
    obtain ⟨t, rfl⟩ := h y List.mem_cons_self
    rw [List.map_cons, List.map_cons, ← unref_map fun z m => h z (List.mem_cons_of_mem _ m)]
    rfl
/-- sorted(xs), xs a list of pairs of ints, f the ints at each address -/
def rSortS (K : PySem.W.Frag) : List V → Hp → VK → Prop := fun vs H Q => ∃ (a : Addr) (ts : List Addr) (f : Addr → Int × Int), vs = [V.ref a] ∧ SqL K H a (ts.map V.ref) ∧ (∀ t ∈ ts, H t = some (.tup [.int (f t).1, .int (f t).2])) ∧
  ∀ (us : List Addr) (p : Addr) (H2 : Hp), us.Perm ts → us.Pairwise (fun a b => lexLe (f a) (f b)) → Same H H2 → H p = none → H2 p = some (.lst (us.map V.ref)) → Q (.ref p) H2
theorem cr_sortS : CallR X (.builtin "sorted") (rSortS X.K) := by
  intro pins s σ H vs us Q I r h
  obtain ⟨a, ts, f, rfl, hl, hk, q⟩ := h
  refine cr_sortedPO pins s σ H _ us Q I r ⟨a, ts.map V.ref, fun v => f (unref v), rfl, hl, fun x m => ?_, fun ys p so st np => ?_⟩
  · obtain ⟨t, mt, rfl⟩ := List.mem_map.mp m
    exact ⟨t, rfl, hk t mt⟩
  · have pm := st.perm
    have er : ys = (ys.map unref).map V.ref := unref_map fun y m => by
      obtain ⟨t, _, e⟩ := List.mem_map.mp (pm.mem_iff.mp m)
      exact ⟨t, e.symm⟩
    refine q (ys.map unref) p _ ?_ ?_ (Same.upd np) np (by rw [← er]; exact upd_same)
    · have z := pm.map unref
      rw [List.map_map, show (unref ∘ V.ref) = id from funext fun _ => rfl, List.map_id] at z
      exact z
    · rw [List.pairwise_map]
      refine List.Pairwise.imp_of_mem (fun {x y} mx my h => ?_) so
      have w := SrtO.lexB_no.mp h
      unfold lexLe
      dsimp only at w
      omega
/-- xs[a:b], a new list -/
def rSlG (K : PySem.W.Frag) : V → Option Int → Option Int → Hp → VK → Prop := fun x lo hi H Q => ∃ a xs, x = .ref a ∧ SqL K H a xs ∧ ∀ p H2, Same H H2 → H p = none → H2 p = some (.lst (cutV xs lo hi)) → Q (.ref p) H2
theorem sl_listG : SlR X (rSlG X.K) := fun pins s σ H x v vl vu lo hi sl Q I rx hs pl pu h => by
  rcases h with ⟨a, xs, e1, e2, q⟩
  exact sl_list pins s σ H x v vl vu lo hi sl Q I rx hs pl pu ⟨a, xs, e1, e2, fun p np => q p _ (Same.upd np) np upd_same⟩
end
theorem for_enumG {K : PySem.W.Frag} {a : Addr} {xs : List V} {g : TG} {tb : TS} {D : Ends} {σ : L2.St} {H : Hp} (Pv : Nat → L2.St → Hp → Prop) (start : Pv 0 σ H) (held : ∀ i σ H, i ≤ xs.length → Pv i σ H → SqL K H a xs)
    (turn : ∀ i x σ H, xs[i]? = some x → Pv i σ H → ∀ T H', Same H H' → H T = none → H' T = some (.tup [.int (i : Nat), x]) → g (.ref T) σ H' fun σ2 H2 => tb { D with nx := Pv (i + 1), ct := Pv (i + 1), bk := D.nx } σ2 H2) (done : ∀ σ H, Pv xs.length σ H → D.nx σ H) :
    ∃ W : Nat → Nat → L2.St → Hp → Prop, (∃ m, W 0 m σ H) ∧ ∀ i m σ H, W i m σ H → ((Ite K a).stop i H ∧ D.nx σ H) ∨ ((Ite K a).go i H ∧ ∃ N : L2.St → Hp → Prop, (∀ σ' H', N σ' H' → ∃ m', m' < m ∧ W (i + 1) m' σ' H') ∧ ∀ x H', (Ite K a).yld i H x H' → g x σ H' fun σ2 H2 => tb { D with nx := N, ct := N, bk := D.nx } σ2 H2) := by
  refine ⟨fun i m σ H => m = xs.length - i ∧ i ≤ xs.length ∧ Pv i σ H, ⟨_, rfl, Nat.zero_le _, start⟩, fun i m σ H w => ?_⟩
  obtain ⟨rfl, le, p⟩ := w
  have seq := held i σ H le p
  by_cases lt : i < xs.length
  · refine .inr ⟨⟨xs, xs[i], seq, List.getElem?_eq_getElem lt⟩, Pv (i + 1), fun σ' H' p' => ⟨_, by omega, rfl, lt, p'⟩, fun y H' yl => ?_⟩
    obtain ⟨T, x, rfl, free, rfl, at_⟩ := yl
    exact turn i x σ H (at_ xs seq) p T _ (Same.upd free) free upd_same
  · have e : i = xs.length := by omega
    subst e
    exact .inl ⟨⟨xs, seq, Nat.le_refl _⟩, done σ H p⟩
theorem lc_enumG {K : PySem.W.Frag} {a : Addr} {xs : List V} {g : TG} {tt : TT} {te : TE} {vs : List Nat} {σ : L2.St} {H1 : Hp} {D : Addr} {Qd : Hp → Prop} (Pv : Nat → Hp → Prop) (start : Pv 0 (upd H1 D (.lst []))) (held : ∀ i H, i ≤ xs.length → Pv i H → SqL K H a xs)
    (turn : ∀ i x H, xs[i]? = some x → Pv i H → ∀ T H', Same H H' → H T = none → H' T = some (.tup [.int (i : Nat), x]) → g (.ref T) (wipe σ vs) H' fun σ2 H2 => wipe σ2 vs = wipe σ vs ∧ tt σ2 H2 fun b H3 =>
      if b = true then te σ2 H3 fun y H4 => ∃ acc, H4 D = some (.lst acc) ∧ acc.length < sizeLine ∧ Pv (i + 1) (upd H4 D (.lst (acc ++ [y]))) else Pv (i + 1) H3) (done : ∀ H, Pv xs.length H → Qd H) :
    ∃ W : Nat → Nat → Hp → Prop, (∃ m, W 0 m (upd H1 D (.lst []))) ∧ ∀ i m H, W i m H → ((Ite K a).stop i H ∧ Qd H) ∨ ((Ite K a).go i H ∧ ∃ Nx : Hp → Prop, (∀ H', Nx H' → ∃ m', m' < m ∧ W (i + 1) m' H') ∧ ∀ x H', (Ite K a).yld i H x H' → g x (wipe σ vs) H' fun σ2 H2 => wipe σ2 vs = wipe σ vs ∧ tt σ2 H2 fun b H3 =>
        if b = true then te σ2 H3 fun y H4 => ∃ acc, H4 D = some (.lst acc) ∧ acc.length < sizeLine ∧ Nx (upd H4 D (.lst (acc ++ [y]))) else Nx H3) := by
  refine ⟨fun i m H => m = xs.length - i ∧ i ≤ xs.length ∧ Pv i H, ⟨_, rfl, Nat.zero_le _, start⟩, fun i m H w => ?_⟩
  obtain ⟨rfl, le, p⟩ := w
  have seq := held i H le p
  by_cases lt : i < xs.length
  · refine .inr ⟨⟨xs, xs[i], seq, List.getElem?_eq_getElem lt⟩, Pv (i + 1), fun H' p' => ⟨_, by omega, rfl, lt, p'⟩, fun y H' yl => ?_⟩
    obtain ⟨T, x, rfl, free, rfl, at_⟩ := yl
    exact turn i x H (at_ xs seq) p T _ (Same.upd free) free upd_same
  · have e : i = xs.length := by omega
    subst e
    exact .inl ⟨⟨xs, seq, Nat.le_refl _⟩, done H p⟩
end Nc

/-! Own rules: the readings of comprehensions with two for. -/
namespace Nc
open PySem PySem.Spec PyProof.Rows L2
section
variable {J : It} {n : Nat} {G : Hp → Prop} {Y : Nat → Hp → V → Hp → Prop}
theorem lc2_out (w : Walk J n G Y) {g : TG} {tt : TT} {B : L2.St → Hp → (Hp → Prop) → Prop} {vs : List Nat} {σ : L2.St} {H1 : Hp} {D : Addr} {Qd : Hp → Prop} (Pv : Nat → Hp → Prop) (start : Pv 0 (upd H1 D (.lst []))) (held : ∀ i H, i ≤ n → Pv i H → G H)
    (turn : ∀ i x H H', i < n → Pv i H → Y i H x H' → g x (wipe σ vs) H' fun σ2 H2 => wipe σ2 vs = wipe σ vs ∧ tt σ2 H2 fun b H3 => if b = true then B σ2 H3 (Pv (i + 1)) else Pv (i + 1) H3) (done : ∀ H, Pv n H → Qd H) :
    ∃ W : Nat → Nat → Hp → Prop, (∃ m, W 0 m (upd H1 D (.lst []))) ∧ ∀ i m H, W i m H → (J.stop i H ∧ Qd H) ∨ (J.go i H ∧ ∃ N : Hp → Prop, (∀ H', N H' → ∃ m', m' < m ∧ W (i + 1) m' H') ∧ ∀ x H', J.yld i H x H' → g x (wipe σ vs) H' fun σ2 H2 => wipe σ2 vs = wipe σ vs ∧ tt σ2 H2 fun b H3 => if b = true then B σ2 H3 N else N H3) := by
  refine ⟨fun i m H => m + i = n ∧ Pv i H, ⟨n, rfl, start⟩, fun i m H w' => ?_⟩
  have le : i ≤ n := by omega
  have g0 := held i H le w'.2
  by_cases lt : i < n
  · exact .inr ⟨w.goes i H lt g0, Pv (i + 1), fun H' p => ⟨m - 1, by omega, by omega, p⟩, fun x H' y => turn i x H H' lt w'.2 (w.yields i H x H' lt g0 y)⟩
  · have e : i = n := by omega
    subst e
    exact .inl ⟨w.stops H g0, done H w'.2⟩
theorem lc2_in (w : Walk J n G Y) {g : TG} {tt : TT} {te : TE} {vs : List Nat} {σ2 : L2.St} {H4 : Hp} {D : Addr} {N : Hp → Prop} (Pw : Nat → Hp → Prop) (start : Pw 0 H4) (held : ∀ j H, j ≤ n → Pw j H → G H)
    (turn : ∀ j x H H', j < n → Pw j H → Y j H x H' → g x (wipe σ2 vs) H' fun σ3 H5 => wipe σ3 vs = wipe σ2 vs ∧ tt σ3 H5 fun b H6 => if b = true then te σ3 H6 fun y H7 => ∃ acc, H7 D = some (.lst acc) ∧ acc.length < sizeLine ∧ Pw (j + 1) (upd H7 D (.lst (acc ++ [y]))) else Pw (j + 1) H6) (done : ∀ H, Pw n H → N H) :
    ∃ W : Nat → Nat → Hp → Prop, (∃ m, W 0 m H4) ∧ ∀ j k H, W j k H → (J.stop j H ∧ N H) ∨ (J.go j H ∧ ∃ N1 : Hp → Prop, (∀ H', N1 H' → ∃ k', k' < k ∧ W (j + 1) k' H') ∧ ∀ x H', J.yld j H x H' → g x (wipe σ2 vs) H' fun σ3 H5 => wipe σ3 vs = wipe σ2 vs ∧ tt σ3 H5 fun b H6 =>
      if b = true then te σ3 H6 fun y H7 => ∃ acc, H7 D = some (.lst acc) ∧ acc.length < sizeLine ∧ N1 (upd H7 D (.lst (acc ++ [y]))) else N1 H6) := by
  refine ⟨fun j m H => m + j = n ∧ Pw j H, ⟨n, rfl, start⟩, fun j m H w' => ?_⟩
  have le : j ≤ n := by omega
  have g0 := held j H le w'.2
  by_cases lt : j < n
  · exact .inr ⟨w.goes j H lt g0, Pw (j + 1), fun H' p => ⟨m - 1, by omega, by omega, p⟩, fun x H' y => turn j x H H' lt w'.2 (w.yields j H x H' lt g0 y)⟩
  · have e : j = n := by omega
    subst e
    exact .inl ⟨w.stops H g0, done H w'.2⟩
end
end Nc

/-! Own rules: a written dict whose keys are tuples. -/
namespace Nc
open PySem PySem.Spec PyProof.Rows L2
abbrev Ent := List L2.Key × Addr × V
section
variable {X : Cx} {pins : List (Addr × Obj)} {σ : L2.St} {a : Addr} {A : Around} {E : Value → Shared → Prop}
/-- pair by pair into a dict of tuple keys -/
theorem store_tups (hu : A.units < cLine) : ∀ (es : List Ent) (vs : List (Value × Value)) (kvs : List (List L2.Key × V)) (s : Shared) (H : Hp) (Q : PUnit → Shared → Prop), L2.Inv X pins σ H s → H a = some (.dT kvs) → VV (es.map fun e => (V.ref e.2.1, e.2.2)) vs → (∀ e ∈ es, H e.2.1 = some (.tup (e.1.map kV))) → kvs.length + es.length ≤ sizeLine →
    (∀ s', L2.Inv X pins σ (upd H a (.dT (es.foldl (fun acc e => putK acc e.1 e.2.2) kvs))) s' → Q PUnit.unit s') → wpAny (model X.prog X.w) A (storeAll a vs) Q E s := by
  intro es
  induction es with
  | nil =>
    intro vs kvs s H Q I e rv _ _ q
    cases rv
    unfold storeAll
    rw [List.forIn_nil]
    refine wpAny_pure (q s ?_)
    have back : upd H a (.dT kvs) = H := funext fun b => by
      by_cases c : b = a
      · rw [c, upd_same, e]
      · rw [upd_ne c]
    show L2.Inv X pins σ (upd H a (.dT kvs)) s
    rw [back]
    exact I
  | cons e es ih =>
    intro vs kvs s H Q I ea rv hk room q
    cases rv with
    | cons r0 rv =>
      rename_i v0 vs
      obtain ⟨u, r⟩ := v0
      obtain ⟨r1, r2⟩ := r0
      cases r1
      rw [List.length_cons] at room
      unfold storeAll
      rw [List.forIn_cons]
      obtain ⟨len, sys, xs, rel, dd⟩ := dt_of I.hok ea
      have lx : xs.length ≤ sizeLine := by rw [← Paired.length rel]; exact len
      refine wpAny_bind (wpAny_bind (wpAny_dictSet_heap (hsz := lx) (knd := tupleKind (mixKind X.prog X.w)) hu (key_of I.hok (hk e List.mem_cons_self)) dd fun h' dd' hs => wpAny_pure ?_))
      have l2 : (putK kvs e.1 e.2.2).length ≤ sizeLine := Nat.le_trans (length_putK kvs _ _) (by omega)
      obtain ⟨o, ds, ep, ho, c1, c2, c3, _, c4⟩ := dd'
      have I2 : L2.Inv X pins σ (upd H a (.dT (putK kvs e.1 e.2.2))) { s with heap := h', toks := s.toks + (tupleKind (mixKind X.prog X.w)).draws e.1 } := d_write I (by rw [ea]; exact True.intro) hs ⟨o, ho⟩ ⟨l2, sys, _, (rel.put e.1 (hk e List.mem_cons_self) r2).keeps fun c ys ec => (by rw [upd_ne (ne_of ec ea (fun z => nomatch z))]; exact ec), o, ds, ep, ho, c1, c2, c3, c4⟩
      have up : ∀ x y : HO, upd (upd H a x) a y = upd H a y := fun x y => funext fun b => by
        by_cases c : b = a
        · rw [c, upd_same, upd_same]
        · rw [upd_ne c, upd_ne c, upd_ne c]
      refine ih vs (putK kvs e.1 e.2.2) _ _ Q I2 upd_same rv (fun e' m => ?_) (by have := length_putK kvs e.1 e.2.2; omega) fun s' I' => q s' ?_
      · rw [upd_ne (ne_of (hk e' (List.mem_cons_of_mem _ m)) ea (fun z => nomatch z))]
        exact hk e' (List.mem_cons_of_mem _ m)
      · rw [up] at I'
        exact I'
end
/-- {t: v, ..}; the new dict stands empty while the pairs are made -/
def tDispT (trs : List (TE × TE)) : TE := fun σ H Q => ∀ p, H p = none → tPairs trs σ (upd H p (.dT [])) fun ps H2 => H2 p = some (.dT []) ∧ ∃ es : List Ent, ps = es.map (fun e => (V.ref e.2.1, e.2.2)) ∧ (∀ e ∈ es, H2 e.2.1 = some (.tup (e.1.map kV))) ∧ es.length ≤ 15 ∧ Q (.ref p) (upd H2 p (.dT (es.foldl (fun acc e => putK acc e.1 e.2.2) [])))
theorem pe_dispT {X : Cx} {pos : Pos} {keys : List (Option Expr)} {values : List Expr} {trs : List (TE × TE)} (hu : X.A.units < cLine) (h : PPs X pos keys values trs) (hall : keys.all (·.isSome) = true) (hl : keys.length = values.length) (h0 : keys ≠ []) (h15 : keys.length ≤ 15) : PE X (.Dict keys values pos) (tDispT trs) := by
  constructor
  intro pins s σ H Q I q
  have I1 := I.laid (a := s.heap.objs.size) (o := .dT []) (h' := s.heap.push { cls := .type "dict", data := .dict #[] }) (t' := s.toks) (fun _ _ q => Heap.get?_push_of_some _ q) (Nat.le_refl _) (dt_empty s.heap I.big)
  refine wpAny_Dict_any hall hl h0 h15 (thn (h.run pins _ σ _ _ I1 (q _ (I.hok.fresh (Nat.le_refl s.heap.objs.size)))) ?_)
  rintro ws s2 ⟨ps, H2, I2, rel, e, es, rfl, hk, few, q2⟩
  exact store_tups hu es ws [] s2 H2 _ I2 e rel hk (by rw [List.length_nil]; have : (15 : Nat) ≤ sizeLine := by decide
                                                       omega) fun s' I' => ⟨.ref s.heap.objs.size, _, I', rfl, q2⟩
end Nc

/-! Own rules: how many a set of tuples holds, no two alike. -/
namespace Nc
open PySem PySem.Spec PyProof.Rows L2
def rLenTN (P : Program) (w : World) : List V → Hp → VK → Prop := fun vs H Q => ∃ (a : Addr) (L : List (Addr × List Int)), vs = [.ref a] ∧ H a = some (SetTO P w a L) ∧ ((L.map (·.2)).Nodup → Q (.int (L.length : Nat)) H)
theorem call_len_setN {X : Cx} : CallR X (.builtin "len") (rLenTN X.prog X.w) := by
  intro pins s σ H xs us Q I r h
  obtain ⟨a, L, rfl, ha, q⟩ := h
  have R0 : SetT0 X.prog X.w s.heap a L := (I.hok a _ ha).1
  obtain ⟨es, ep, t, R⟩ := R0.ex
  exact call_len_setT pins s σ H _ us Q I r ⟨a, L, rfl, ha, q R.2.2.2.1⟩
/-- no two alike, all among others: no more than these -/
theorem len_le_of_sub {α : Type} [BEq α] [LawfulBEq α] : ∀ {l m : List α}, l.Nodup → (∀ x ∈ l, x ∈ m) → l.length ≤ m.length
  | [], _, _, _ => Nat.zero_le _
  | x :: l, m, n, h => by
    obtain ⟨n1, n2⟩ := List.nodup_cons.mp n
    have mx := h x List.mem_cons_self
    have := len_le_of_sub (l := l) (m := m.erase x) n2 fun y hy => (List.mem_erase_of_ne (fun e => n1 (by rw [← e]; exact hy))).mpr (h y (List.mem_cons_of_mem _ hy))
    rw [List.length_erase_of_mem mx] at this
    have pos : 0 < m.length := List.length_pos_of_mem mx
    rw [List.length_cons]
    omega
end Nc

/-! Own rules: slices with the step -1. -/
namespace Nc
open PySem PySem.Spec PyProof.Rows L2
theorem range_down (n : Nat) (s : Nat) : sliceRange ((s + n : Nat) : Int) (s : Int) (-1) = (List.range n).map fun k => s + n - k := by
  unfold sliceRange
  have h1 : ¬ ((-1 : Int) > 0) := by decide
  by_cases h : n = 0
  · subst h
    simp
  · have h2 : (((s + n : Nat) : Int) > (s : Int)) := by omega
    have e : (((s + n : Nat) : Int) - (s : Int) - -1 - 1) / (- -1) = (n : Int) := by
      rw [show (- -1 : Int) = 1 by decide, Int.ediv_one]
      omega
    simp only [h1, if_false, h2, if_true, e, Int.toNat_natCast]
    apply List.map_congr_left
    intro k hk
    have := List.mem_range.mp hk
    omega
/-- xs[a:b:-1] by what is picked -/
def tSlB (K : PySem.W.Frag) (lo hi : Option Int) (F : List V → List V) (te : TE) : TE := fun σ H Q => te σ H fun x H1 => ∃ a xs, x = .ref a ∧ SqL K H1 a xs ∧ ∀ p H2, Same H1 H2 → H1 p = none → H2 p = some (.lst (F xs)) → Q (.ref p) H2
/-- F tells what is picked, of values and of what stands for them -/
structure Picks (lo hi : Option Int) (F : ∀ {α : Type}, List α → List α) : Prop where
  pick : ∀ items : Array Value, slicePick items lo hi (some (-1)) = (F items.toList).toArray
  vals : ∀ {xs : List V} {us : List Value}, Vals xs us → Vals (F xs) (F us)
  len : ∀ (xs : List V), (F xs).length ≤ xs.length
section
variable {X : Cx}
theorem pe_slB {lo hi : Option Int} {elo ehi : Option Expr} {e : Expr} {te : TE} {k : Nat} {p1 p2 p3 pos : Pos} {F : ∀ {α : Type}, List α → List α} (pk : Picks lo hi F) (he : PE X e te)
    {tl th : TO} (hl : PO X elo tl) (ql : ∀ σ H (Q : Option Int → Hp → Prop), Q lo H → tl σ H Q) (hh : PO X ehi th) (qh : ∀ σ H (Q : Option Int → Hp → Prop), Q hi H → th σ H Q) :
    PE X (.Subscript e (.Slice elo ehi (some (.UnaryOp .USub (.Constant (.int 1) k p1) p2)) p3) pos) (tSlB X.K lo hi F te) := by
  refine ⟨fun pins s σ H Q I h => ?_⟩
  refine Subscript_ (thn (he.run pins s σ H _ I h) fun v s1 ⟨x, H1, I1, r1, q1⟩ => ?_)
  obtain ⟨a, xs, ex, hx, q⟩ := q1
  subst ex
  cases r1
  have hst : PO X (some (.UnaryOp .USub (.Constant (.int 1) k p1) p2)) (tPart (tUn (rU fun i => .int (-i)) (tC (.int 1)))) := po_some (pe_un un_neg pe_int)
  refine wpAny_Slice (thn (hl.run pins s1 σ H1 (fun o H2 => o = lo ∧ H2 = H1) I1 (ql _ _ _ ⟨rfl, rfl⟩)) fun vl s2 ⟨l, H2, I2, pl, el, e2⟩ => ?_)
  subst el e2
  refine thn (hh.run pins s2 σ H2 (fun o H3 => o = hi ∧ H3 = H2) I2 (qh _ _ _ ⟨rfl, rfl⟩)) fun vu s3 ⟨u, H3, I3, pu, eu, e3⟩ => ?_
  subst eu e3
  refine thn (hst.run pins s3 σ H3 (fun o H4 => o = some (-1) ∧ H4 = H3) I3 ⟨1, rfl, -1, rfl, rfl, rfl⟩) fun vs s4 ⟨o, H4, I4, ps, eo, e4⟩ => ?_
  subst eo e4
  have I5 : Inv X pins σ H4 { s4 with heap := s4.heap.push { cls := .type "slice", data := .fields #[vl, vu, vs] } } := I4.kept (t' := s4.toks) fun b ob q => Heap.get?_push_of_some _ q
  obtain ⟨its, r, ht, hz⟩ := I5.list hx
  have hlen := r.length
  show wpAny (model X.prog X.w) X.A (subscriptTail e (.Slice elo ehi (some (.UnaryOp .USub (.Constant (.int 1) k p1) p2)) p3) (.ref a) (.ref s4.heap.objs.size)) (EP X pins σ Q) X.xe { s4 with heap := s4.heap.push { cls := .type "slice", data := .fields #[vl, vu, vs] } }
  refine tail_any (ops := [.ref a, .ref s4.heap.objs.size]) ht.isList.typeIs (PySem.slot_list_getitem.lookup) ?_ (by with_unfolding_all rfl)
  refine wpAny_getItem_list_slice ht.isList (Heap.IsSliceOf.new _ vl vu vs) pl pu ps (by decide) ?_ (by rw [List.size_toArray]; omega)
  rw [pk.pick]
  have nn := I5.hok.fresh (Nat.le_refl _)
  refine ⟨.ref _, _, I5.laid (t' := s4.toks) (o := .lst (F xs)) (fun b ob q => Heap.get?_push_of_some _ q) (Nat.le_refl _) ?_, rfl, q _ _ (Same.upd nn) nn upd_same⟩
  exact ⟨Nat.le_trans (pk.len xs) hz, _, 0, pk.vals r, Heap.get?_push_size _ rfl⟩
end
theorem range_rev (m s : Nat) : (List.range m).map (fun k => s + m - k) = ((List.range m).map (fun k => s + 1 + k)).reverse := by
  apply List.ext_getElem
  · simp
  · intro i h1 h2
    simp only [List.length_map, List.length_range] at h1
    rw [List.getElem_reverse]
    simp only [List.getElem_map, List.getElem_range, List.length_map, List.length_range]
    omega
theorem range_rev0 (m : Nat) : (List.range m).map (fun k => m - 1 - k) = ((List.range m).map (fun k => 0 + k)).reverse := by
  apply List.ext_getElem
  · simp
  · intro i h1 h2
    simp only [List.length_map, List.length_range] at h1
    rw [List.getElem_reverse]
    simp only [List.getElem_map, List.getElem_range, List.length_map, List.length_range]
    omega
/-- xs[-2:0:-1] -/
def inner {α : Type} (l : List α) : List α := (l.drop 1).dropLast.reverse
/-- xs[-2::-1] -/
def backL {α : Type} (l : List α) : List α := l.dropLast.reverse
theorem picks_inner : Picks (some (-2)) (some 0) inner where
  pick := fun items => by
    unfold slicePick inner
    rcases Nat.lt_or_ge items.size 2 with h | h
    · have e : (sliceBounds (some (-2)) (some 0) (some (-1)) items.size).1 = -1 := by
        unfold sliceBounds
        simp only [Option.getD_some]
        have : ¬ ((-1 : Int) > 0) := by decide
        simp only [this, if_false]
        rw [if_pos (by decide)]
        omega
      have e2 : ¬ (sliceBounds (some (-2)) (some 0) (some (-1)) items.size).1 > (sliceBounds (some (-2)) (some 0) (some (-1)) items.size).2.1 := by
        rw [e]
        unfold sliceBounds
        simp only [Option.getD_some]
        have : ¬ ((-1 : Int) > 0) := by decide
        simp only [this, if_false]
        omega
      have e3 : (sliceBounds (some (-2)) (some 0) (some (-1)) items.size).2.2 = -1 := rfl
      have e4 : (items.toList.drop 1).dropLast = [] := by
        apply List.eq_nil_of_length_eq_zero
        rw [List.length_dropLast, List.length_drop, Array.length_toList]
        omega
      rw [e3, e4]
      unfold sliceRange
      rw [if_neg (by decide), if_neg e2]
      rfl
    · obtain ⟨m, hm⟩ : ∃ m, items.size = m + 2 := ⟨items.size - 2, by omega⟩
      have e : sliceBounds (some (-2)) (some 0) (some (-1)) items.size = (((0 + m : Nat) : Int), ((0 : Nat) : Int), -1) := by
        unfold sliceBounds
        simp only [Option.getD_some]
        have : ¬ ((-1 : Int) > 0) := by decide
        simp only [this, if_false]
        rw [if_pos (by decide), if_neg (by decide), hm]
        refine Prod.ext ?_ (Prod.ext ?_ rfl)
        · show max (-1) (min (-2 + ((m + 2 : Nat) : Int)) (((m + 2 : Nat) : Int) - 1)) = ((0 + m : Nat) : Int)
          omega
        · show max (-1) (min 0 (((m + 2 : Nat) : Int) - 1)) = ((0 : Nat) : Int)
          omega
      rw [e, range_down, range_rev, List.filterMap_reverse, pick_run items (0 + 1) m, List.dropLast_eq_take, List.length_drop, Array.length_toList, hm]
      rfl
  vals := fun r => by
    unfold inner
    have d := Vals.drop 1 r
    refine Vals.reverse ?_
    rw [List.dropLast_eq_take, List.dropLast_eq_take, d.length]
    exact Vals.take _ d
  len := fun xs => by
    unfold inner
    rw [List.length_reverse, List.length_dropLast, List.length_drop]
    omega
theorem picks_backL : Picks (some (-2)) none backL where
  pick := fun items => by
    unfold slicePick backL
    rcases Nat.eq_zero_or_pos items.size with h | h
    · have e : items.toList = [] := List.eq_nil_of_length_eq_zero (by rw [Array.length_toList]; exact h)
      have e1 : sliceBounds (some (-2)) none (some (-1)) items.size = (-1, -1, -1) := by
        rw [h]
        rfl
      rw [e, e1]
      rfl
    · obtain ⟨m, hm⟩ : ∃ m, items.size = m + 1 := ⟨items.size - 1, by omega⟩
      have e : sliceBounds (some (-2)) none (some (-1)) items.size = ((m : Int) - 1, -1, -1) := by
        unfold sliceBounds
        simp only [Option.getD_some]
        have : ¬ ((-1 : Int) > 0) := by decide
        simp only [this, if_false]
        rw [if_pos (by decide), hm]
        refine Prod.ext ?_ rfl
        show max (-1) (min (-2 + ((m + 1 : Nat) : Int)) (((m + 1 : Nat) : Int) - 1)) = (m : Int) - 1
        omega
      rw [e]
      show ((sliceRange ((m : Int) - 1) (-1) (-1)).filterMap (items[·]?)).toArray = _
      rw [PySem.W.krv_sliceRange, range_rev0, List.filterMap_reverse, pick_run items 0 m, List.dropLast_eq_take, Array.length_toList, hm]
      rfl
  vals := fun r => by
    unfold backL
    refine Vals.reverse ?_
    rw [List.dropLast_eq_take, List.dropLast_eq_take, r.length]
    exact Vals.take _ r
  len := fun xs => by
    unfold backL
    rw [List.length_reverse, List.length_dropLast]
    omega
end Nc

/-! Own rules: comprehensions whose items are told one by one. -/
namespace Nc
open PySem PySem.Spec PyProof.Rows L2
section
variable {J : It} {n : Nat} {G : Hp → Prop} {Y : Nat → Hp → V → Hp → Prop} {g : TG} {te : TE} {tt : TT} {vs : List Nat} {σ : L2.St} {H1 : Hp} {D : Addr} {Qd : Hp → Prop}
theorem same_upd_of {H H' : Hp} {D : Addr} {o : HO} (s : Same H H') (n : H D = none) : Same H (upd H' D o) := fun b x e => by
  rw [upd_ne (ne_of_none e n)]
  exact s b x e
/-- each item is told by Rel, of the heap where it was made; Rel speaks of what stood ahead and of what is not the new list -/
theorem lc_rel (w : Walk J n G Y) (nD : H1 D = none) (few : n ≤ 100000) (Gs : ∀ H, Same H1 H → G H) (Rel : Nat → V → Hp → Prop)
    (stay : ∀ i y H H', (∀ b o, b ≠ D → H b = some o → H' b = some o) → Rel i y H → Rel i y H')
    (hs : ∀ i x H H' (Kp : VK), i < n → Same H1 H → (∃ acc, H D = some (.lst acc)) → Y i H x H' → (∀ y H4, Same H H4 → Rel i y H4 → Kp y H4) → g x (wipe σ vs) H' fun σ2 H2 => wipe σ2 vs = wipe σ vs ∧ te σ2 H2 Kp)
    (hd : ∀ H' ys, Same H1 H' → H' D = some (.lst ys) → ys.length = n → (∀ i y, ys[i]? = some y → Rel i y H') → Qd H') :
    ∃ W : Nat → Nat → Hp → Prop, (∃ m, W 0 m (upd H1 D (.lst []))) ∧ ∀ i m H, W i m H →
      (J.stop i H ∧ Qd H) ∨ (J.go i H ∧ ∃ Nx : Hp → Prop, (∀ H', Nx H' → ∃ m', m' < m ∧ W (i + 1) m' H') ∧ ∀ x H', J.yld i H x H' → g x (wipe σ vs) H' fun σ2 H2 => wipe σ2 vs = wipe σ vs ∧ tYes σ2 H2 fun b H3 =>
        if b = true then te σ2 H3 fun y H4 => ∃ acc, H4 D = some (.lst acc) ∧ acc.length < sizeLine ∧ Nx (upd H4 D (.lst (acc ++ [y]))) else Nx H3) := by
  refine lc_it w (tt := tYes) (fun i H => Same H1 H ∧ ∃ ys, H D = some (.lst ys) ∧ ys.length = i ∧ ∀ j y, ys[j]? = some y → Rel j y H) ⟨same_upd_of (fun _ _ e => e) nD, [], upd_same, rfl, fun _ _ e => nomatch e⟩ (fun i H _ z => Gs H z.1) (fun i x H H' hi z y => ?_) fun H z => ?_
  · obtain ⟨s1, ys, eD, len, rel⟩ := z
    refine hs i x H H' _ hi s1 ⟨ys, eD⟩ y fun v H4 s4 r4 => ?_
    have e4 := s4 _ _ eD
    have s14 : Same H1 H4 := fun b o e => s4 _ _ (s1 _ _ e)
    have lift : ∀ b o, b ≠ D → H4 b = some o → (upd H4 D (.lst (ys ++ [v]))) b = some o := fun b o nb e => by rw [upd_ne nb]; exact e
    refine ⟨ys, e4, Nat.lt_of_lt_of_le (show ys.length < 100001 by omega) (by decide), same_upd_of s14 nD, ys ++ [v], upd_same, by rw [List.length_append, len]; rfl, fun j y' ey => ?_⟩
    by_cases c : j < ys.length
    · rw [List.getElem?_append_left c] at ey
      exact stay j y' H _ (fun b o nb e => lift b o nb (s4 _ _ e)) (rel j y' ey)
    · rw [List.getElem?_append_right (by omega)] at ey
      have hj : j = i := by
        have := (List.getElem?_eq_some_iff.mp ey).1
        simp at this
        omega
      subst hj
      have e0 : j - ys.length = 0 := by omega
      rw [e0] at ey
      cases Option.some.inj ey
      exact stay j v H4 _ lift r4
  · obtain ⟨s1, ys, eD, len, rel⟩ := z
    exact hd H ys s1 eD len rel
/-- .. each item is a value that is known -/
theorem lc_val (w : Walk J n G Y) (nD : H1 D = none) (few : n ≤ 100000) (Gs : ∀ H, Same H1 H → G H) (ys : List V) (ly : ys.length = n)
    (hs : ∀ i x y H H' (Kp : VK), ys[i]? = some y → Same H1 H → (∃ acc, H D = some (.lst acc)) → Y i H x H' → (∀ H4, Same H H4 → Kp y H4) → g x (wipe σ vs) H' fun σ2 H2 => wipe σ2 vs = wipe σ vs ∧ te σ2 H2 Kp)
    (hd : ∀ H', Same H1 H' → H' D = some (.lst ys) → Qd H') :
    ∃ W : Nat → Nat → Hp → Prop, (∃ m, W 0 m (upd H1 D (.lst []))) ∧ ∀ i m H, W i m H →
      (J.stop i H ∧ Qd H) ∨ (J.go i H ∧ ∃ Nx : Hp → Prop, (∀ H', Nx H' → ∃ m', m' < m ∧ W (i + 1) m' H') ∧ ∀ x H', J.yld i H x H' → g x (wipe σ vs) H' fun σ2 H2 => wipe σ2 vs = wipe σ vs ∧ tYes σ2 H2 fun b H3 =>
        if b = true then te σ2 H3 fun y H4 => ∃ acc, H4 D = some (.lst acc) ∧ acc.length < sizeLine ∧ Nx (upd H4 D (.lst (acc ++ [y]))) else Nx H3) := by
  refine lc_rel w nD few Gs (fun i y _ => ys[i]? = some y) (fun _ _ _ _ _ r => r) (fun i x H H' Kp hi s1 eD y fin => ?_) fun H' zs s eD len rel => ?_
  · have ey : ys[i]? = some ys[i] := List.getElem?_eq_getElem (by omega)
    exact hs i x _ H H' Kp ey s1 eD y fun H4 s4 => fin _ H4 s4 ey
  · have e : zs = ys := by
      apply List.ext_getElem? 
      intro i
      by_cases c : i < zs.length
      · have ez : zs[i]? = some zs[i] := List.getElem?_eq_getElem c
        rw [ez, rel i _ ez]
      · rw [List.getElem?_eq_none (by omega), List.getElem?_eq_none (by omega)]
    rw [e] at eD
    exact hd H' s eD
/-- .. with a test: the items of those that pass it -/
theorem lc_fil (w : Walk J n G Y) (nD : H1 D = none) (few : n ≤ 100000) (Gs : ∀ H, Same H1 H → G H) (b : Nat → Bool) (F : Nat → V)
    (hs : ∀ i x H H' (Kp : VK) (Kn : Hp → Prop), i < n → Same H1 H → (∃ acc, H D = some (.lst acc)) → Y i H x H' → (∀ H4, b i = true → Same H H4 → Kp (F i) H4) → (∀ H4, b i = false → Same H H4 → Kn H4) → g x (wipe σ vs) H' fun σ2 H2 => wipe σ2 vs = wipe σ vs ∧ tt σ2 H2 fun c H3 => if c = true then te σ2 H3 Kp else Kn H3)
    (hd : ∀ H', Same H1 H' → H' D = some (.lst (((List.range n).filter b).map F)) → Qd H') :
    ∃ W : Nat → Nat → Hp → Prop, (∃ m, W 0 m (upd H1 D (.lst []))) ∧ ∀ i m H, W i m H →
      (J.stop i H ∧ Qd H) ∨ (J.go i H ∧ ∃ Nx : Hp → Prop, (∀ H', Nx H' → ∃ m', m' < m ∧ W (i + 1) m' H') ∧ ∀ x H', J.yld i H x H' → g x (wipe σ vs) H' fun σ2 H2 => wipe σ2 vs = wipe σ vs ∧ tt σ2 H2 fun b H3 =>
        if b = true then te σ2 H3 fun y H4 => ∃ acc, H4 D = some (.lst acc) ∧ acc.length < sizeLine ∧ Nx (upd H4 D (.lst (acc ++ [y]))) else Nx H3) := by
  refine lc_it w (fun i H => Same H1 H ∧ H D = some (.lst (((List.range i).filter b).map F))) ⟨same_upd_of (fun _ _ e => e) nD, upd_same⟩ (fun i H _ z => Gs H z.1) (fun i x H H' hi z y => ?_) fun H z => hd H z.1 z.2
  obtain ⟨s1, eD⟩ := z
  refine hs i x H H' _ _ hi s1 ⟨_, eD⟩ y (fun H4 hb s4 => ?_) fun H4 hb s4 => ?_
  · have s14 : Same H1 H4 := fun b o e => s4 _ _ (s1 _ _ e)
    refine ⟨_, s4 _ _ eD, ?_, same_upd_of s14 nD, ?_⟩
    · rw [List.length_map]
      have := List.length_filter_le b (List.range i)
      rw [List.length_range] at this
      exact Nat.lt_of_lt_of_le (show _ < 100001 by omega) (by decide)
    · rw [upd_same, List.range_succ, List.filter_append, List.map_append, List.filter_cons_of_pos hb]
      rfl
  · have s14 : Same H1 H4 := fun b o e => s4 _ _ (s1 _ _ e)
    refine ⟨s14, ?_⟩
    rw [List.range_succ, List.filter_append, List.filter_cons_of_neg (by rw [hb]; decide), List.filter_nil, List.append_nil]
    exact s4 _ _ eD
end
end Nc

/-! Own rules: comprehensions that make a new thing for each item. -/
namespace Nc
open PySem PySem.Spec PyProof.Rows L2
section
variable {J : It} {n : Nat} {G : Hp → Prop} {Y : Nat → Hp → V → Hp → Prop} {g : TG} {te : TE} {tt : TT} {vs : List Nat} {σ : L2.St} {H1 : Hp} {D : Addr} {Qd : Hp → Prop}
/-- new things at ks, one for each of L -/
def News (H : Hp) (D : Addr) (ob : Nat → HO) (L : List Nat) (ks : List Addr) : Prop := ks.length = L.length ∧ ∀ (j i : Nat) (k : Addr), L[j]? = some i → ks[j]? = some k → k ≠ D ∧ H k = some (ob i)
theorem News.snoc {H H' : Hp} {D : Addr} {ob : Nat → HO} {L : List Nat} {ks : List Addr} {i : Nat} {k : Addr} (h : News H D ob L ks) (s : ∀ b o, b ≠ D → H b = some o → H' b = some o) (n : k ≠ D) (e : H' k = some (ob i)) : News H' D ob (L ++ [i]) (ks ++ [k]) := by
  refine ⟨by rw [List.length_append, List.length_append, h.1]; rfl, fun j a b ea eb => ?_⟩
  by_cases c : j < ks.length
  · rw [List.getElem?_append_left c] at eb
    rw [List.getElem?_append_left (by rw [← h.1]; exact c)] at ea
    have := h.2 j a b ea eb
    exact ⟨this.1, s _ _ this.1 this.2⟩
  · rw [List.getElem?_append_right (by omega)] at eb
    rw [List.getElem?_append_right (by rw [← h.1]; omega)] at ea
    have hj := (List.getElem?_eq_some_iff.mp eb).1
    simp at hj
    rw [hj] at eb
    rw [← h.1, hj] at ea
    cases Option.some.inj ea
    cases Option.some.inj eb
    exact ⟨n, e⟩
theorem lc_new (w : Walk J n G Y) (nD : H1 D = none) (few : n ≤ 100000) (Gs : ∀ H, Same H1 H → G H) (b : Nat → Bool) (ob : Nat → HO)
    (hs : ∀ i x H H' (Kp : VK) (Kn : Hp → Prop), i < n → Same H1 H → (∃ acc, H D = some (.lst acc)) → Y i H x H' → (∀ t H4, b i = true → Same H H4 → H t = none → H4 t = some (ob i) → Kp (.ref t) H4) → (∀ H4, b i = false → Same H H4 → Kn H4) → g x (wipe σ vs) H' fun σ2 H2 => wipe σ2 vs = wipe σ vs ∧ tt σ2 H2 fun c H3 => if c = true then te σ2 H3 Kp else Kn H3)
    (hd : ∀ H' ks, Same H1 H' → H' D = some (.lst (ks.map V.ref)) → News H' D ob ((List.range n).filter b) ks → Qd H') :
    ∃ W : Nat → Nat → Hp → Prop, (∃ m, W 0 m (upd H1 D (.lst []))) ∧ ∀ i m H, W i m H →
      (J.stop i H ∧ Qd H) ∨ (J.go i H ∧ ∃ Nx : Hp → Prop, (∀ H', Nx H' → ∃ m', m' < m ∧ W (i + 1) m' H') ∧ ∀ x H', J.yld i H x H' → g x (wipe σ vs) H' fun σ2 H2 => wipe σ2 vs = wipe σ vs ∧ tt σ2 H2 fun b H3 =>
        if b = true then te σ2 H3 fun y H4 => ∃ acc, H4 D = some (.lst acc) ∧ acc.length < sizeLine ∧ Nx (upd H4 D (.lst (acc ++ [y]))) else Nx H3) := by
  refine lc_it w (fun i H => Same H1 H ∧ ∃ ks, H D = some (.lst (ks.map V.ref)) ∧ News H D ob ((List.range i).filter b) ks) ⟨same_upd_of (fun _ _ e => e) nD, [], upd_same, rfl, fun _ _ _ e => nomatch e⟩ (fun i H _ z => Gs H z.1) (fun i x H H' hi z y => ?_) fun H z => ?_
  · obtain ⟨s1, ks, eD, nw⟩ := z
    refine hs i x H H' _ _ hi s1 ⟨_, eD⟩ y (fun t H4 hb s4 nt et => ?_) fun H4 hb s4 => ?_
    · have s14 : Same H1 H4 := fun b o e => s4 _ _ (s1 _ _ e)
      have tD : t ≠ D := Ne.symm (ne_of_none eD nt)
      have lift : ∀ a o, a ≠ D → H a = some o → (upd H4 D (.lst (ks.map V.ref ++ [.ref t]))) a = some o := fun a o na e => by rw [upd_ne na]; exact s4 _ _ e
      refine ⟨_, s4 _ _ eD, ?_, same_upd_of s14 nD, ks ++ [t], ?_, ?_⟩
      · rw [List.length_map, nw.1]
        have := List.length_filter_le b (List.range i)
        rw [List.length_range] at this
        exact Nat.lt_of_lt_of_le (show _ < 100001 by omega) (by decide)
      · rw [upd_same, List.map_append]
        rfl
      · rw [List.range_succ, List.filter_append, List.filter_cons_of_pos hb]
        exact nw.snoc lift tD (by rw [upd_ne tD]; exact et)
    · have s14 : Same H1 H4 := fun b o e => s4 _ _ (s1 _ _ e)
      refine ⟨s14, ks, s4 _ _ eD, ?_⟩
      rw [List.range_succ, List.filter_append, List.filter_cons_of_neg (by rw [hb]; decide), List.filter_nil, List.append_nil]
      exact ⟨nw.1, fun j a k ea ek => ⟨(nw.2 j a k ea ek).1, s4 _ _ (nw.2 j a k ea ek).2⟩⟩
  · obtain ⟨s1, ks, eD, nw⟩ := z
    exact hd H ks s1 eD nw
/-- .. without a test -/
theorem lc_newA (w : Walk J n G Y) (nD : H1 D = none) (few : n ≤ 100000) (Gs : ∀ H, Same H1 H → G H) (ob : Nat → HO)
    (hs : ∀ i x H H' (Kp : VK), i < n → Same H1 H → (∃ acc, H D = some (.lst acc)) → Y i H x H' → (∀ t H4, Same H H4 → H t = none → H4 t = some (ob i) → Kp (.ref t) H4) → g x (wipe σ vs) H' fun σ2 H2 => wipe σ2 vs = wipe σ vs ∧ te σ2 H2 Kp)
    (hd : ∀ H' ks, Same H1 H' → H' D = some (.lst (ks.map V.ref)) → News H' D ob (List.range n) ks → Qd H') :
    ∃ W : Nat → Nat → Hp → Prop, (∃ m, W 0 m (upd H1 D (.lst []))) ∧ ∀ i m H, W i m H →
      (J.stop i H ∧ Qd H) ∨ (J.go i H ∧ ∃ Nx : Hp → Prop, (∀ H', Nx H' → ∃ m', m' < m ∧ W (i + 1) m' H') ∧ ∀ x H', J.yld i H x H' → g x (wipe σ vs) H' fun σ2 H2 => wipe σ2 vs = wipe σ vs ∧ tYes σ2 H2 fun b H3 =>
        if b = true then te σ2 H3 fun y H4 => ∃ acc, H4 D = some (.lst acc) ∧ acc.length < sizeLine ∧ Nx (upd H4 D (.lst (acc ++ [y]))) else Nx H3) := by
  refine lc_new w nD few Gs (fun _ => true) ob (fun i x H H' Kp Kn hi s e y fin _ => ?_) fun H' ks s e nw => ?_
  · exact hs i x H H' Kp hi s e y fun t H4 s4 nt et => fin t H4 rfl s4 nt et
  · rw [List.filter_eq_self.mpr fun _ _ => rfl] at nw
    exact hd H' ks s e nw
/-- the pair that stands at an address -/
def hv (H : Hp) (k : Addr) : Int × Int := match H k with
  | some (.tup [.int x, .int y]) => (x, y)
  | _ => (0, 0)
theorem hv_of {H : Hp} {k : Addr} {x y : Int} (h : H k = some (.tup [.int x, .int y])) : hv H k = (x, y) := by
  unfold hv
  rw [h]
theorem News.map {H : Hp} {D : Addr} {p : Nat → Int × Int} {L : List Nat} {ks : List Addr} (h : News H D (fun i => .tup [.int (p i).1, .int (p i).2]) L ks) : ks.map (hv H) = L.map p := by
  apply List.ext_getElem?
  intro j
  rw [List.getElem?_map, List.getElem?_map]
  by_cases c : j < ks.length
  · have c2 : j < L.length := by rw [← h.1]; exact c
    have e := (h.2 j L[j] ks[j] (by simp [c2]) (by simp [c])).2
    rw [List.getElem?_eq_getElem c, List.getElem?_eq_getElem c2, Option.map_some, Option.map_some, hv_of e]
  · rw [List.getElem?_eq_none (show ks.length ≤ j by omega), List.getElem?_eq_none (show L.length ≤ j by rw [← h.1]; omega)]
    rfl
theorem News.at_ {H : Hp} {D : Addr} {p : Nat → Int × Int} {L : List Nat} {ks : List Addr} (h : News H D (fun i => .tup [.int (p i).1, .int (p i).2]) L ks) : ∀ k ∈ ks, k ≠ D ∧ H k = some (.tup [.int (hv H k).1, .int (hv H k).2]) ∧ ∃ i ∈ L, hv H k = p i := by
  intro k m
  obtain ⟨j, hj, rfl⟩ := List.getElem_of_mem m
  have c2 : j < L.length := by rw [← h.1]; exact hj
  have e := h.2 j L[j] ks[j] (by simp [c2]) (by simp [hj])
  have v := hv_of e.2
  rw [v]
  exact ⟨e.1, e.2, L[j], List.getElem_mem c2, rfl⟩
end
end Nc

/-! Own rules: min, max of a list of pairs. -/
namespace Nc
open PySem PySem.Spec PyProof.Rows L2
section
theorem tup_more {X : Cx} {s s2 : Shared} {pins : List (Addr × Obj)} {σ : L2.St} {H : Hp} {a b : Addr} {ns ms : List Int} (I : L2.Inv X pins σ H s) (ha : H a = some (.tup (ns.map V.int))) (hb : H b = some (.tup (ms.map V.int))) (hu : X.A.units + 1 < cLine) (kp : KeepH s.heap s2.heap) :
    Ob.RcOp .Gt X.A.in1 s2 (.ref a) (.ref b) (lexP (fun x y => decide (y < x)) (decide (ms.length < ns.length)) ns ms) := by
  obtain ⟨us, r1, ⟨o1, g1, c1, n1, d1⟩, _⟩ := I.tuple (SqT.of ha)
  obtain ⟨vs, r2, ⟨o2, g2, c2, n2, d2⟩, _⟩ := I.tuple (SqT.of hb)
  have i1 : IntsAre us ns := Vals.ints r1
  have i2 : IntsAre vs ms := Vals.ints r2
  have at1 : ∀ j (h1 : j < us.toArray.size), ∃ t, us.toArray[j] = .int (ns.getD j 0) t := fun j h1 => IntsAre.int_at i1 _ _ (by simp at h1; simp [h1])
  have at2 : ∀ j (h1 : j < vs.toArray.size), ∃ t, vs.toArray[j] = .int (ms.getD j 0) t := fun j h1 => IntsAre.int_at i2 _ _ (by simp at h1; simp [h1])
  have R := Ob.RcOp.tuples_gt (A := X.A.in1) (s := s2) (e := fun j => decide (ns.getD j 0 = ms.getD j 0)) (r := fun j => decide (ms.getD j 0 < ns.getD j 0)) ⟨o1, kp _ _ g1, c1, n1, d1⟩ ⟨o2, kp _ _ g2, c2, n2, d2⟩ hu (fun j h1 h2 => by
    obtain ⟨t, et⟩ := at1 j h1
    obtain ⟨u, eu⟩ := at2 j h2
    rw [et, eu, ← Bool.beq_eq_decide_eq]
    exact SeqAt.EqAt.int_int _ _ _ _) (fun j h1 h2 _ => by
    obtain ⟨t, et⟩ := at1 j h1
    obtain ⟨u, eu⟩ := at2 j h2
    rw [et, eu]
    exact Ob.RcOp.gt_int _ _ _ _)
  rw [List.size_toArray, List.size_toArray, i1.length, i2.length] at R
  exact R
def ngP (p : Int × Int) : Int × Int := (-p.1, -p.2)
theorem lexLe_ng (p q : Int × Int) : lexLe (ngP p) (ngP q) ↔ lexLe q p := by
  unfold lexLe ngP
  omega
theorem lexP_pairG (p q : Int × Int) : lexP (fun x y => decide (y < x)) (decide ((2 : Nat) < 2)) [p.1, p.2] [q.1, q.2] = decide (¬ lexLe p q) := by
  show (if decide (p.1 = q.1) = true then (if decide (p.2 = q.2) = true then decide ((2 : Nat) < 2) else decide (q.2 < p.2)) else decide (q.1 < p.1)) = _
  unfold lexLe
  by_cases a : p.1 = q.1
  · rw [if_pos (decide_eq_true a)]
    by_cases b : p.2 = q.2
    · rw [if_pos (decide_eq_true b), decide_eq_false (by omega), decide_eq_false (by omega)]
    · rw [if_neg (by simpa using b)]
      by_cases c : q.2 < p.2
      · rw [decide_eq_true c, decide_eq_true (by omega)]
      · rw [decide_eq_false c, decide_eq_false (by omega)]
  · rw [if_neg (by simpa using a)]
    by_cases c : q.1 < p.1
    · rw [decide_eq_true c, decide_eq_true (by omega)]
    · rw [decide_eq_false c, decide_eq_false (by omega)]
variable {X : Cx}
def rMinS : List V → Hp → VK → Prop := fun vs H Q => ∃ (a : Addr) (ts : List Addr) (f : Addr → Int × Int), vs = [V.ref a] ∧ H a = some (.lst (ts.map V.ref)) ∧ (∀ t ∈ ts, H t = some (.tup [.int (f t).1, .int (f t).2])) ∧ 0 < ts.length ∧ ∀ t ∈ ts, (∀ u ∈ ts, lexLe (f t) (f u)) → Q (.ref t) H
def rMaxS : List V → Hp → VK → Prop := fun vs H Q => ∃ (a : Addr) (ts : List Addr) (f : Addr → Int × Int), vs = [V.ref a] ∧ H a = some (.lst (ts.map V.ref)) ∧ (∀ t ∈ ts, H t = some (.tup [.int (f t).1, .int (f t).2])) ∧ 0 < ts.length ∧ ∀ t ∈ ts, (∀ u ∈ ts, lexLe (f u) (f t)) → Q (.ref t) H
theorem refs_val {xs : List V} {us : List Value} (r : Vals xs us) {ts : List Addr} (e : xs = ts.map V.ref) {i : Nat} {v : Value} (h : us.toArray[i]? = some v) : ∃ t, ts[i]? = some t ∧ v = .ref t := by
  subst e
  have hi : i < us.length := by
    have := (Array.getElem?_eq_some_iff.mp h).1
    simpa using this
  have hl := r.length
  rw [List.length_map] at hl
  have e1 : (ts.map V.ref)[i]? = some (.ref ts[i]) := by simp [show i < ts.length by omega]
  obtain ⟨u, e2, e3⟩ := Vals.get r e1
  refine ⟨ts[i], by simp, ?_⟩
  cases e3
  have : us[i]? = some v := by simpa using h
  rw [this] at e2
  exact Option.some.inj e2
theorem cr_minS (hc : X.calm = true) (hu : X.A.units + 1 < cLine) : CallR X (.builtin "min") rMinS := by
  intro pins s σ H vs us Q I r h
  obtain ⟨a, ts, f, rfl, ha, hs, h0, q⟩ := h
  rw [Vals.ref1 r]
  obtain ⟨its, rv, hl, _⟩ := I.list (SqL.of ha)
  have hn : its.length = ts.length := by rw [← rv.length, List.length_map]
  have val : ∀ (i : Nat) v, its.toArray[i]? = some v → ∃ t, v = .ref t ∧ t ∈ ts ∧ f (ts.getD i a) = f t := fun i v hv => by
    obtain ⟨t, e, rfl⟩ := refs_val rv rfl hv
    refine ⟨t, rfl, List.mem_of_getElem? e, ?_⟩
    rw [List.getD_eq_getElem?_getD, e]
    rfl
  refine call_min_walkH (PySem.W.iter_listW (A := X.A.in1) (I.ok.hd hc) hl.isList fun s₂ e W st hfp hw hk => ?_)
  refine ⟨_, _, _, _, _, _, _, s.heap, fun i j => decide (¬ lexLe (f (ts.getD j a)) (f (ts.getD i a))), rfl, W, st, hfp, by rw [List.size_toArray, hn]; exact h0, hw, hk, fun i j vi vj s' Q' E' hk' hi hj hq => ?_, fun v s' hP m => ?_⟩
  · obtain ⟨t, rfl, mt, e1⟩ := val i vi hi
    obtain ⟨u, rfl, mu, e2⟩ := val j vj hj
    have z := tup_less (s2 := s') (ns := [(f t).1, (f t).2]) (ms := [(f u).1, (f u).2]) I (hs t mt) (hs u mu) hu hk'
    have e3 : lexP (fun x y => decide (x < y)) (decide ([(f t).1, (f t).2].length < [(f u).1, (f u).2].length)) [(f t).1, (f t).2] [(f u).1, (f u).2] = decide (¬ lexLe (f u) (f t)) := lexP_pair _ _
    rw [e3] at z
    have hq : Q' (.bool (decide (¬ lexLe (f (ts.getD j a)) (f (ts.getD i a))))) s' := hq
    rw [e1, e2] at hq
    exact z X.prog X.w _ _ hq
  · obtain ⟨h', tk, rfl, hk'⟩ := PySem.W.moved_old e rfl m
    obtain ⟨t, rfl, mt, e1⟩ := val _ v hP
    obtain ⟨b1, b2⟩ := argBest_le (fun i => f (ts.getD i a)) (its.toArray.size - 1)
    refine ⟨.ref t, H, I.kept (t' := tk) fun c o e => hk' c o e, rfl, q t mt fun u mu => ?_⟩
    obtain ⟨i, hi, e⟩ := List.mem_iff_getElem.mp mu
    have e2 : f (ts.getD i a) = f u := by rw [List.getD_eq_getElem?_getD, List.getElem?_eq_getElem hi, e]; rfl
    rw [← e1, ← e2]
    exact b2 i (by rw [List.size_toArray]; omega)
theorem cr_maxS (hc : X.calm = true) (hu : X.A.units + 1 < cLine) : CallR X (.builtin "max") rMaxS := by
  intro pins s σ H vs us Q I r h
  obtain ⟨a, ts, f, rfl, ha, hs, h0, q⟩ := h
  rw [Vals.ref1 r]
  obtain ⟨its, rv, hl, _⟩ := I.list (SqL.of ha)
  have hn : its.length = ts.length := by rw [← rv.length, List.length_map]
  have val : ∀ (i : Nat) v, its.toArray[i]? = some v → ∃ t, v = .ref t ∧ t ∈ ts ∧ f (ts.getD i a) = f t := fun i v hv => by
    obtain ⟨t, e, rfl⟩ := refs_val rv rfl hv
    refine ⟨t, rfl, List.mem_of_getElem? e, ?_⟩
    rw [List.getD_eq_getElem?_getD, e]
    rfl
  refine call_max_walkH (PySem.W.iter_listW (A := X.A.in1) (I.ok.hd hc) hl.isList fun s₂ e W st hfp hw hk => ?_)
  refine ⟨_, _, _, _, _, _, _, s.heap, fun i j => decide (¬ lexLe (ngP (f (ts.getD j a))) (ngP (f (ts.getD i a)))), rfl, W, st, hfp, by rw [List.size_toArray, hn]; exact h0, hw, hk, fun i j vi vj s' Q' E' hk' hi hj hq => ?_, fun v s' hP m => ?_⟩
  · obtain ⟨t, rfl, mt, e1⟩ := val i vi hi
    obtain ⟨u, rfl, mu, e2⟩ := val j vj hj
    have z := tup_more (s2 := s') (ns := [(f t).1, (f t).2]) (ms := [(f u).1, (f u).2]) I (hs t mt) (hs u mu) hu hk'
    have e3 : lexP (fun x y => decide (y < x)) (decide ([(f u).1, (f u).2].length < [(f t).1, (f t).2].length)) [(f t).1, (f t).2] [(f u).1, (f u).2] = decide (¬ lexLe (ngP (f u)) (ngP (f t))) := (lexP_pairG _ _).trans (by rw [decide_eq_decide, lexLe_ng])
    rw [e3] at z
    have hq : Q' (.bool (decide (¬ lexLe (ngP (f (ts.getD j a))) (ngP (f (ts.getD i a)))))) s' := hq
    rw [e1, e2] at hq
    exact z X.prog X.w _ _ hq
  · obtain ⟨h', tk, rfl, hk'⟩ := PySem.W.moved_old e rfl m
    obtain ⟨t, rfl, mt, e1⟩ := val _ v hP
    obtain ⟨b1, b2⟩ := argBest_le (fun i => ngP (f (ts.getD i a))) (its.toArray.size - 1)
    refine ⟨.ref t, H, I.kept (t' := tk) fun c o e => hk' c o e, rfl, q t mt fun u mu => ?_⟩
    obtain ⟨i, hi, e⟩ := List.mem_iff_getElem.mp mu
    have e2 : f (ts.getD i a) = f u := by rw [List.getD_eq_getElem?_getD, List.getElem?_eq_getElem hi, e]; rfl
    rw [← e1, ← e2]
    exact (lexLe_ng _ _).mp (b2 i (by rw [List.size_toArray]; omega))
end
end Nc

/-! Own rules: sorted of a list of tuples (n, (x, y)). -/
namespace Nc
open PySem PySem.Spec PyProof.Rows L2
/-- the order of (n, pair) -/
def le3 (n : Int) (p : Int × Int) (m : Int) (q : Int × Int) : Prop := n < m ∨ (n = m ∧ lexLe p q)
instance (n : Int) (p : Int × Int) (m : Int) (q : Int × Int) : Decidable (le3 n p m q) := by unfold le3; infer_instance
def dP2 (p : Int × Int) : PyData := .tuple [.int p.1, .int p.2]
def dP3 (n : Int) (p : Int × Int) : PyData := .tuple [.int n, dP2 p]
theorem al_int (x y : Int) : PySem.W.alike (.int x) (.int y) = true := by simp [PySem.W.alike]
theorem al_2 (p q : Int × Int) : PySem.W.alike (dP2 p) (dP2 q) = true := by simp [dP2, PySem.W.alike, PySem.W.alikeAll]
theorem al_3 (n m : Int) (p q : Int × Int) : PySem.W.alike (dP3 n p) (dP3 m q) = true := by simp [dP3, PySem.W.alike, PySem.W.alikeAll, al_2]
theorem eqv_int2 (x y : Int) : PyData.eqv (.int x) (.int y) = decide (x = y) := by simp [PyData.eqv, Bool.beq_eq_decide_eq]
theorem eqv_2 (p q : Int × Int) : PyData.eqv (dP2 p) (dP2 q) = decide (p = q) := by
  simp only [dP2, PyData.eqv, PyData.eqvAll, Bool.and_true]
  rw [Bool.eq_iff_iff]
  simp only [Bool.and_eq_true, beq_iff_eq, decide_eq_true_eq]
  exact ⟨fun h => Prod.ext h.1 h.2, fun h => by rw [h]; exact ⟨rfl, rfl⟩⟩
theorem lt_2 (p q : Int × Int) : PySem.W.dataLt (dP2 p) (dP2 q) = decide (¬ lexLe q p) := by
  unfold dP2
  rw [PySem.W.dataLt_pair (al_int _ _) (al_int _ _), eqv_int2, eqv_int2, PySem.W.dataLt_int, PySem.W.dataLt_int]
  unfold lexLe
  by_cases a : p.1 = q.1
  · rw [if_pos (decide_eq_true a)]
    by_cases b : p.2 = q.2
    · rw [if_pos (decide_eq_true b), eq_comm, decide_eq_false_iff_not]
      omega
    · rw [if_neg (by simpa using b), decide_eq_decide]
      omega
  · rw [if_neg (by simpa using a), decide_eq_decide]
    omega
theorem lt_3 (n m : Int) (p q : Int × Int) : PySem.W.dataLt (dP3 n p) (dP3 m q) = decide (¬ le3 m q n p) := by
  unfold dP3
  rw [PySem.W.dataLt_pair (al_int _ _) (al_2 _ _), eqv_int2, eqv_2, PySem.W.dataLt_int, lt_2]
  unfold le3
  by_cases a : n = m
  · rw [if_pos (decide_eq_true a)]
    by_cases b : p = q
    · rw [if_pos (decide_eq_true b), eq_comm, decide_eq_false_iff_not]
      have := lexLe.refl q
      rw [b]
      simp [a, this]
    · rw [if_neg (by simpa using b), decide_eq_decide]
      simp [a]
  · rw [if_neg (by simpa using a), decide_eq_decide]
    omega
theorem le3.trans {n m k : Int} {p q r : Int × Int} (a : le3 n p m q) (b : le3 m q k r) : le3 n p k r := by
  unfold le3 at *
  rcases a with a | ⟨a, a2⟩ <;> rcases b with b | ⟨b, b2⟩
  · exact .inl (by omega)
  · exact .inl (by omega)
  · exact .inl (by omega)
  · exact .inr ⟨by omega, a2.trans b2⟩
theorem le3.total (n m : Int) (p q : Int × Int) : le3 n p m q ∨ le3 m q n p := by
  unfold le3
  rcases lexLe.total p q with h | h <;> by_cases c : n < m <;> by_cases d : m < n
  all_goals first
    | exact .inl (.inl c)
    | exact .inr (.inl d)
    | exact .inl (.inr ⟨by omega, h⟩)
    | exact .inr (.inr ⟨by omega, h⟩)
section
variable {X : Cx}
def rSort3 : List V → Hp → VK → Prop := fun vs H Q => ∃ (a : Addr) (ts : List Addr) (w : Addr → Int) (p : Addr → Int × Int), vs = [V.ref a] ∧ H a = some (.lst (ts.map V.ref)) ∧ (∀ t ∈ ts, ∃ u, H t = some (.tup [.int (w t), .ref u]) ∧ H u = some (.tup [.int (p t).1, .int (p t).2])) ∧
  ∀ (us : List Addr) (q : Addr) (H2 : Hp), us.Perm ts → us.Pairwise (fun a b => le3 (w a) (p a) (w b) (p b)) → Same H H2 → H q = none → H2 q = some (.lst (us.map V.ref)) → Q (.ref q) H2
theorem dp3_all {K : PySem.W.Frag} {H : Hp} {w : Addr → Int} {p : Addr → Int × Int} : ∀ {ts : List Addr}, (∀ t ∈ ts, ∃ u, H t = some (.tup [.int (w t), .ref u]) ∧ H u = some (.tup [.int (p t).1, .int (p t).2])) → DpAll K H (ts.map V.ref) (ts.map fun t => dP3 (w t) (p t))
  | [], _ => .nil
  | t :: ts, h => by
    obtain ⟨u, e1, e2⟩ := h t List.mem_cons_self
    exact .cons (.tup (SqT.of e1) (.cons (.int _) (.cons (.tup (SqT.of e2) (.cons (.int _) (.cons (.int _) .nil))) .nil))) (dp3_all fun u m => h u (List.mem_cons_of_mem _ m))
theorem each_refs : ∀ {ts : List Addr} {us : List Value}, Vals (ts.map V.ref) us → PySem.W.EachIs (fun (v : Value) (t : Addr) => v = .ref t) us ts
  | [], _, r => by cases r; exact .nil
  | t :: ts, _, r => by
    cases r with
    | cons h1 h2 => exact .cons (by cases h1; rfl) (each_refs h2)
theorem refs_each : ∀ {ts : List Addr} {us : List Value}, PySem.W.EachIs (fun (v : Value) (t : Addr) => v = .ref t) us ts → Vals (ts.map V.ref) us
  | _, _, .nil => .nil
  | _, _, .cons h t => .cons (by rw [h]; rfl) (refs_each t)
theorem cr_sort3 (hu : X.A.units + 64 < cLine) : CallR X (.builtin "sorted") rSort3 := by
  intro pins s σ H vs us Q I r h
  obtain ⟨a, ts, wt, p, rfl, ha, hs, q⟩ := h
  rw [Vals.ref1 r]
  obtain ⟨its, rv, hl, hz⟩ := I.list (SqL.of ha)
  obtain ⟨as, ra⟩ := Dp.readsAll I _ _ _ (dp3_all hs) rv
  have dep : ∀ t, (dP3 (wt t) (p t)).depth ≤ 10 := fun t => by simp [dP3, dP2, PyData.depth, PyData.depthAll]
  refine PySem.W.sorted_data (β := Addr) (bs := ts) (enc := fun t => dP3 (wt t) (p t)) (R := fun v t => v = .ref t) hl.isList (each_refs rv) (PySem.W.readsAll_each _ ra) (PySem.W.AllAlike.of fun t u => al_3 _ _ _ _) (PySem.W.Sortable.tuples fun t => ⟨_, _, rfl⟩) (by rw [List.length_map] at hz; exact hz) (fun t _ => by have := dep t; omega) fun out hlen hout => ?_
  have eL : PySem.W.dataLe false (fun t => dP3 (wt t) (p t)) = fun x y => decide (le3 (wt x) (p x) (wt y) (p y)) := by
    rw [PySem.W.dataLe_eq]
    funext x y
    show (!PySem.W.dataLt _ _) = _
    rw [lt_3]
    simp
  rw [eL] at hout
  have pm := List.mergeSort_perm ts fun x y => decide (le3 (wt x) (p x) (wt y) (p y))
  have so := List.pairwise_mergeSort (le := fun x y => decide (le3 (wt x) (p x) (wt y) (p y))) (fun x y z h1 h2 => by
    rw [decide_eq_true_eq] at *
    exact h1.trans h2) (fun x y => by
    rw [Bool.or_eq_true, decide_eq_true_eq, decide_eq_true_eq]
    exact le3.total _ _ _ _) ts
  obtain ⟨n, hn⟩ := sortedAll_at s.heap its (List.toArray out)
  have vo := refs_each hout
  refine ⟨.ref (s.heap.objs.size + 1), upd H (s.heap.objs.size + 1) (.lst ((ts.mergeSort fun x y => decide (le3 (wt x) (p x) (wt y) (p y))).map V.ref)), I.laid (t' := s.toks) (fun b o e => sortedAll_old e) (Nat.le_succ _) ⟨?_, out, n, vo, hn⟩, rfl, q _ _ _ pm (so.imp fun h => of_decide_eq_true h) (Same.upd (I.hok.fresh (Nat.le_succ _))) (I.hok.fresh (Nat.le_succ _)) upd_same⟩
  rw [List.length_map, pm.length_eq]
  rw [List.length_map] at hz
  exact hz
end
end Nc

/-! Own rules: a def of one parameter, called by its keyword. -/
namespace Nc
open PySem PySem.Spec PyProof.Rows L2
def gRev {α : Type} (us ws : List α) : List α := match us with
  | [] => ws.reverse
  | _ :: _ => []
theorem Vals.rev : ∀ {xs : List V} {us : List Value}, Vals xs us → Vals xs.reverse us.reverse
  | _, _, .nil => .nil
  | _, _, .cons r t => by
    rw [List.reverse_cons, List.reverse_cons]
    exact Vals.append (Vals.rev t) (.cons r .nil)
theorem kb_rev {K : PySem.W.Frag} {x q : Str} {st : Stmt} {f : Addr} {fd : FuncData} {ps ks : List Str} (F : Fun K x q st f fd) (h0 : 0 < ps.length)
    (h : ∀ (kV doc pm : Value) (an : Option Addr) (cdv ct : Value) (ws : List Value), ws.length = ps.length → bindArgs (PySem.W.fnOf x q (defArgs st) (defBody st) (defScope st) .none kV doc pm an cdv ct) ⟨[], ks.zip ws⟩ = (pure (ps.zip ws.reverse) : Sem (List (Str × Value)))) :
    KBinds K fd ps ks gRev gRev := by
  obtain ⟨oc, od, kV, doc, pm, an, cdv, ct, osl, rfl, lk, hcd⟩ := F.ex
  refine ⟨fun s us ws _ hl => ?_, fun {vs us zs ws} r rz => ?_⟩
  · cases us with
    | nil =>
      have hl : ws.reverse.length = ps.length := hl
      rw [List.length_reverse] at hl
      exact .of_eq (h kV doc pm an cdv ct ws hl)
    | cons a r =>
      have hl : 0 = ps.length := hl
      omega
  · cases r with
    | nil => exact Vals.rev rz
    | cons _ _ => exact .nil
/-- the def x of one parameter keeps its promise when it is called by keyword -/
structure Ck (P : Program) (w : World) (K : PySem.W.Frag) (mg : Str → Option Value) (base : Heap) (CX : CXT) (x : Str) (k : Nat) (y : Str) (sp : Sp) : Prop where
  ex : ∃ (f : Addr) (fd : FuncData), FnOk P w K mg base CX k f fd [y] sp ∧ mg x = some (.ref f) ∧ PySem.W.keepIn K (.ref f) = true ∧ KBinds K fd [y] [y] gRev gRev
theorem Df.ck {P : Program} {w : World} {K : PySem.W.Frag} {mg : Str → Option Value} {base : Heap} {CX : CXT} {x y : Str} {k : Nat} {sp : Sp} {st : Stmt} (D : Df K mg x st [y]) (h : ∀ f fd, Fun K x x st f fd → FnOk P w K mg base CX k f fd [y] sp)
    (b : ∀ (kV doc pm : Value) (an : Option Addr) (cdv ct : Value) (ws : List Value), ws.length = 1 → bindArgs (PySem.W.fnOf x x (defArgs st) (defBody st) (defScope st) .none kV doc pm an cdv ct) ⟨[], [y].zip ws⟩ = (pure ([y].zip ws.reverse) : Sem (List (Str × Value)))) : Ck P w K mg base CX x k y sp := by
  obtain ⟨f, fd, F, g, kk, _⟩ := D.ex
  exact ⟨f, fd, h f fd F, g, kk, kb_rev (ps := [y]) (ks := [y]) F Nat.one_pos b⟩
section
variable {X : Cx} {CX : CXT} {k : Nat} {y : Str} {sp : Sp} {E : XK} {x : Str} {p pos kpos : Pos} {e : Expr} {te : TE}
theorem pe_ck (C : Ck X.prog X.w X.K X.mg X.base CX x k y sp) (hr : Room k X.A) (hg : Gl X x) (hx : Passes CX X E) (he : PE X e te) (hall : (backToKw pos (keywordEach [⟨some y, e, kpos⟩] X.env)).all (·.1.isSome) = true := by rfl) (hks : (backToKw pos (keywordEach [⟨some y, e, kpos⟩] X.env)).filterMap (·.1) = [y] := by rfl)
    (hdb : (x == ("__debug__" : Str)) = false := by decide) (hpl : ((backTo pos (starEach [] X.env)).any (·.1) || (backToKw pos (keywordEach [⟨some y, e, kpos⟩] X.env)).any (·.1.isNone)) = false := by rfl) :
    PE X (.Call (.Name x p) [] [⟨some y, e, kpos⟩] pos) (fun σ H Q => te σ H fun v H2 => sp [v] H2 Q E) := by
  obtain ⟨f, fd, F, g, kk, b⟩ := C.ex
  exact peOf (pe_callKw F hr hg g kk b hx (pk_cons he pk_nil) hall hks hdb hpl) fun σ H Q h => h
end
end Nc

/-! Own rules: readings with heaps that are told by what is true of them alone. -/
namespace Nc
open PySem PySem.Spec PyProof.Rows L2 LamX
section
variable {X : Cx}
theorem ExtN.same {H H' : Hp} (s : Same H H') : ExtN H H' := fun b o e _ => s b o e
theorem SqL.ext {K : PySem.W.Frag} {H H' : Hp} {a : Addr} {xs : List V} (e : ExtN H H') (h : SqL K H a xs) : SqL K H' a xs := by
  rcases h with (h | ⟨o, h⟩) | h
  · exact .inl (.inl (e _ _ h fun ps z => nomatch z))
  · exact .inl (.inr ⟨o, e _ _ h fun ps z => nomatch z⟩)
  · exact .inr h
theorem SqT.ext {K : PySem.W.Frag} {H H' : Hp} {a : Addr} {xs : List V} (e : ExtN H H') (h : SqT K H a xs) : SqT K H' a xs := by
  rcases h with (h | ⟨o, h⟩) | h
  · exact .inl (.inl (e _ _ h fun ps z => nomatch z))
  · exact .inl (.inr ⟨o, e _ _ h fun ps z => nomatch z⟩)
  · exact .inr h
theorem TyX.ext {K : PySem.W.Frag} {H H' : Hp} {x : V} {t : Value} (e : ExtN H H') (h : TyX K H x t) : TyX K H' x t := by
  cases h with
  | base b =>
    cases b with
    | non => exact .base .non
    | bl x => exact .base (.bl x)
    | int i => exact .base (.int i)
    | str x => exact .base (.str x)
    | flt x => exact .base (.flt x)
    | lst z => exact .base (.lst (e _ _ z fun ps z => nomatch z))
    | frz z => exact .base (.frz (e _ _ z fun ps z => nomatch z))
    | tup z => exact .base (.tup (e _ _ z fun ps z => nomatch z))
    | dK z => exact .base (.dK (e _ _ z fun ps z => nomatch z))
    | dT z => exact .base (.dT (e _ _ z fun ps z => nomatch z))
    | ins z c h1 h2 h3 h4 => exact .base (.ins (e _ _ z fun ps z => nomatch z) c h1 h2 h3 h4)
  | byt b => exact .byt b
  | set z => exact .set (e _ _ z fun ps z => nomatch z)
  | kList a b => exact .kList a b
  | kTuple a b => exact .kTuple a b
  | kDict a b => exact .kDict a b
  | fTuple z => exact .fTuple (e _ _ z fun ps z => nomatch z)
  | fDict z => exact .fDict (e _ _ z fun ps z => nomatch z)
theorem TabsExt {T : List (Addr × Str)} {H H' : Hp} (t : Tabs T H) (s : Same H H') : Tabs T H' := t.ext s
end
end Nc

/-! Own rules: own exceptions made as values, by a keyword or by place. -/
namespace Nc
open PySem PySem.Spec PyProof.Rows L2 LamX
open PySem.HandSPX
section
variable {prog : Program} {w : World} {A : Around} {E : Value → Shared → Prop} {R : Result → Shared → Prop} {h : Heap} {g : Array GenState} {d : Drawn} {t : Nat} {os : OsState}
variable {nm q : Str} {C N : Addr} {bs bm bmB : List Value} {hdct : Bool} {sn : List Str} {sub : List Value} {ab : Bool} {col : Option Bool} {dd : Option Addr} {k0 k1 k2 k3 k5 : Option Value} {B newId initId : String} {kw : List (Str × Value)}
theorem new_check {M : Model} (F : ExcBaseFacts B newId initId bmB) (hT : ∀ X : String, bm.contains (.type X) = bmB.contains (.type X)) {Q : Unit → Shared → Prop}
    (hC : h.get? C = some (excClassObj nm q C N bs bm hdct sn sub ab col dd k0 k1 k2 k3 k5 newId)) (z : Q () ⟨h, g, d, t, os⟩) : wpAny M A (checkBuiltinCall newId ⟨[.ref C], kw⟩) Q E ⟨h, g, d, t, os⟩ := by
  have below : (Value.ref C :: bm).contains (.type B) = true := by rw [List.contains_cons, hT, F.hasB, Bool.or_true]
  have star := F.noStar
  simp only [checkBuiltinCall, F.newKind, F.newSplit, F.newRow]
  repeat (first | refine wpAny_loadPart_at hC ?_ | (refine wpAny_isSubtype_exc hC ?_; rw [below]) | refine wpAny_staticBase_exc hC ?_ | refine wpAny_madeBy_exc hC ?_ | simp only [bne_self_eq_false, Bool.false_eq_true, if_false] | wp_step)
  exact z
theorem new_kw (F : ExcBaseFacts B newId initId bmB) (hT : ∀ X : String, bm.contains (.type X) = bmB.contains (.type X)) (hC : h.get? C = some (excClassObj nm q C N bs bm hdct sn sub ab col dd k0 k1 k2 k3 k5 newId))
    (z : R (.ok (.ret (.ref (h.objs.size + 1)))) ⟨(h.push (PySem.W.kdv_tup [])).push (excO C h.objs.size), g, d, t, os⟩) : codeAny (model prog w) A (.builtin newId ⟨[.ref C], kw⟩) R ⟨h, g, d, t, os⟩ := by
  have e := F.ends
  have c1 : (Value.ref C :: bm).contains (.type B) = true := by rw [List.contains_cons, hT, F.hasB, Bool.or_true]
  have c2 : (Value.ref C :: bm).contains (.type "AttributeError") = false := by rw [List.contains_cons, hT, F.noAttr]; rfl
  have c3 : (Value.ref C :: bm).contains (.type "NameError") = false := by rw [List.contains_cons, hT, F.noName]; rfl
  refine codeAny_builtinAt F.entry ?_
  unfold Builtin.«BaseException.__new__»
  refine PySem.wpAt_bind ?_
  show PySem.wpAt _ _ _ (stack >>= _) _ _ _
  refine PySem.wpAt_bind (PySem.wpAt_stack fun p below => PySem.wpAt_of_wpAny ?_)
  wp_walk
  refine PySem.wpAt_of_wpAny ?_
  rw [F.owner]
  repeat (first | with_reducible refine wpAny_madeHere_exc F.canon hC ?_ | with_reducible refine wpAny_loadPart_at hC ?_ | (with_reducible refine wpAny_isSubtype_exc hC ?_; first | rw [c1] | rw [c2] | rw [c3]) | wp_step)
  show R _ _
  rw [Heap.size_push]
  exact z
theorem type_kw (F : ExcBaseFacts B newId initId bmB) (hT : ∀ X : String, bm.contains (.type X) = bmB.contains (.type X)) {fI : Addr} {Q : Fin → Shared → Prop}
    (hC : h.get? C = some (excClassObj nm q C N bs bm hdct sn sub ab col dd k0 k1 k2 k3 k5 newId)) (hi : PySem.W.Looks (model prog w) h (typeLookup (.ref C) "__init__") (some (.ref fI))) (hb : ∀ self, PySem.W.Looks (model prog w) h (bindSpecial (.ref fI) self) (.ref fI, [self]))
    (z : codeAny (model prog w) A (.call (.ref fI) ⟨[.ref (h.objs.size + 1)], kw⟩) (fun r s' => match r with | .ok (.ret v) => v = .none ∧ Q (.done (.ret (.ref (h.objs.size + 1)))) s' | .ok _ => False | .error e => E e s') ⟨(h.push (PySem.W.kdv_tup [])).push (excO C h.objs.size), g, d, t, os⟩) :
    wpAny (model prog w) A (Builtin.«type.__call__» ⟨[.ref C], kw⟩) Q E ⟨h, g, d, t, os⟩ := by
  repeat (first | with_reducible refine wpAny_loadPart_at hC ?_ | with_reducible refine wpAny_madeBy_exc hC ?_ | wp_step)
  refine codeAny_call_builtin_code (Code.quiet_builtin _ F.quiet) (new_check F hT hC ?_)
  refine new_kw F hT hC ?_
  show wpAny _ _ _ _ _ _
  have old : ∀ b o, h.get? b = some o → ((h.push (PySem.W.kdv_tup [])).push (excO C h.objs.size)).get? b = some o := fun b o e => Heap.get?_push_of_some _ (Heap.get?_push_of_some _ e)
  have hC1 := old _ _ hC
  have atE : ((h.push (PySem.W.kdv_tup [])).push (excO C h.objs.size)).get? (h.objs.size + 1) = some (excO C h.objs.size) := by heap_get
  have self : (Value.ref C :: bm).contains (.ref C) = true := by simp
  have look := hi.keeps old
  have bound := (hb (.ref (h.objs.size + 1))).keeps old
  unfold isInstance
  repeat (first | with_reducible refine wpAny_loadPart_at atE ?_ | (with_reducible refine wpAny_isSubtype_exc hC1 ?_; rw [self]) | wp_step)
  show wpAny _ _ (typeLookup (.ref C) _) _ _ _
  refine look.at ?_
  refine wpAny_holding (wpAny_bind (bound.at ?_))
  refine wpAny_bind (wpAny_call (codeAny_mono z fun r s' got => ?_))
  match r, got with
  | .error e, got => exact got
  | .ok (.ret v), got =>
    obtain ⟨rfl, got⟩ := got
    first
      | exact wpAny_pure (wpAny_pure got)
      | (wp_walk; exact got)
  | .ok .next, got => exact got.elim
  | .ok .brk, got => exact got.elim
  | .ok .cont, got => exact got.elim
theorem own_kw (F : ExcBaseFacts B newId initId bmB) (hT : ∀ X : String, bm.contains (.type X) = bmB.contains (.type X)) {fI : Addr}
    (hC : h.get? C = some (excClassObj nm q C N bs bm hdct sn sub ab col dd k0 k1 k2 k3 k5 newId)) (hi : PySem.W.Looks (model prog w) h (typeLookup (.ref C) "__init__") (some (.ref fI))) (hb : ∀ self, PySem.W.Looks (model prog w) h (bindSpecial (.ref fI) self) (.ref fI, [self]))
    (z : codeAny (model prog w) (A.under (.builtin "type.__call__" ⟨[.ref C], kw⟩)) (.call (.ref fI) ⟨[.ref (h.objs.size + 1)], kw⟩) (PySem.W.InitBack (h.objs.size + 1) R) ⟨(h.push (PySem.W.kdv_tup [])).push (excO C h.objs.size), g, d, t, os⟩) :
    codeAny (model prog w) A (.call (.ref C) ⟨[], kw⟩) R ⟨h, g, d, t, os⟩ := by
  have f1 := tc_lookup
  have f2 := tc_bind (.ref C)
  have ty : (⟨h, g, d, t, os⟩ : Shared).TypeIs (.ref C) "type" := ⟨_, hC, rfl⟩
  refine codeAny_of_tree ?_
  show wpAny _ _ (callAny (.ref C) _) _ _ _
  repeat (any_goals (first | assumption | with_reducible refine wpAny_loadPart_at hC ?_ | wp_step))
  refine ⟨rfl, ?_⟩
  refine codeAny_call_builtin_at (Code.quiet_builtin _ (by decide +kernel)) entry_typeCall (wpAny_check_type_call_sub hC (type_kw F hT hC hi hb ?_))
  refine codeAny_mono z fun r s' got => ?_
  rcases r with e | (v | _ | _ | _) <;> exact got
end
end Nc

/-! Own rules: own exceptions as values. -/
namespace Nc
open PySem PySem.Spec PyProof.Rows L2 LamX
/-- the keyword ar alone binds the second parameter -/
def KBind1 (K : PySem.W.Frag) (fd : FuncData) (ar : Str) : Prop := ∀ (s : Shared) (u v : Value), BindsTo s fd ⟨[u], [(ar, v)]⟩ [("self", u), (ar, v)]
/-- an exception of the class at C with its field -/
def ExV (H : Hp) (a C : Addr) (f : Str) (y : V) : Prop := ∃ d, H a = some (exo a C (some d)) ∧ H d = some (exd d [(f, y)])
section
variable {X : Cx}
theorem made_back {pins : List (Addr × Obj)} {σ : L2.St} {H : Hp} {s s2 : Shared} {a : Addr} {Q : VK} {v0 : Value} (I : Inv X pins σ H s) (got : CE X.stack X.prog X.w H s (fun v H' => v = .non ∧ Q (.ref a) H') v0 s2) : v0 = .none ∧ EP X pins σ Q (.ref a) s2 := by
  rcases I.after got with ⟨x, H', J, rx, rfl, q⟩
  exact ⟨rx, .ref a, H', J, rfl, q⟩
variable {x f ar : Str} {C fI : Addr} {k : Nat} {fd : FuncData} {p pos : Pos}
/-- C(ar = e) -/
theorem pe_mkKw {kws : List Keyword} {tk : TA} (T : PassC X.K C fI) (TF : FieldC X.K C) (ht : PySem.W.takerIn X.K C f = some none) (F1 : FnOk X.prog X.w X.K X.mg X.base CX0 k fI fd ["self", ar] (spField X.K f)) (hr : Room (k + 1) X.A) (hb : KBind1 X.K fd ar) (hg : Gl X x) (hm : X.mg x = some (.ref C))
    (hkw : PK X kws tk) (hall : (backToKw pos (keywordEach kws X.env)).all (·.1.isSome) = true := by rfl) (hks : (backToKw pos (keywordEach kws X.env)).filterMap (·.1) = [ar] := by rfl) (hdb : (x == ("__debug__" : Str)) = false := by decide)
    (hpl : ((backTo pos (starEach [] X.env)).any (·.1) || (backToKw pos (keywordEach kws X.env)).any (·.1.isNone)) = false := by rfl) :
    PE X (.Call (.Name x p) [] kws pos) (fun σ H Q => tk σ H fun zs H1 => ∃ y, zs = [y] ∧ ∀ a H2, Same H1 H2 → ExV H2 a C f y → Q (.ref a) H2) := ⟨fun pins s σ H Q I w => by
  rcases T.cls with ⟨nm, q, N, bs, bm, hd, sn, sub, ab, col, dd, k0, k1, k2, k3, k5, hC, hbm⟩
  refine wpAny_Call_Name_kw (ld_glob I hg hm (PySem.W.callWith_KW0 (h₀ := X.base) I.ok.mod.kin T.stays hall (thn (hkw.run pos pins s σ H _ I w) fun us s1 got => ?_) hpl) hdb)
  rcases got with ⟨zs, H1, I1, rz, y, rfl, wish⟩
  refine ⟨I1.kIn, ?_⟩
  rw [hks]
  match us, rz with
  | [u], .cons ry .nil =>
    show wpAny _ _ (call (.ref C) [] [(ar, u)]) _ _ _
    obtain ⟨h0, g, dr, tk, os⟩ := s1
    have below : h0.objs.size ≤ h0.objs.size + 1 := Nat.le_succ _
    have na : H1 (h0.objs.size + 1) = none := I1.hok.fresh below
    have old : ∀ b o, h0.get? b = some o → ((h0.push (PySem.W.kdv_tup [])).push (PySem.HandSPX.excO C h0.objs.size)).get? b = some o := fun b o e => Heap.get?_push_of_some _ (Heap.get?_push_of_some _ e)
    have atE : ((h0.push (PySem.W.kdv_tup [])).push (PySem.HandSPX.excO C h0.objs.size)).get? (h0.objs.size + 1) = some (PySem.HandSPX.excO C h0.objs.size) := by heap_get
    have I2 := I1.laid (t' := tk) (a := h0.objs.size + 1) (o := exo (h0.objs.size + 1) C none) old below (exo_ok atE)
    have hsp : spField X.K f [V.ref (h0.objs.size + 1), y] (upd H1 (h0.objs.size + 1) (exo (h0.objs.size + 1) C none)) (fun v H2 => v = .non ∧ Q (.ref (h0.objs.size + 1)) H2) (fun _ _ _ => False) :=
      ⟨_, C, y, rfl, TF, ht, upd_same, fun d n ne => ⟨rfl, wish _ _ (fun b o e => by
        have nb : b ≠ h0.objs.size + 1 := ne_of_none e na
        have nd : b ≠ d := ne_of_none e (by rw [upd_ne ne] at n; exact n)
        rw [upd_ne nd, upd_ne nb, upd_ne nb]
        exact e) ⟨d, by rw [upd_ne (Ne.symm ne), upd_same], upd_same⟩⟩⟩
    refine wpAny_call (own_kw F.excBase_ArithmeticError hbm (I1.kIn _ _ hC) (PySem.W.looks_findIn I1.kIn T.initF) (fun self => PySem.W.bind_fn I1.kIn self T.isDef)
      (codeAny_mono (F1.run _ X.stack _ _ ⟨[Value.ref (h0.objs.size + 1)], [(ar, u)]⟩ [Value.ref (h0.objs.size + 1), u] [V.ref (h0.objs.size + 1), y] _ (fun _ _ _ => False) (hr.make C [] [(ar, u)]) (I2.env0.make C [] [(ar, u)]) (hb _ _ _) (.cons rfl (.cons ry .nil)) hsp) fun r s2 got => ?_))
    match r, got with
    | .error err, got => exact False.elim got
    | .ok (.ret v0), got => exact made_back I2 got
    | .ok .next, got => exact False.elim got
    | .ok .brk, got => exact False.elim got
    | .ok .cont, got => exact False.elim got⟩
/-- C(e) -/
theorem pe_mk1 {e : Expr} {te : TE} (T : PassC X.K C fI) (TF : FieldC X.K C) (ht : PySem.W.takerIn X.K C f = some none) (F1 : FnOk X.prog X.w X.K X.mg X.base CX0 k fI fd ["self", ar] (spField X.K f)) (hr : Room (k + 1) X.A) (hb : Binds X.K fd ["self", ar] []) (hg : Gl X x) (hm : X.mg x = some (.ref C))
    (he : PE X e te) (hdb : (x == ("__debug__" : Str)) = false := by decide) (hst : starEach [e] X.env = (false, eval e X.env) :: starEach [] X.env := by rfl) (hpl : (backTo pos (starEach [] X.env)).any (·.1) = false := by rfl) :
    PE X (.Call (.Name x p) [e] [] pos) (fun σ H Q => te σ H fun y H1 => ∀ a H2, Same H1 H2 → ExV H2 a C f y → Q (.ref a) H2) := ⟨fun pins s σ H Q I w => by
  rcases T.cls with ⟨nm, q, N, bs, bm, hd, sn, sub, ab, col, dd, k0, k1, k2, k3, k5, hC, hbm⟩
  let post : List V → Hp → Prop := fun vs H1 => match vs with
    | [y] => ∀ a H2, Same H1 H2 → ExV H2 a C f y → Q (.ref a) H2
    | _ => False
  refine wpAny_Call_Name_kw (ld_glob I hg hm (PySem.W.callWith_K (h₀ := X.base) I.ok.mod.kin T.stays (thn ((pa_cons he pa_nil hst).run pos pins s σ H post I w) fun us s1 got => ?_) hst hpl) hdb)
  rcases got with ⟨zs, H1, I1, rz, wish⟩
  refine ⟨I1.kIn, ?_⟩
  match zs, us, rz, wish with
  | [y], [u], .cons ry .nil, wish =>
    have wish : ∀ a H2, Same H1 H2 → ExV H2 a C f y → Q (.ref a) H2 := wish
    show wpAny _ _ (call (.ref C) [u]) _ _ _
    obtain ⟨h0, g, dr, tk, os⟩ := s1
    have below : h0.objs.size ≤ h0.objs.size + 1 := Nat.le_succ _
    have na : H1 (h0.objs.size + 1) = none := I1.hok.fresh below
    have old : ∀ b o, h0.get? b = some o → ((h0.push (PySem.W.kdv_tup [u])).push (PySem.HandSPX.excO C h0.objs.size)).get? b = some o := fun b o e => Heap.get?_push_of_some _ (Heap.get?_push_of_some _ e)
    have atE : ((h0.push (PySem.W.kdv_tup [u])).push (PySem.HandSPX.excO C h0.objs.size)).get? (h0.objs.size + 1) = some (PySem.HandSPX.excO C h0.objs.size) := by heap_get
    have I2 := I1.laid (t' := tk) (a := h0.objs.size + 1) (o := exo (h0.objs.size + 1) C none) old below (exo_ok atE)
    have hsp : spField X.K f [V.ref (h0.objs.size + 1), y] (upd H1 (h0.objs.size + 1) (exo (h0.objs.size + 1) C none)) (fun v H2 => v = .non ∧ Q (.ref (h0.objs.size + 1)) H2) (fun _ _ _ => False) :=
      ⟨_, C, y, rfl, TF, ht, upd_same, fun d n ne => ⟨rfl, wish _ _ (fun b o e => by
        have nb : b ≠ h0.objs.size + 1 := ne_of_none e na
        have nd : b ≠ d := ne_of_none e (by rw [upd_ne ne] at n; exact n)
        rw [upd_ne nd, upd_ne nb, upd_ne nb]
        exact e) ⟨d, by rw [upd_ne (Ne.symm ne), upd_same], upd_same⟩⟩⟩
    have b := hb _ [Value.ref (h0.objs.size + 1), u] I2.kIn rfl
    refine wpAny_call (PySem.HandSPX.call_own F.excBase_ArithmeticError hbm (I1.kIn _ _ hC) (PySem.W.looks_findIn I1.kIn T.initF) (fun self => PySem.W.bind_fn I1.kIn self T.isDef) (by show 1 ≤ sizeLine; decide)
      (codeAny_mono (F1.run _ X.stack _ _ ⟨[Value.ref (h0.objs.size + 1), u], []⟩ [Value.ref (h0.objs.size + 1), u] [V.ref (h0.objs.size + 1), y] _ (fun _ _ _ => False) (hr.make C [u] []) (I2.env0.make C [u] []) b (.cons rfl (.cons ry .nil)) hsp) fun r s2 got => ?_))
    match r, got with
    | .error err, got => exact False.elim got
    | .ok (.ret v0), got => exact made_back I2 got
    | .ok .next, got => exact False.elim got
    | .ok .brk, got => exact False.elim got
    | .ok .cont, got => exact False.elim got⟩
/-- C(), its constructor passes -/
theorem pe_mk0 (T : PassC X.K C fI) (F1 : FnOk X.prog X.w X.K X.mg X.base CX0 k fI fd ["self"] spPass) (hr : Room (k + 1) X.A) (hb : Binds X.K fd ["self"] []) (hg : Gl X x) (hm : X.mg x = some (.ref C)) (hdb : (x == ("__debug__" : Str)) = false := by decide) :
    PE X (.Call (.Name x p) [] [] pos) (fun _ H Q => ∀ a H2, Same H H2 → H2 a = some (exo a C none) → Q (.ref a) H2) := ⟨fun pins s σ H Q I wish => by
  rcases T.cls with ⟨nm, q, N, bs, bm, hd, sn, sub, ab, col, dd, k0, k1, k2, k3, k5, hC, hbm⟩
  refine wpAny_Call_Name_kw (ld_glob I hg hm (PySem.W.callWith_K0 I.kIn T.stays ?_) hdb)
  show wpAny _ _ (call (.ref C) []) _ _ _
  have I1 := I
  obtain ⟨h0, g, dr, tk, os⟩ := s
  have below : h0.objs.size ≤ h0.objs.size + 1 := Nat.le_succ _
  have na : H (h0.objs.size + 1) = none := I1.hok.fresh below
  have old : ∀ b o, h0.get? b = some o → ((h0.push (PySem.W.kdv_tup [])).push (PySem.HandSPX.excO C h0.objs.size)).get? b = some o := fun b o e => Heap.get?_push_of_some _ (Heap.get?_push_of_some _ e)
  have atE : ((h0.push (PySem.W.kdv_tup [])).push (PySem.HandSPX.excO C h0.objs.size)).get? (h0.objs.size + 1) = some (PySem.HandSPX.excO C h0.objs.size) := by heap_get
  have I2 := I1.laid (t' := tk) (a := h0.objs.size + 1) (o := exo (h0.objs.size + 1) C none) old below (exo_ok atE)
  have b := hb _ [Value.ref (h0.objs.size + 1)] I2.kIn rfl
  have hsp : spPass [V.ref (h0.objs.size + 1)] (upd H (h0.objs.size + 1) (exo (h0.objs.size + 1) C none)) (fun v H2 => v = .non ∧ Q (.ref (h0.objs.size + 1)) H2) (fun _ _ _ => False) := ⟨_, rfl, rfl, wish _ _ (Same.upd na) upd_same⟩
  refine wpAny_call (PySem.HandSPX.call_own F.excBase_ArithmeticError hbm (I1.kIn _ _ hC) (PySem.W.looks_findIn I1.kIn T.initF) (fun self => PySem.W.bind_fn I1.kIn self T.isDef) (Nat.zero_le _)
    (codeAny_mono (F1.run _ X.stack _ _ ⟨[Value.ref (h0.objs.size + 1)], []⟩ [Value.ref (h0.objs.size + 1)] [V.ref (h0.objs.size + 1)] _ (fun _ _ _ => False) (hr.make C [] []) (I2.env0.make C [] []) b (.cons rfl .nil) hsp) fun r s2 got => ?_))
  match r, got with
  | .error err, got => exact False.elim got
  | .ok (.ret v0), got => exact made_back I2 got
  | .ok .next, got => exact False.elim got
  | .ok .brk, got => exact False.elim got
  | .ok .cont, got => exact False.elim got⟩
end
end Nc

/-! Own rules: isinstance of an exception held as a value, its fields. -/
namespace Nc
open PySem PySem.Spec PyProof.Rows L2 LamX
/-- at a: an exception of the class at C, with its own dict or without one -/
def ExcV (H : Hp) (a C : Addr) : Prop := (∃ d fs, H a = some (exo a C (some d)) ∧ H d = some (exd d fs)) ∨ H a = some (exo a C none)
theorem ExV.v {H : Hp} {a C : Addr} {f : Str} {y : V} (h : ExV H a C f y) : ExcV H a C := let ⟨d, e1, e2⟩ := h; .inl ⟨d, _, e1, e2⟩
theorem exo_ne {a C : Addr} {d : Option Addr} (ps : Array Value) : exo a C d ≠ .tbl ps := fun z => by
  unfold exo at z
  cases z
theorem exd_ne {d : Addr} {fs : List (Str × V)} (ps : Array Value) : exd d fs ≠ .tbl ps := fun z => by
  unfold exd at z
  cases z
theorem ExV.same {H H' : Hp} {a C : Addr} {f : Str} {y : V} (h : ExV H a C f y) (s : Same H H') : ExV H' a C f y := let ⟨d, e1, e2⟩ := h; ⟨d, s _ _ e1, s _ _ e2⟩
theorem ExcV.same {H H' : Hp} {a C : Addr} (h : ExcV H a C) (s : Same H H') : ExcV H' a C := by
  rcases h with ⟨d, fs, e1, e2⟩ | e
  · exact .inl ⟨d, fs, s _ _ e1, s _ _ e2⟩
  · exact .inr (s _ _ e)
theorem inst_of {P : Program} {w : World} {H : Hp} {h : Heap} {a C : Addr} (hok : HOk P w H h) (e : ExcV H a C) : ∃ oe od, PySem.W.InstAt h a oe C od := by
  rcases e with ⟨d, fs, e1, e2⟩ | e
  · have x : ObjOk P w H h a (exo a C (some d)) := hok a _ e1
    have z : ObjOk P w H h d (exd d fs) := hok d _ e2
    rcases x.1 with ⟨t, at_⟩
    rcases z.1 with ⟨mA, ns, _⟩
    rcases lookIn_ns ns with ⟨od, ho, _⟩
    exact ⟨_, some od, at_, rfl, rfl, ho⟩
  · have x : ObjOk P w H h a (exo a C none) := hok a _ e
    rcases x.1 with ⟨t, at_⟩
    exact ⟨_, none, at_, rfl, rfl, trivial⟩
/-- isinstance(e, c) -/
def rIsV (K : PySem.W.Frag) : List V → Hp → VK → Prop := fun xs H Q => ∃ (a C : Addr) (c : V) (cv : Value) (b : Bool), xs = [.ref a, c] ∧ ExcV H a C ∧ ExcC K C ∧ (∀ u, RelV c u → u = cv) ∧ PySem.W.kitOne K (.ref C) cv = some b ∧ Q (.bl b) H
theorem call_isV {X : Cx} : CallR X (.builtin "isinstance") (rIsV X.K) := fun pins s σ H xs us Q I r w => by
  rcases w with ⟨a, C, c, cv, b, rfl, ev, T, hcv, e, q⟩
  match us, r with
  | [u, v], .cons rx (.cons rc .nil) =>
    cases rx
    cases hcv _ rc
    rcases inst_of I.hok ev with ⟨oe, od, J⟩
    have some_ : (PySem.W.clsIn X.K C).isSome = true := by
      rcases PySem.W.any_some T.hd with ⟨cd, hc, _⟩
      rw [hc]
      rfl
    exact PySem.W.kia_one (PySem.W.kitx_exc some_ T.hg T.hk T.hs T.ha T.hn T.ht T.hm) I.kIn J e (fun z => nomatch z) fun tk => ⟨.bl b, H, I.kept (t' := tk) fun _ _ z => z, rfl, q⟩
/-- e.f -/
theorem pe_fieldV {X : Cx} {o : Expr} {f : Str} {pos : Pos} {to : TE} (ho : PE X o to) (hb : attributeBase o f X.env (eval o X.env) = eval o X.env := by rfl) :
    PE X (.Attribute o f pos) (fun σ H Q => to σ H fun x H1 => ∃ (a C : Addr) (y : V), x = .ref a ∧ ExV H1 a C f y ∧ XfC X.K C ∧ PySem.W.findIn X.K (.ref C) f = some none ∧ Q y H1) := ⟨fun pins s σ H Q I w => by
  refine attr_of hb (thn (ho.run pins s σ H _ I w) fun u s1 got => ?_)
  rcases got with ⟨x, H1, I1, rx, a, C, y, rfl, ⟨d, e1, e2⟩, T, hno, q⟩
  cases rx
  have x : ObjOk X.prog X.w H1 s1.heap a (exo a C (some d)) := I1.hok a _ e1
  have z : ObjOk X.prog X.w H1 s1.heap d (exd d [(f, y)]) := I1.hok d _ e2
  rcases x.1 with ⟨t, at_⟩
  rcases z.1 with ⟨mA, ns, rel⟩
  rcases lookIn_ns ns with ⟨od, hod, hl⟩
  rcases RelO.some_of (v := y) (o := mA f) (by have r := rel f; simpa using r) with ⟨u2, hu, ru⟩
  have J : PySem.W.InstAt s1.heap a _ C (some od) := ⟨at_, rfl, rfl, hod⟩
  exact HandSPX.exc_get I1.kIn J T.ga T.gg T.exC (PySem.W.findObj_own T.hdC hno rfl (by rw [hl, hu])) (handed_of ru) ⟨y, H1, I1.tok _, ru, q⟩⟩
end Nc

/-! Own rules: classes whose errors keep one field, all that a raise of one needs in one; what a kept lambda says. -/
namespace Nc
open PySem PySem.Spec PyProof.Rows L2 LamX
/-- the class cn at C: its errors keep the field fld -/
structure Rz (P : Program) (w : World) (K : PySem.W.Frag) (mg : Str → Option Value) (base : Heap) (C : Addr) (cn fld : Str) : Prop where
  ex : ∃ (fI : Addr) (fdI : FuncData), PassC K C fI ∧ FieldC K C ∧ PySem.W.takerIn K C fld = some none ∧ FnOk P w K mg base CX0 1 fI fdI ["self", fld] (spField K fld) ∧ Binds K fdI ["self", fld] [] ∧ mg cn = some (.ref C)
theorem pmk_rz {X : Cx} {C : Addr} {cn fld : Str} {e : Expr} {te : TE} {p pos : Pos} (R : Rz X.prog X.w X.K X.mg X.base C cn fld) (hr : Room 2 X.A) (hg : Gl X cn) (he : PE X e te) (hdb : (cn == ("__debug__" : Str)) = false := by decide)
    (hst : starEach [e] X.env = (false, eval e X.env) :: starEach [] X.env := by rfl) (hpl : (backTo pos (starEach [] X.env)).any (·.1) = false := by rfl) :
    PMk X (.Call (.Name cn p) [e] [] pos) (fun σ H Q => te σ H fun y H1 => ∀ d, H1 d = none → Q (.ref C) (some d) (upd H1 d (.xd [(fld, y)]))) := by
  obtain ⟨fI, fdI, T, TF, ht, G, b, hm⟩ := R.ex
  exact pmk_field T TF ht G hr b pass0 hg hm he hdb hst hpl
/-- the class at C is raised with v in its field; all else stands -/
def Rs (C : Addr) (fld : Str) (v : V) (H : Hp) (E : XK) : Prop := ∀ d H', Same H H' → H' d = some (.xd [(fld, v)]) → E (.ref C) (some d) H'
theorem Rs.of {C : Addr} {fld : Str} {v : V} {H : Hp} {E : XK} (h : Rs C fld v H E) : ∀ d, H d = none → E (.ref C) (some d) (upd H d (.xd [(fld, v)])) := fun d n => h d _ (Same.upd n) upd_same
theorem Rs.same {C : Addr} {fld : Str} {v : V} {H H' : Hp} {E : XK} (h : Rs C fld v H E) (s : Same H H') : Rs C fld v H' E := fun d H2 s2 e => h d H2 (s.trans s2) e
/-- what is said of an error: a word, a number -/
def ErrW (IB LE : Addr) (due : V) (cls : Value) (d : Option Addr) (H : Hp) : Prop := (∃ dd s, cls = .ref IB ∧ d = some dd ∧ due = .str s ∧ H dd = some (.xd [("argument", .str s)])) ∨ (∃ dd n, cls = .ref LE ∧ d = some dd ∧ due = .int n ∧ H dd = some (.xd [("limit", .int n)]))
/-- the kept lambda at f says due: raises what tells it, or gives anything if due is None -/
def Sayer (P : Program) (w : World) (K : PySem.W.Frag) (mg : Str → Option Value) (base : Heap) (IB LE : Addr) (k : Nat) (f : Addr) (H : Hp) (due : V) : Prop := ∃ (fd : FuncData) (tl : XK → Hp → VK → Prop),
  H f = some (LamO f { cls := .type "function", data := .func fd }) ∧ KCall P w K mg base k f tl ∧ ∀ H1, Same H H1 → ∀ (E : XK) (Q : VK), (∀ cls d H', Same H1 H' → ErrW IB LE due cls d H' → E cls d H') → (due = .non → ∀ v H', Same H1 H' → Q v H') → tl E H1 Q
theorem Sayer.same {P : Program} {w : World} {K : PySem.W.Frag} {mg : Str → Option Value} {base : Heap} {IB LE : Addr} {k : Nat} {f : Addr} {H H' : Hp} {due : V} (s : Same H H') (r : Sayer P w K mg base IB LE k f H due) : Sayer P w K mg base IB LE k f H' due :=
  let ⟨fd, tl, a, b, c⟩ := r; ⟨fd, tl, s _ _ a, b, fun H1 s1 => c H1 (s.trans s1)⟩
section
variable {X : Cx} {σ : L2.St} {H1 H2 : Hp} {IB LE : Addr} {due : V}
theorem errW_put {cs : List Addr} {H H' : Hp} {cls : Value} {d : Option Addr} (n : ∀ c ∈ cs, H' c = none) (e : ErrW IB LE due cls d H') : ErrW IB LE due cls d (putC cs H H') := by
  have keep : ∀ dd o, H' dd = some o → putC cs H H' dd = some o := fun dd o e => by
    rw [putC_out fun m => by rw [n dd m] at e; cases e]
    exact e
  rcases e with ⟨dd, s, h1, h2, h3, e⟩ | ⟨dd, m, h1, h2, h3, e⟩
  · exact .inl ⟨dd, s, h1, h2, h3, keep _ _ e⟩
  · exact .inr ⟨dd, m, h1, h2, h3, keep _ _ e⟩
theorem sayerL {params : Arguments} {body : Expr} {scope : Scope} {dV doc pm ctv : Value} {f c' : Addr} {binds : List (Str × Value)} {k : Nat} {Hd : Hp → Prop} {tb : XK → TE} (xs : XSt X σ) (L : LamP X.N X.env.scope scope)
    (hbind : ∀ (H : Hp) (s : Shared), Hd H → HOk X.prog X.w H s.heap → BindsTo s (PySem.W.kdv_fn "<lambda>" (X.env.qual ++ "<lambda>") params (.expr body) scope (cloFrom X.env.cells scope.names []) dV doc pm (.ref c') ctv) ⟨[], []⟩ binds)
    (hloc : ∀ y ∈ binds, scope.names.lookup y.1 = some .local)
    (hbody : ∀ (A : Around) (outer : List Env) (s : Shared) (H : Hp) (E : XK), Room k (A.deeper (lamEnv X scope s.heap.objs.size f c')) → PE (lamCx X A outer s H E scope f c') body (tb E))
    (hf : H2 f = some (LamO f (lamOb X params body scope dV doc pm ctv c'))) (hc : H2 c' = some (CodeO c' (X.env.qual ++ "<lambda>"))) (hd : ∀ H3, Same H2 H3 → Hd H3) (le : Lent X σ H2) (back : ∀ H3, Same H2 H3 → Same H1 (delC (cellsOf X) H3))
    (rd : ∀ (H4 : Hp) (E : XK) (Q : VK), Same H1 H4 → (∀ cls d H', Same H4 H' → ErrW IB LE due cls d H' → E cls d H') → (due = .non → ∀ v H', Same H4 H' → Q v H') → tb E σ H4 Q) : Sayer X.prog X.w X.K X.mg X.base IB LE (k + 1) f H2 due := by
  refine ⟨_, _, hf, lam_kcall xs L hbind hloc hbody, fun H3 s3 E Q hE hQ => ⟨s3 _ _ hf, s3 _ _ hc, hd _ s3, le.same s3, ?_⟩⟩
  exact rd _ _ _ (back _ s3) (fun cls d H' sm e n => hE cls d _ (same_put sm) (errW_put n e)) fun z v H' sm n => hQ z v _ (same_put sm)
theorem sayerN {params : Arguments} {body : Expr} {scope : Scope} {doc pm ctv : Value} {f c' : Addr} {k : Nat} {tb : XK → TE} (xs : XSt X σ) (L : LamP X.N X.env.scope scope)
    (hbind : bindArgs (PySem.W.kdv_fn "<lambda>" (X.env.qual ++ "<lambda>") params (.expr body) scope (cloFrom X.env.cells scope.names []) .none doc pm (.ref c') ctv) ⟨[], []⟩ = pure [])
    (hbody : ∀ (A : Around) (outer : List Env) (s : Shared) (H : Hp) (E : XK), Room k (A.deeper (lamEnv X scope s.heap.objs.size f c')) → PE (lamCx X A outer s H E scope f c') body (tb E))
    (hf : H2 f = some (LamO f (lamOb X params body scope .none doc pm ctv c'))) (hc : H2 c' = some (CodeO c' (X.env.qual ++ "<lambda>"))) (le : Lent X σ H2) (back : ∀ H3, Same H2 H3 → Same H1 (delC (cellsOf X) H3))
    (rd : ∀ (H4 : Hp) (E : XK) (Q : VK), Same H1 H4 → (∀ cls d H', Same H4 H' → ErrW IB LE due cls d H' → E cls d H') → (due = .non → ∀ v H', Same H4 H' → Q v H') → tb E σ H4 Q) : Sayer X.prog X.w X.K X.mg X.base IB LE (k + 1) f H2 due :=
  sayerL (binds := []) (Hd := fun _ => True) xs L (fun _ _ _ _ => .of_eq hbind) (fun y m => absurd m (by simp)) hbody hf hc (fun _ _ => True.intro) le back rd
theorem sayerD {params : Arguments} {body : Expr} {scope : Scope} {u doc pm ctv : Value} {f c' t : Addr} {x : Str} {k : Nat} {kk : Option (Array Value) → Sem (List (Str × Value))} {tb : XK → TE} (xs : XSt X σ) (L : LamP X.N X.env.scope scope)
    (h₁ : bindArgs (PySem.W.kdv_fn "<lambda>" (X.env.qual ++ "<lambda>") params (.expr body) scope (cloFrom X.env.cells scope.names []) (.ref t) doc pm (.ref c') ctv) ⟨[], []⟩ = seqItems? (.ref t) >>= kk) (h₂ : kk (some [u].toArray) = pure [(x, u)]) (hx : scope.names.lookup x = some .local)
    (hbody : ∀ (A : Around) (outer : List Env) (s : Shared) (H : Hp) (E : XK), Room k (A.deeper (lamEnv X scope s.heap.objs.size f c')) → PE (lamCx X A outer s H E scope f c') body (tb E))
    (hf : H2 f = some (LamO f (lamOb X params body scope (.ref t) doc pm ctv c'))) (hc : H2 c' = some (CodeO c' (X.env.qual ++ "<lambda>"))) (ht : H2 t = some (LamO t (PySem.W.kdv_tup [u]))) (le : Lent X σ H2) (back : ∀ H3, Same H2 H3 → Same H1 (delC (cellsOf X) H3))
    (rd : ∀ (H4 : Hp) (E : XK) (Q : VK), Same H1 H4 → (∀ cls d H', Same H4 H' → ErrW IB LE due cls d H' → E cls d H') → (due = .non → ∀ v H', Same H4 H' → Q v H') → tb E σ H4 Q) : Sayer X.prog X.w X.K X.mg X.base IB LE (k + 1) f H2 due :=
  sayerL (binds := [(x, u)]) (Hd := fun H => H t = some (LamO t (PySem.W.kdv_tup [u]))) xs L (fun H s hd hok => .of_defaults rfl (lamO_at hok hd) rfl h₁ h₂) (fun y m => by rw [List.mem_singleton.mp m]; exact hx) hbody hf hc (fun H3 s3 => s3 _ _ ht) le back rd
end
end Nc
namespace Nc
open PySem PySem.Spec PyProof.Rows L2
/-- isinstance(e, c), e the exception that the suite holds, with its dict -/
def rIsX (K : PySem.W.Frag) (D a : Addr) (cls : Value) (d : Option Addr) : List V → Hp → VK → Prop := fun xs H Q => ∃ (dd : Addr) (fs : List (Str × V)) (c : V) (cv : Value) (b : Bool), cls = .ref D ∧ d = some dd ∧ H dd = some (.xd fs) ∧ xs = [.ref a, c] ∧ (∀ u, RelV c u → u = cv) ∧ PySem.W.kitOne K (.ref D) cv = some b ∧ Q (.bl b) H
theorem call_isX {X : Cx} {a D : Addr} {oe : Obj} {cls : Value} {d : Option Addr} {pn : List (Addr × Obj)} (T : ExcC X.K D) (hz : Zc cls d oe) (hf : ∃ vs, oe.data = .fields vs) : CallR (X.suite a ((a, oe) :: pn)) (.builtin "isinstance") (rIsX X.K D a cls d) := by
  intro pins s σ H xs us Q I r h
  obtain ⟨dd, fs, c, cv, b, rfl, rfl, hx, rfl, hcv, e, q⟩ := h
  match us, r with
  | [u, v], .cons rx (.cons rc .nil) =>
    cases rx
    cases hcv _ rc
    have here := (I.pin (a, oe) (List.mem_append_left _ List.mem_cons_self)).1
    obtain ⟨vs, hv⟩ := hf
    have ok : ObjOk X.prog X.w H s.heap dd (.xd fs) := I.hok dd _ hx
    obtain ⟨mA, ns, _⟩ := ok
    obtain ⟨od, ho, _⟩ := lookIn_ns ns
    have J : PySem.W.InstAt s.heap a oe D (some od) := ⟨here, hz.1, by unfold PySem.W.notCls; rw [hv], by rw [hz.2]; exact ho⟩
    have some_ : (PySem.W.clsIn X.K D).isSome = true := by
      obtain ⟨cd, hc, _⟩ := PySem.W.any_some T.hd
      rw [hc]
      rfl
    exact PySem.W.kia_one (PySem.W.kitx_exc some_ T.hg T.hk T.hs T.ha T.hn T.ht T.hm) I.kIn J e (fun z => nomatch z) fun tk => ⟨.bl b, H, I.kept (t' := tk) fun _ _ z => z, rfl, q⟩
end Nc
namespace NcK
open PySem PySem.Spec PyProof.Rows L2 Nc
def topS (i : Nat) : Stmt := PySem.Challenge.pw_nearcells_k72_what_shapes_refuse.main.body.getD i (.Pass ⟨0, 0, 0, 0⟩)
/-! words of this text: bits, what stands in the heap, one step of a reading -/
local macro_rules | `(tactic| array_mem_dec) => `(tactic| first
  | (refine nbu (by assumption) (by decide); done)
  | (refine nbu (j := 21) (by omega) (by decide); done)
  | (refine nbm ?_ ?_ <;> array_mem_dec)
  | (refine nba (by decide) ?_ ?_ <;> array_mem_dec)
  | (refine nbs (by decide) ?_ ?_ <;> array_mem_dec)
  | (refine nbn ?_; array_mem_dec)
  | (refine nbu (j := 64) (by decide) (by decide); done))
local macro_rules | `(tactic| sizeOf_list_dec) => `(tactic| first
  | assumption
  | exact upd_same
  | (refine (by assumption : Same _ _) _ _ ?_; sizeOf_list_dec))
local macro_rules | `(tactic| array_get_dec) => `(tactic| first
  | refine ⟨_, rfl, ?_⟩
  | refine ⟨_, _, rfl, rfl, ?_⟩
  | refine ⟨_, _, _, _, rfl, rfl, SqT.of (by sizeOf_list_dec), by rfl, ?_⟩
  | refine ⟨_, _, _, _, rfl, rfl, SqL.of (by sizeOf_list_dec), by rfl, ?_⟩
  | refine ⟨_, _, rfl, SqT.of (by sizeOf_list_dec), by rfl, ?_⟩
  | refine ⟨_, _, _, _, _, rfl, .ty _, .base (.int _), kit_ty (r := true) (by decide +kernel), ?_⟩
  | refine ⟨_, _, _, _, _, rfl, .ty _, .base (.tup (by sizeOf_list_dec)), kit_ty (r := true) (by decide +kernel), ?_⟩
  | refine ⟨_, _, _, _, _, rfl, .ty _, .base (.lst (by sizeOf_list_dec)), kit_ty (r := true) (by decide +kernel), ?_⟩
  | refine ⟨_, _, _, _, _, rfl, .ty _, .base (.int _), kit_ty (r := false) (by decide +kernel), ?_⟩
  | refine ⟨_, _, rfl, .inr (SqT.of (by sizeOf_list_dec)), ?_⟩
  | refine ⟨_, _, rfl, .inl (SqL.of (by sizeOf_list_dec)), ?_⟩
  | refine w_itf (by omega) ?_
  | refine w_itt (by omega) ?_
  | refine w_ntt (by omega) ?_
  | refine w_ntf (by omega) ?_
  | refine w_itt (congrArg V.int (by omega)) ?_
  | refine w_itf (fun e => absurd (V.int.inj e) (by omega)) ?_
  | refine w_ntt (congrArg V.int (by omega)) ?_
  | refine w_ntf (fun e => absurd (V.int.inj e) (by omega)) ?_
  | refine ⟨_, _, rfl, ?_⟩
  | refine ⟨(by refine cmw ?_ ?_ <;> array_mem_dec : CMulW _ _), ?_⟩
  | refine ⟨⟨by decide, by decide, by decide⟩, ?_⟩
  | refine ⟨Nat.le_trans (m := 64) (by simp) (by decide), ?_⟩
  | refine ⟨rfl, ?_⟩
  | refine ⟨_, _, _, rfl, ?_⟩
  | refine Or.inl ⟨_, rfl, ?_⟩
  | refine Or.inr ⟨_, rfl, ?_⟩)
/-! ### the program's own defs: what a site is -/
section
variable {P : Program} {w : World} {K : PySem.W.Frag} {mg : Str → Option Value} {base : Heap}
/-- a number is neither True nor False -/
theorem op_isIB {X : Cx} : OpR X (compareOp .Is) (fun x y H Q => ∃ (n : Int) (b : Bool), x = .int n ∧ y = .bl b ∧ Q (.bl false) H) := by
  intro pins s σ H x y v u Q I rx ry h
  obtain ⟨n, b, rfl, rfl, q⟩ := h
  obtain ⟨t, rfl⟩ := rx
  cases (show u = Value.bool b from ry)
  exact wpAny_is_other rfl (fun z => by cases z) ⟨.bl false, H, I, rfl, q⟩
theorem itf {p A B : Prop} [Decidable p] (h : ¬ p) (b : B) : if decide p = true then A else B := by
  rw [decide_eq_false h]
  exact b
theorem itt {p A B : Prop} [Decidable p] (h : p) (a : A) : if decide p = true then A else B := by
  rw [decide_eq_true h]
  exact a
theorem kTT (K : PySem.W.Frag) : PySem.W.kitOne K (.type "tuple") (.type "tuple") = some true := kit_ty (by decide +kernel)
theorem kII (K : PySem.W.Frag) : PySem.W.kitOne K (.type "int") (.type "int") = some true := kit_ty (by decide +kernel)
/-- a site -/
def spIsSite : Sp := fun vs H Q _ => ∃ (t : Addr) (x y : Int), vs = [.ref t] ∧ Sit H t x y ∧ Bd 1000000 x y ∧ Q (.bl true) H
def spCheck : Sp := fun vs H Q _ => ∃ (t : Addr) (x y : Int) (z : Str), vs = [.ref t, .str z] ∧ Sit H t x y ∧ Bd 1000000 x y ∧ Q .non H
/-- the double area -/
def tri (ax ay bx by' cx cy : Int) : Int := (bx - ax) * (cy - ay) - (by' - ay) * (cx - ax)
/-- three sites, and what is told of their numbers -/
def sp3 (K : PySem.W.Frag) (v : Int → Int → Int → Int → Int → Int → V) : Sp := fun vs H Q _ => ∃ (a b c : Addr) (ax ay bx by' cx cy : Int), vs = [.ref a, .ref b, .ref c] ∧ Sit H a ax ay ∧ Sit H b bx by' ∧ Sit H c cx cy ∧
  Bd 1000000 ax ay ∧ Bd 1000000 bx by' ∧ Bd 1000000 cx cy ∧ Q (v ax ay bx by' cx cy) H
theorem tri_m1 {ax ay bx cy : Int} (a : -1000000 ≤ ax ∧ ax ≤ 1000000) (b : -1000000 ≤ bx ∧ bx ≤ 1000000) : CMul (bx - ax) (cy - ay) := .inl ⟨by omega, by omega⟩
end
/-! ### signs, sites that are alike -/
section
variable {P : Program} {w : World} {K : PySem.W.Frag} {mg : Str → Option Value} {base : Heap}
def sg (n : Int) : Int := if n = 0 then 0 else if 0 < n then 1 else -1
theorem dpSit {H : Hp} {t : Addr} {x y : Int} (h : Sit H t x y) : Dp K H (.ref t) (.tuple [.int x, .int y]) := .tup (SqT.of h) (.cons (.int x) (.cons (.int y) .nil))
theorem eqv_sit (x y u v : Int) : PyData.eqv (.tuple [.int x, .int y]) (.tuple [.int u, .int v]) = decide (x = u ∧ y = v) := by
  simp [PyData.eqv, PyData.eqvAll, Bool.decide_and, Bool.beq_eq_decide_eq]
theorem at0_ (u v : V) : atI [u, v] 0 = some u := rfl
theorem at1_ (u v : V) : atI [u, v] 1 = some v := rfl
end
section
variable {P : Program} {w : World} {K : PySem.W.Frag} {mg : Str → Option Value} {base : Heap}
def spSign : Sp := fun vs H Q _ => ∃ n : Int, vs = [.int n] ∧ Q (.int (sg n)) H
end
/-! ### places, fractions: the mathematics -/
def g3 (x y d : Int) : Nat := Nat.gcd (Nat.gcd x.natAbs y.natAbs) d.natAbs
theorem g3_is (x y d : Int) : Nat.gcd (((Nat.gcd x.natAbs y.natAbs : Nat) : Int)).natAbs d.natAbs = g3 x y d := by
  rw [Int.natAbs_natCast]
  rfl
theorem g3_dx (x y d : Int) : ((g3 x y d : Nat) : Int) ∣ x := Int.ofNat_dvd_left.mpr (Nat.dvd_trans (Nat.gcd_dvd_left _ _) (Nat.gcd_dvd_left _ _))
theorem g3_dy (x y d : Int) : ((g3 x y d : Nat) : Int) ∣ y := Int.ofNat_dvd_left.mpr (Nat.dvd_trans (Nat.gcd_dvd_left _ _) (Nat.gcd_dvd_right _ _))
theorem g3_dd (x y d : Int) : ((g3 x y d : Nat) : Int) ∣ d := Int.ofNat_dvd_left.mpr (Nat.gcd_dvd_right _ _)
theorem g3_pos {x y d : Int} (h : d ≠ 0) : 0 < g3 x y d := Nat.gcd_pos_of_pos_right _ (Int.natAbs_pos.mpr h)
theorem g3_le {x y d : Int} (h : d ≠ 0) : g3 x y d ≤ d.natAbs := Nat.le_of_dvd (Int.natAbs_pos.mpr h) (Nat.gcd_dvd_right _ _)
/-- the divisor that makes the last number one of 1 and more -/
def gs (x y d : Int) : Int := if d < 0 then -((g3 x y d : Nat) : Int) else ((g3 x y d : Nat) : Int)
theorem gs_ne {x y d : Int} (h : d ≠ 0) : gs x y d ≠ 0 := by
  have := g3_pos (x := x) (y := y) h
  unfold gs
  split <;> omega
theorem gs_abs (x y d : Int) : (gs x y d).natAbs = g3 x y d := by
  unfold gs
  split <;> omega
theorem gs_dvd {x y d z : Int} (h : ((g3 x y d : Nat) : Int) ∣ z) : gs x y d ∣ z := by
  unfold gs
  split
  · exact Int.neg_dvd.mpr h
  · exact h
/-- a tuple of three numbers is a place -/
structure PlOk (x y d : Int) : Prop where
  x1 : -(10 ^ 30) < x
  x2 : x < 10 ^ 30
  y1 : -(10 ^ 30) < y
  y2 : y < 10 ^ 30
  d1 : 1 ≤ d
  d2 : d < 10 ^ 30
  g1 : g3 x y d = 1
theorem mul_fdiv {g z : Int} (h : g ∣ z) : g * z.fdiv g = z := by
  rw [Int.fdiv_eq_ediv_of_dvd h]
  exact Int.mul_ediv_cancel' h
theorem abs_le_of_mul {g z x : Int} (e : g * z = x) (h : g ≠ 0) : z.natAbs ≤ x.natAbs := by
  rw [← e, Int.natAbs_mul]
  exact Nat.le_mul_of_pos_left _ (Int.natAbs_pos.mpr h)
theorem place_ok {x y d : Int} (h : d ≠ 0) (hx : x.natAbs < 10 ^ 30) (hy : y.natAbs < 10 ^ 30) (hd : d.natAbs < 10 ^ 30) : PlOk (x.fdiv (gs x y d)) (y.fdiv (gs x y d)) (d.fdiv (gs x y d)) := by
  have ex := mul_fdiv (gs_dvd (g3_dx x y d))
  have ey := mul_fdiv (gs_dvd (g3_dy x y d))
  have ed := mul_fdiv (gs_dvd (g3_dd x y d))
  have hn := gs_ne (x := x) (y := y) h
  have bx := abs_le_of_mul ex hn
  have by' := abs_le_of_mul ey hn
  have bd := abs_le_of_mul ed hn
  have pos : 0 < d.fdiv (gs x y d) := by
    have gp := g3_pos (x := x) (y := y) h
    generalize d.fdiv (gs x y d) = D at ed
    unfold gs at ed
    split at ed
    · rename_i hneg
      rcases Int.lt_trichotomy D 0 with z | z | z
      · exfalso
        have w : 0 < -((g3 x y d : Nat) : Int) * D := Int.mul_pos_of_neg_of_neg (by omega) z
        omega
      · rw [z, Int.mul_zero] at ed
        omega
      · exact z
    · rcases Int.lt_trichotomy D 0 with z | z | z
      · exfalso
        have w : ((g3 x y d : Nat) : Int) * D < 0 := Int.mul_neg_of_pos_of_neg (by omega) z
        omega
      · rw [z, Int.mul_zero] at ed
        omega
      · exact z
  refine ⟨by omega, by omega, by omega, by omega, by omega, by omega, ?_⟩
  have nx : g3 x y d * (x.fdiv (gs x y d)).natAbs = x.natAbs := by rw [← gs_abs, ← Int.natAbs_mul, ex]
  have ny : g3 x y d * (y.fdiv (gs x y d)).natAbs = y.natAbs := by rw [← gs_abs, ← Int.natAbs_mul, ey]
  have nd : g3 x y d * (d.fdiv (gs x y d)).natAbs = d.natAbs := by rw [← gs_abs, ← Int.natAbs_mul, ed]
  have key : g3 x y d * g3 (x.fdiv (gs x y d)) (y.fdiv (gs x y d)) (d.fdiv (gs x y d)) = g3 x y d := by
    generalize hg : g3 x y d = g at nx ny nd
    unfold g3
    rw [← Nat.gcd_mul_left, ← Nat.gcd_mul_left, nx, ny, nd]
    exact hg
  exact Nat.eq_of_mul_eq_mul_left (g3_pos (x := x) (y := y) h) (by rw [key, Nat.mul_one])
theorem nb_add {i j : Int} {a : Nat} (hi : i.natAbs < 2 ^ a) (hj : j.natAbs < 2 ^ a) : (i + j).natAbs < 2 ^ (a + 1) := by
  rw [Nat.pow_succ]
  omega
theorem nb_sub {i j : Int} {a : Nat} (hi : i.natAbs < 2 ^ a) (hj : j.natAbs < 2 ^ a) : (i - j).natAbs < 2 ^ (a + 1) := by
  rw [Nat.pow_succ]
  omega
theorem nb_up {i : Int} {a b : Nat} (hi : i.natAbs < 2 ^ a) (h : a ≤ b) : i.natAbs < 2 ^ b := Nat.lt_of_lt_of_le hi (Nat.pow_le_pow_right (by decide) h)
theorem PlOk.bits {x y d : Int} (h : PlOk x y d) : x.natAbs < 2 ^ 100 ∧ y.natAbs < 2 ^ 100 ∧ d.natAbs < 2 ^ 100 := by
  obtain ⟨h1, h2, h3, h4, h5, h6, _⟩ := h
  refine ⟨by omega, by omega, by omega⟩
/-- the squared distance of a place and a site, times d * d -/
def spread (x y d u v : Int) : Int := (x - d * u) * (x - d * u) + (y - d * v) * (y - d * v)
theorem sq_nn (x : Int) : 0 ≤ x * x := by
  rw [← Int.natAbs_mul_self]
  exact Int.natCast_nonneg _
theorem spread_nonneg (x y d u v : Int) : 0 ≤ spread x y d u v := Int.add_nonneg (sq_nn _) (sq_nn _)
theorem far_bits {x d u : Int} (hx : x.natAbs < 2 ^ 100) (hd : d.natAbs < 2 ^ 100) (hu : -1000000 ≤ u ∧ u ≤ 1000000) : (x - d * u).natAbs < 2 ^ 121 := by
  have h1 : (d * u).natAbs < 2 ^ (100 + 20) := wide_lt hd (by omega)
  exact nb_sub (nb_up hx (by decide)) h1
/-- what lifts from a site are -/
def lz (u v : Int) : Int := u * u + v * v
def vol (ax ay bx by' cx cy dx dy : Int) : Int :=
  (dx - ax) * ((by' - ay) * lz (cx - ax) (cy - ay) - lz (bx - ax) (by' - ay) * (cy - ay)) + (dy - ay) * (lz (bx - ax) (by' - ay) * (cx - ax) - (bx - ax) * lz (cx - ax) (cy - ay)) + lz (dx - ax) (dy - ay) * ((bx - ax) * (cy - ay) - (by' - ay) * (cx - ax))
theorem vol_turn (ax ay bx by' cx cy dx dy : Int) : vol cx cy ax ay bx by' dx dy = vol ax ay bx by' cx cy dx dy := by
  unfold vol lz
  grind
theorem tri_turn (ax ay bx by' cx cy : Int) : tri cx cy ax ay bx by' = tri ax ay bx by' cx cy := by
  unfold tri
  grind
/-! ### fractions, places, circles, lifts -/
section
variable {P : Program} {w : World} {K : PySem.W.Frag} {mg : Str → Option Value} {base : Heap}
theorem three_line : 3 ≤ sizeLine := by decide
theorem a30_ (u v z : V) : atI [u, v, z] 0 = some u := rfl
theorem a31_ (u v z : V) : atI [u, v, z] 1 = some v := rfl
theorem a32_ (u v z : V) : atI [u, v, z] 2 = some z := rfl
def Tup2 (H : Hp) (p : Addr) (x y : Int) : Prop := H p = some (.tup [.int x, .int y])
def Pla (H : Hp) (p : Addr) (x y d : Int) : Prop := H p = some (.tup [.int x, .int y, .int d])
/-- a new thing is handed back, all else stands -/
def newRes (H : Hp) (Q : VK) (o : HO) : Prop := ∀ (p : Addr) H', Same H H' → H p = none → H' p = some o → Q (.ref p) H'
/-! fraction -/
def gcf (t b : Int) : Int := ((Nat.gcd t.natAbs b.natAbs : Nat) : Int)
def spFrac : Sp := fun vs H Q _ => ∃ t b : Int, vs = [.int t, .int b] ∧ 0 < b ∧ b.natAbs < 2 ^ 8000 ∧ newRes H Q (.tup [.int (t / gcf t b), .int (b / gcf t b)])
theorem gcf_pos {t b : Int} (h : 0 < b) : 0 < gcf t b := Int.natCast_pos.mpr (Nat.gcd_pos_of_pos_right _ (by omega))
theorem gcf_le {t b : Int} (h : 0 < b) : (gcf t b).natAbs ≤ b.natAbs := by
  unfold gcf
  rw [Int.natAbs_natCast]
  exact Nat.le_of_dvd (by omega) (Nat.gcd_dvd_right _ _)
/-! places -/
/-- a place -/
def spIsPl : Sp := fun vs H Q _ => ∃ (t : Addr) (x y d : Int), vs = [.ref t] ∧ Pla H t x y d ∧ PlOk x y d ∧ Q (.bl true) H
set_option pp.maxSteps 300 in
def spCheckP : Sp := fun vs H Q _ => ∃ (t : Addr) (x y d : Int) (z : Str), vs = [.ref t, .str z] ∧ Pla H t x y d ∧ PlOk x y d ∧ Q .non H
end
/-! ### k72: numbers that are refused -/
section
variable {P : Program} {w : World} {K : PySem.W.Frag} {mg : Str → Option Value} {base : Heap}
variable {a_InvalidBound a_LimitExceeded : Addr}
/-- of another kind than int -/
def NoInt (K : PySem.W.Frag) (H : Hp) (x : V) : Prop := ∃ t, TyX K H x t ∧ PySem.W.kitOne K t (.type "int") = some false
theorem NoInt.same {H H' : Hp} {x : V} (e : Same H H') (h : NoInt K H x) : NoInt K H' x := let ⟨t, a, b⟩ := h; ⟨t, TyX.ext (ExtN.same e) a, b⟩
theorem kBI (K : PySem.W.Frag) : PySem.W.kitOne K (.type "bool") (.type "int") = some true := kit_ty (by decide +kernel)
theorem kBB (K : PySem.W.Frag) : PySem.W.kitOne K (.type "bool") (.type "bool") = some true := kit_ty (by decide +kernel)
theorem kIB (K : PySem.W.Frag) : PySem.W.kitOne K (.type "int") (.type "bool") = some false := kit_ty (by decide +kernel)
/-- no integer -/
def NoNum (K : PySem.W.Frag) (H : Hp) (x : V) : Prop := NoInt K H x ∨ ∃ b, x = .bl b
theorem NoNum.same {H H' : Hp} {x : V} (e : Same H H') (h : NoNum K H x) : NoNum K H' x := h.elim (fun h => .inl (h.same e)) .inr
def IsI (x : V) : Prop := ∃ n : Int, x = .int n
def IsN (m : Int) (x : V) : Prop := ∃ n : Int, x = .int n ∧ m ≤ n
def IsS (m : Int) (x : V) : Prop := ∃ n : Int, x = .int n ∧ m ≤ n ∧ n ≤ 1000000
/-- no integer from m on -/
def BadN (K : PySem.W.Frag) (m : Int) (H : Hp) (x : V) : Prop := NoNum K H x ∨ ∃ n : Int, x = .int n ∧ n < m
/-- no integer from m to the largest size -/
def BadS (K : PySem.W.Frag) (m : Int) (H : Hp) (x : V) : Prop := NoNum K H x ∨ ∃ n : Int, x = .int n ∧ (n < m ∨ 1000000 < n)
theorem BadN.same {H H' : Hp} {x : V} {m : Int} (e : Same H H') (h : BadN K m H x) : BadN K m H' x := h.elim (fun h => .inl (h.same e)) .inr
theorem BadS.same {H H' : Hp} {x : V} {m : Int} (e : Same H H') (h : BadS K m H x) : BadS K m H' x := h.elim (fun h => .inl (h.same e)) .inr
abbrev s_is_integer : Stmt := topS 5
abbrev n_is_integer : List Str := ["value"]
theorem c_is_integer : FnScope n_is_integer ["value"] (defScope s_is_integer) := ⟨rfl, rfl, rfl, by decide +kernel, rfl, by decide +kernel, by decide +kernel⟩
def p_is_integer (K : PySem.W.Frag) : Sp := fun vs H Q _ => ∃ x, vs = [x] ∧ ((IsI x ∧ Q (.bl true) H) ∨ (NoNum K H x ∧ Q (.bl false) H))
set_option pp.maxSteps 300 in
theorem ok_is_integer  (D : Df K mg "is_integer" s_is_integer ["value"]) (mbool : mg "bool" = none) (mint : mg "int" = none) (misinstance : mg "isinstance" = none) : Cl P w K mg base CX0 "is_integer" 1 ["value"] (p_is_integer K) := by
  refine D.cl fun f fd F => F.ok c_is_integer (fun vs H Q E h => ?_) (fun cdv A outer s H vs Q E hr h => ?_)
  · obtain ⟨x, rfl, q⟩ := h
    rfl
  · obtain ⟨x, rfl, q⟩ := h
    have nd := c_is_integer.nd
    have hu : _ := hu_of hr
    refine ⟨_, (pss_one (ps_ret (pe_and (pe_callB call_isi (by rfl) misinstance (by decide +kernel) (pa_cons (pv 0) (pa_cons (pe_bltn (v := .ty "int") (by rfl) mint (by decide +kernel) rfl) pa_nil))) (pe_one (pe_not (pe_callB call_isi (by rfl) misinstance (by decide +kernel) (pa_cons (pv 0) (pa_cons (pe_bltn (v := .ty "bool") (by rfl) mbool (by decide +kernel) rfl) pa_nil)))))))), ?_⟩
    rcases q with ⟨⟨n, rfl⟩, q⟩ | ⟨hx, q⟩
    · repeat array_get_dec
      exact q
    · rcases hx with ⟨t, ht, e⟩ | ⟨b, rfl⟩
      · repeat array_get_dec
        refine ⟨_, _, _, _, _, rfl, .ty "int", ht, e, ?_⟩
        repeat array_get_dec
        exact q
      · repeat array_get_dec
        refine ⟨_, _, _, _, _, rfl, .ty "int", .base (.bl b), kBI K, ?_⟩
        repeat array_get_dec
        refine ⟨_, _, _, _, _, rfl, .ty "bool", .base (.bl b), kBB K, ?_⟩
        repeat array_get_dec
        exact q
abbrev s_check_number : Stmt := topS 9
abbrev n_check_number : List Str := ["value", "least", "name"]
theorem c_check_number : FnScope n_check_number ["value", "least", "name"] (defScope s_check_number) := ⟨rfl, rfl, rfl, by decide +kernel, rfl, by decide +kernel, by decide +kernel⟩
def p_check_number (K : PySem.W.Frag) (IB : Addr) : Sp := fun vs H Q E => ∃ x m z, vs = [x, .int m, .str z] ∧ ((IsN m x ∧ Q .non H) ∨ (BadN K m H x ∧ Rs IB "argument" (.str z) H E))
set_option pp.maxSteps 300 in
theorem ok_check_number  (D : Df K mg "check_number" s_check_number ["value", "least", "name"]) (C_is_integer : Cl P w K mg base CX0 "is_integer" 1 ["value"] (p_is_integer K)) (Z_InvalidBound : Rz P w K mg base a_InvalidBound "InvalidBound" "argument"): Cl P w K mg base (L2.CX P w) "check_number" 3 ["value", "least", "name"] (p_check_number K a_InvalidBound) := by
  refine D.cl fun f fd F => F.okX c_check_number (fun vs H Q E h => ?_) (fun cdv A outer s H vs Q E hr h => ?_)
  · obtain ⟨x, m, z, rfl, q⟩ := h
    rfl
  · obtain ⟨x, m, z, rfl, q⟩ := h
    have nd := c_check_number.nd
    have hu : _ := hu_of hr
    refine ⟨_, (pss_one (ps_if (PW.pt (pw_or (pt_not (pt_val (pe_cl C_is_integer (hr.mono (by decide)) (by rfl) pass0 (pa_cons (pv 0) pa_nil)))) (pw_or1 (pt_cmpR op_lt (pv 0) (pv 1) (nomark _))))) (pss_one (ps_raise rfl (takes_of (E := E) rfl rfl rfl rfl) (pmk_rz Z_InvalidBound (hr.mono (by decide)) (by rfl) (pv 2)))) pss_nil)), ?_⟩
    rcases q with ⟨⟨n, rfl, hn⟩, q⟩ | ⟨hx, q⟩
    · repeat array_get_dec
      refine .inl ⟨⟨_, rfl⟩, ?_⟩
      repeat array_get_dec
      exact q
    · rcases hx with hx | ⟨n, rfl, hn⟩
      · repeat array_get_dec
        refine .inr ⟨hx, ?_⟩
        repeat array_get_dec
        exact q.of
      · repeat array_get_dec
        refine .inl ⟨⟨_, rfl⟩, ?_⟩
        repeat array_get_dec
        exact q.of
abbrev s_check_size : Stmt := topS 10
abbrev n_check_size : List Str := ["value", "least", "name"]
theorem c_check_size : FnScope n_check_size ["value", "least", "name"] (defScope s_check_size) := ⟨rfl, rfl, rfl, by decide +kernel, rfl, by decide +kernel, by decide +kernel⟩
def p_check_size (K : PySem.W.Frag) (IB : Addr) : Sp := fun vs H Q E => ∃ x m z, vs = [x, .int m, .str z] ∧ ((IsS m x ∧ Q .non H) ∨ (BadS K m H x ∧ Rs IB "argument" (.str z) H E))
set_option pp.maxSteps 300 in
theorem ok_check_size {tLARGEST : Tok} (D : Df K mg "check_size" s_check_size ["value", "least", "name"]) (C_check_number : Cl P w K mg base (L2.CX P w) "check_number" 3 ["value", "least", "name"] (p_check_number K a_InvalidBound)) (mLARGEST : mg "LARGEST" = some (.int 1000000 tLARGEST)) (Z_InvalidBound : Rz P w K mg base a_InvalidBound "InvalidBound" "argument"): Cl P w K mg base (L2.CX P w) "check_size" 4 ["value", "least", "name"] (p_check_size K a_InvalidBound) := by
  refine D.cl fun f fd F => F.okX c_check_size (fun vs H Q E h => ?_) (fun cdv A outer s H vs Q E hr h => ?_)
  · obtain ⟨x, m, z, rfl, q⟩ := h
    rfl
  · obtain ⟨x, m, z, rfl, q⟩ := h
    have nd := c_check_size.nd
    have hu : _ := hu_of hr
    refine ⟨_, (pss_cons (ps_expr (pe_cl C_check_number (hr.mono (by decide)) (by rfl) (passes_call (takes_of (E := E) rfl rfl rfl rfl) fun _ _ _ _ h => h) (pa_cons (pv 0) (pa_cons (pv 1) (pa_cons (pv 2) pa_nil))))) (pss_one (ps_if (pt_cmpR op_gt (pv 0) (pe_glob (v := .int 1000000) (by rfl) mLARGEST ⟨_, rfl⟩) (nomark _)) (pss_one (ps_raise rfl (takes_of (E := E) rfl rfl rfl rfl) (pmk_rz Z_InvalidBound (hr.mono (by decide)) (by rfl) (pv 2)))) pss_nil))), ?_⟩
    rcases q with ⟨⟨n, rfl, hn, hm⟩, q⟩ | ⟨hx, q⟩
    · repeat array_get_dec
      refine .inl ⟨⟨_, rfl, hn⟩, ?_⟩
      repeat array_get_dec
      exact q
    · rcases hx with hx | ⟨n, rfl, hn⟩
      · repeat array_get_dec
        exact .inr ⟨.inl hx, q⟩
      · by_cases c : n < m
        · repeat array_get_dec
          exact .inr ⟨.inr ⟨_, rfl, c⟩, q⟩
        · repeat array_get_dec
          refine .inl ⟨⟨_, rfl, by omega⟩, ?_⟩
          repeat array_get_dec
          exact q.of
abbrev s_check_ends : Stmt := topS 11
abbrev n_check_ends : List Str := ["low", "high"]
theorem c_check_ends : FnScope n_check_ends ["low", "high"] (defScope s_check_ends) := ⟨rfl, rfl, rfl, by decide +kernel, rfl, by decide +kernel, by decide +kernel⟩
/-- ends of a parabola -/
def p_check_ends (K : PySem.W.Frag) (IB : Addr) : Sp := fun vs H Q E => ∃ x y, vs = [x, y] ∧ ((∃ a b : Int, x = .int a ∧ y = .int b ∧ -1000000 ≤ a ∧ a ≤ b ∧ b ≤ 1000000 ∧ Q .non H) ∨ (BadS K (-1000000) H x ∧ Rs IB "argument" (.str "low") H E) ∨ (IsS (-1000000) x ∧ BadS K (-1000000) H y ∧ Rs IB "argument" (.str "high") H E) ∨
  (∃ a b : Int, x = .int a ∧ y = .int b ∧ IsS (-1000000) x ∧ IsS (-1000000) y ∧ b < a ∧ Rs IB "argument" (.str "high") H E))
set_option pp.maxSteps 300 in
theorem ok_check_ends {tLARGEST : Tok} (D : Df K mg "check_ends" s_check_ends ["low", "high"]) (C_check_size : Cl P w K mg base (L2.CX P w) "check_size" 4 ["value", "least", "name"] (p_check_size K a_InvalidBound)) (mLARGEST : mg "LARGEST" = some (.int 1000000 tLARGEST)) (Z_InvalidBound : Rz P w K mg base a_InvalidBound "InvalidBound" "argument"): Cl P w K mg base (L2.CX P w) "check_ends" 5 ["low", "high"] (p_check_ends K a_InvalidBound) := by
  refine D.cl fun f fd F => F.okX c_check_ends (fun vs H Q E h => ?_) (fun cdv A outer s H vs Q E hr h => ?_)
  · obtain ⟨x, y, rfl, q⟩ := h
    rfl
  · obtain ⟨x, y, rfl, q⟩ := h
    have nd := c_check_ends.nd
    have hu : _ := hu_of hr
    refine ⟨_, (pss_cons (ps_expr (pe_cl C_check_size (hr.mono (by decide)) (by rfl) (passes_call (takes_of (E := E) rfl rfl rfl rfl) fun _ _ _ _ h => h) (pa_cons (pv 0) (pa_cons (pe_un un_neg (pe_glob (v := .int 1000000) (by rfl) mLARGEST ⟨_, rfl⟩)) (pa_cons pe_str pa_nil))))) (pss_cons (ps_expr (pe_cl C_check_size (hr.mono (by decide)) (by rfl) (passes_call (takes_of (E := E) rfl rfl rfl rfl) fun _ _ _ _ h => h) (pa_cons (pv 1) (pa_cons (pe_un un_neg (pe_glob (v := .int 1000000) (by rfl) mLARGEST ⟨_, rfl⟩)) (pa_cons pe_str pa_nil))))) (pss_one (ps_if (pt_cmpR op_gt (pv 0) (pv 1) (nomark _)) (pss_one (ps_raise rfl (takes_of (E := E) rfl rfl rfl rfl) (pmk_rz Z_InvalidBound (hr.mono (by decide)) (by rfl) pe_str))) pss_nil)))), ?_⟩
    rcases q with ⟨a, b, rfl, rfl, ha, hab, hb, q⟩ | ⟨hx, q⟩ | ⟨hx, hy, q⟩ | ⟨a, b, rfl, rfl, hx, hy, hab, q⟩
    · repeat array_get_dec
      refine .inl ⟨⟨_, rfl, by omega, by omega⟩, ?_⟩
      repeat array_get_dec
      refine .inl ⟨⟨_, rfl, by omega, by omega⟩, ?_⟩
      repeat array_get_dec
      exact q
    · repeat array_get_dec
      exact .inr ⟨hx, q⟩
    · repeat array_get_dec
      refine .inl ⟨hx, ?_⟩
      repeat array_get_dec
      exact .inr ⟨hy, q⟩
    · repeat array_get_dec
      refine .inl ⟨hx, ?_⟩
      repeat array_get_dec
      refine .inl ⟨hy, ?_⟩
      repeat array_get_dec
      exact q.of
abbrev s_check_limits : Stmt := topS 12
abbrev n_check_limits : List Str := ["many", "farthest"]
theorem c_check_limits : FnScope n_check_limits ["many", "farthest"] (defScope s_check_limits) := ⟨rfl, rfl, rfl, by decide +kernel, rfl, by decide +kernel, by decide +kernel⟩
def p_check_limits (LE : Addr) : Sp := fun vs H Q E => ∃ a b : Int, vs = [.int a, .int b] ∧ ((a ≤ 200 ∧ b ≤ 1000000 ∧ Q .non H) ∨ (200 < a ∧ Rs LE "limit" (.int 200) H E) ∨ (a ≤ 200 ∧ 1000000 < b ∧ Rs LE "limit" (.int 1000000) H E))
set_option pp.maxSteps 300 in
theorem ok_check_limits {tLARGEST : Tok} {tMOST_SITES : Tok} (D : Df K mg "check_limits" s_check_limits ["many", "farthest"]) (mLARGEST : mg "LARGEST" = some (.int 1000000 tLARGEST)) (mMOST_SITES : mg "MOST_SITES" = some (.int 200 tMOST_SITES)) (Z_LimitExceeded : Rz P w K mg base a_LimitExceeded "LimitExceeded" "limit"): Cl P w K mg base (L2.CX P w) "check_limits" 3 ["many", "farthest"] (p_check_limits a_LimitExceeded) := by
  refine D.cl fun f fd F => F.okX c_check_limits (fun vs H Q E h => ?_) (fun cdv A outer s H vs Q E hr h => ?_)
  · obtain ⟨a, b, rfl, q⟩ := h
    rfl
  · obtain ⟨a, b, rfl, q⟩ := h
    have nd := c_check_limits.nd
    have hu : _ := hu_of hr
    refine ⟨_, (pss_cons (ps_if (pt_cmpR op_gt (pv 0) (pe_glob (v := .int 200) (by rfl) mMOST_SITES ⟨_, rfl⟩) (nomark _)) (pss_one (ps_raise rfl (takes_of (E := E) rfl rfl rfl rfl) (pmk_rz Z_LimitExceeded (hr.mono (by decide)) (by rfl) (pe_glob (v := .int 200) (by rfl) mMOST_SITES ⟨_, rfl⟩)))) pss_nil) (pss_one (ps_if (pt_cmpR op_gt (pv 1) (pe_glob (v := .int 1000000) (by rfl) mLARGEST ⟨_, rfl⟩) (nomark _)) (pss_one (ps_raise rfl (takes_of (E := E) rfl rfl rfl rfl) (pmk_rz Z_LimitExceeded (hr.mono (by decide)) (by rfl) (pe_glob (v := .int 1000000) (by rfl) mLARGEST ⟨_, rfl⟩)))) pss_nil))), ?_⟩
    rcases q with ⟨ha, hb, q⟩ | ⟨ha, q⟩ | ⟨ha, hb, q⟩
    · repeat array_get_dec
      exact q
    · repeat array_get_dec
      exact q.of
    · repeat array_get_dec
      exact q.of
abbrev s_check_two_rows : Stmt := topS 17
abbrev n_check_two_rows : List Str := ["m", "n", "shift"]
theorem c_check_two_rows : FnScope n_check_two_rows ["m", "n", "shift"] (defScope s_check_two_rows) := ⟨rfl, rfl, rfl, by decide +kernel, rfl, by decide +kernel, by decide +kernel⟩
def p_check_two_rows (K : PySem.W.Frag) (IB : Addr) : Sp := fun vs H Q E => ∃ x y z, vs = [x, y, z] ∧ ((IsS 1 x ∧ IsS 1 y ∧ IsS (-1000000) z ∧ Q .non H) ∨ (BadS K 1 H x ∧ Rs IB "argument" (.str "m") H E) ∨ (IsS 1 x ∧ BadS K 1 H y ∧ Rs IB "argument" (.str "n") H E) ∨ (IsS 1 x ∧ IsS 1 y ∧ BadS K (-1000000) H z ∧ Rs IB "argument" (.str "shift") H E))
set_option pp.maxSteps 300 in
theorem ok_check_two_rows {tLARGEST : Tok} (D : Df K mg "check_two_rows" s_check_two_rows ["m", "n", "shift"]) (C_check_size : Cl P w K mg base (L2.CX P w) "check_size" 4 ["value", "least", "name"] (p_check_size K a_InvalidBound)) (mLARGEST : mg "LARGEST" = some (.int 1000000 tLARGEST)) : Cl P w K mg base (L2.CX P w) "check_two_rows" 5 ["m", "n", "shift"] (p_check_two_rows K a_InvalidBound) := by
  refine D.cl fun f fd F => F.okX c_check_two_rows (fun vs H Q E h => ?_) (fun cdv A outer s H vs Q E hr h => ?_)
  · obtain ⟨x, y, z, rfl, q⟩ := h
    rfl
  · obtain ⟨x, y, z, rfl, q⟩ := h
    have nd := c_check_two_rows.nd
    have hu : _ := hu_of hr
    refine ⟨_, (pss_cons (ps_expr (pe_cl C_check_size (hr.mono (by decide)) (by rfl) (passes_call (takes_of (E := E) rfl rfl rfl rfl) fun _ _ _ _ h => h) (pa_cons (pv 0) (pa_cons pe_int (pa_cons pe_str pa_nil))))) (pss_cons (ps_expr (pe_cl C_check_size (hr.mono (by decide)) (by rfl) (passes_call (takes_of (E := E) rfl rfl rfl rfl) fun _ _ _ _ h => h) (pa_cons (pv 1) (pa_cons pe_int (pa_cons pe_str pa_nil))))) (pss_one (ps_expr (pe_cl C_check_size (hr.mono (by decide)) (by rfl) (passes_call (takes_of (E := E) rfl rfl rfl rfl) fun _ _ _ _ h => h) (pa_cons (pv 2) (pa_cons (pe_un un_neg (pe_glob (v := .int 1000000) (by rfl) mLARGEST ⟨_, rfl⟩)) (pa_cons pe_str pa_nil)))))))), ?_⟩
    rcases q with ⟨hx, hy, hz, q⟩ | ⟨hx, q⟩ | ⟨hx, hy, q⟩ | ⟨hx, hy, hz, q⟩
    · repeat array_get_dec
      refine .inl ⟨hx, ?_⟩
      repeat array_get_dec
      refine .inl ⟨hy, ?_⟩
      repeat array_get_dec
      refine .inl ⟨hz, ?_⟩
      repeat array_get_dec
      exact q
    · repeat array_get_dec
      exact .inr ⟨hx, q⟩
    · repeat array_get_dec
      refine .inl ⟨hx, ?_⟩
      repeat array_get_dec
      exact .inr ⟨hy, q⟩
    · repeat array_get_dec
      refine .inl ⟨hx, ?_⟩
      repeat array_get_dec
      refine .inl ⟨hy, ?_⟩
      repeat array_get_dec
      exact .inr ⟨hz, q⟩
end
/-! ### k72: shapes, told and refused -/
section
variable {P : Program} {w : World} {K : PySem.W.Frag} {mg : Str → Option Value} {base : Heap}
variable {a_InvalidBound a_LimitExceeded : Addr}
theorem IsS.same {m : Int} {x : V} (h : IsS m x) : IsS m x := h
/-- a new list of so many pairs -/
def Prs (n : Nat) (H : Hp) (Q : VK) : Prop := ∀ p H' (zs : List V), Same H H' → H' p = some (.lst zs) → zs.length = n → Q (.ref p) H'
/-- pairs at ks -/
def Prd (H : Hp) (D : Addr) (ks : List Addr) : Prop := H D = some (.lst (ks.map V.ref)) ∧ ∀ k ∈ ks, k ≠ D ∧ ∃ a b : Int, H k = some (.tup [.int a, .int b])
theorem Prd.snoc {H H' : Hp} {D k : Addr} {ks : List Addr} {a b : Int} (h : Prd H D ks) (s : Same H H') (n : H k = none) (e : H' k = some (.tup [.int a, .int b])) : Prd (upd H' D (.lst (ks.map V.ref ++ [.ref k]))) D (ks ++ [k]) := by
  have kD : k ≠ D := Ne.symm (ne_of_none h.1 n)
  refine ⟨by rw [upd_same, List.map_append]; rfl, fun x m => ?_⟩
  rcases List.mem_append.mp m with m | m
  · obtain ⟨n1, a1, b1, e1⟩ := h.2 x m
    exact ⟨n1, a1, b1, by rw [upd_ne n1]; exact s _ _ e1⟩
  · rw [List.mem_singleton.mp m]
    exact ⟨kD, a, b, by rw [upd_ne kD]; exact e⟩
theorem Prd.sits {H : Hp} {D : Addr} {ks : List Addr} (h : Prd H D ks) : ∀ k ∈ ks, H k = some (.tup [.int (hv H k).1, .int (hv H k).2]) := fun k m => by
  obtain ⟨_, a, b, e⟩ := h.2 k m
  rw [hv_of e]
  exact e
abbrev s_grid : Stmt := topS 15
abbrev n_grid : List Str := ["m", "n", "x", "y"]
theorem c_grid : FnScope n_grid ["m", "n"] (defScope s_grid) := ⟨rfl, rfl, rfl, by decide +kernel, rfl, by decide +kernel, by decide +kernel⟩
def p_grid (K : PySem.W.Frag) (IB LE : Addr) : Sp := fun vs H Q E => ∃ x y, vs = [x, y] ∧ ((BadS K 1 H x ∧ Rs IB "argument" (.str "m") H E) ∨ (IsS 1 x ∧ BadS K 1 H y ∧ Rs IB "argument" (.str "n") H E) ∨
  (∃ m n : Int, x = .int m ∧ y = .int n ∧ IsS 1 x ∧ IsS 1 y ∧ 200 < m * n ∧ Rs LE "limit" (.int 200) H E) ∨ (∃ m n : Nat, x = .int (m : Nat) ∧ y = .int (n : Nat) ∧ 1 ≤ m ∧ 1 ≤ n ∧ m ≤ 200 ∧ n ≤ 200 ∧ m * n ≤ 200 ∧ Prs (m * n) H Q))
set_option pp.maxSteps 300 in
theorem ok_grid  (D : Df K mg "grid" s_grid ["m", "n"]) (C_check_size : Cl P w K mg base (L2.CX P w) "check_size" 4 ["value", "least", "name"] (p_check_size K a_InvalidBound)) (C_check_limits : Cl P w K mg base (L2.CX P w) "check_limits" 3 ["many", "farthest"] (p_check_limits a_LimitExceeded)) (mmax : mg "max" = none) (mrange : mg "range" = none) : Cl P w K mg base (L2.CX P w) "grid" 5 ["m", "n"] (p_grid K a_InvalidBound a_LimitExceeded) := by
  refine D.cl fun f fd F => F.okX c_grid (fun vs H Q E h => ?_) (fun cdv A outer s H vs Q E hr h => ?_)
  · obtain ⟨x, y, rfl, q⟩ := h
    rfl
  · obtain ⟨x, y, rfl, q⟩ := h
    have nd := c_grid.nd
    have hu : _ := hu_of hr
    refine ⟨_, (pss_cons (ps_expr (pe_cl C_check_size (hr.mono (by decide)) (by rfl) (passes_call (takes_of (E := E) rfl rfl rfl rfl) fun _ _ _ _ h => h) (pa_cons (pv 0) (pa_cons pe_int (pa_cons pe_str pa_nil))))) (pss_cons (ps_expr (pe_cl C_check_size (hr.mono (by decide)) (by rfl) (passes_call (takes_of (E := E) rfl rfl rfl rfl) fun _ _ _ _ h => h) (pa_cons (pv 1) (pa_cons pe_int (pa_cons pe_str pa_nil))))) (pss_cons (ps_expr (pe_cl C_check_limits (hr.mono (by decide)) (by rfl) (passes_call (takes_of (E := E) rfl rfl rfl rfl) fun _ _ _ _ h => h) (pa_cons (pe_op op_mulW (pv 0) (pv 1)) (pa_cons (pe_op op_sub (pe_callB (call_max2 (by rfl)) (by rfl) mmax (by decide +kernel) (pa_cons (pv 0) (pa_cons (pv 1) pa_nil))) pe_int) pa_nil)))) (pss_one (ps_ret (pe_lc2 (own := [("x", 2), ("y", 3)]) (vs1 := [3]) (g := gName 2) (tt := tYes) (wi1 := iRng1 (tCons (tVar 1) tNil)) (g1 := gName 3) (tt1 := tYes) (te := tTupG (tCons (tVar 2) (tCons (tVar 3) tNil))) rfl nd (pi_range1 (by rfl) mrange (pa_cons (pv 0) pa_nil)) (blkOk_by (own := [("x", 2), ("y", 3)]) (N := n_grid) (sc := defScope s_grid) (by decide +kernel)) (by decide) (fun _ _ _ _ _ => by exact (pg_name (i := 2) nd rfl (.inl rfl))) (fun _ _ _ _ _ => by exact pts_nil) (fun _ _ _ _ _ => by exact (pi_range1 (by rfl) mrange (pa_cons (pv 1) pa_nil))) (fun _ _ _ _ _ => by exact (pg_name (i := 3) nd rfl (.inl rfl))) (fun _ _ _ _ _ => by exact pts_nil) (fun _ _ _ _ _ => by exact (pe_tupG (pa_cons (pv 2) (pa_cons (pv 3) pa_nil)))))))))), ?_⟩
    rcases q with ⟨hx, q⟩ | ⟨hx, hy, q⟩ | ⟨m, n, rfl, rfl, hx, hy, c, q⟩ | ⟨m, n, rfl, rfl, m1, n1, m2, n2, c, q⟩
    · repeat array_get_dec
      exact .inr ⟨hx, q⟩
    · repeat array_get_dec
      refine .inl ⟨hx, ?_⟩
      repeat array_get_dec
      exact .inr ⟨hy, q⟩
    · obtain ⟨_, e1, x1, x2⟩ := id hx
      cases e1
      obtain ⟨_, e2, y1, y2⟩ := id hy
      cases e2
      repeat array_get_dec
      refine .inl ⟨hx, ?_⟩
      repeat array_get_dec
      refine .inl ⟨hy, ?_⟩
      repeat array_get_dec
      exact .inr (.inl ⟨c, q⟩)
    · repeat array_get_dec
      refine .inl ⟨⟨_, rfl, by omega, by omega⟩, ?_⟩
      repeat array_get_dec
      refine .inl ⟨⟨_, rfl, by omega, by omega⟩, ?_⟩
      repeat array_get_dec
      refine .inl ⟨by exact_mod_cast c, by split <;> omega, ?_⟩
      repeat array_get_dec
      refine ⟨by omega, by omega, fun R nR => ?_⟩
      refine lc2_out (walk_range (lo := 0) (n := ((m : Nat) : Int).toNat)) (fun i H' => Same H H' ∧ ∃ ks, Prd H' R ks ∧ ks.length = i * n) ⟨Same.upd nR, [], ⟨upd_same, fun _ h => nomatch h⟩, by simp⟩ (fun _ _ _ _ => trivial) (fun i x H4 H5 hi z y => ?_) fun H' z => ?_
      · obtain ⟨rfl, rfl⟩ := y
        obtain ⟨s4, ks, pk, lk⟩ := z
        have hi : i < m := by omega
        have lim : i * n + n ≤ 200 := by
          have := Nat.mul_le_mul_right n (show i + 1 ≤ m by omega)
          rw [Nat.succ_mul] at this
          omega
        repeat array_get_dec
        refine ⟨by omega, by omega, ?_⟩
        refine lc2_in (walk_range (lo := 0) (n := ((n : Nat) : Int).toNat)) (fun j H' => Same H H' ∧ ∃ ks, Prd H' R ks ∧ ks.length = i * n + j) ⟨s4, ks, pk, by omega⟩ (fun _ _ _ _ => trivial) (fun j x H6 H7 hj z y => ?_) fun H' z => ?_
        · obtain ⟨rfl, rfl⟩ := y
          obtain ⟨s6, ks, pk, lk⟩ := z
          have hj : j < n := by omega
          repeat array_get_dec
          refine fun t H8 s8 n8 e8 => ?_
          exact ⟨_, s8 _ _ pk.1, by rw [List.length_map, lk]; exact Nat.lt_of_lt_of_le (show i * n + j < 201 by omega) (by decide), same_upd_of (s6.trans s8) nR, ks ++ [t], pk.snoc s8 n8 e8, by rw [List.length_append, lk]; simp; omega⟩
        · obtain ⟨s6, ks, pk, lk⟩ := z
          refine ⟨s6, ks, pk, ?_⟩
          rw [lk, Nat.succ_mul]
          simp
      · obtain ⟨s4, ks, pk, lk⟩ := z
        refine q R H' _ s4 pk.1 ?_
        rw [List.length_map, lk]
        simp
abbrev s_grid_counts : Stmt := topS 16
abbrev n_grid_counts : List Str := ["m", "n", "squares"]
theorem c_grid_counts : FnScope n_grid_counts ["m", "n"] (defScope s_grid_counts) := ⟨rfl, rfl, rfl, by decide +kernel, rfl, by decide +kernel, by decide +kernel⟩
def p_grid_counts (K : PySem.W.Frag) (IB : Addr) : Sp := fun vs H Q E => ∃ x y, vs = [x, y] ∧ ((BadS K 1 H x ∧ Rs IB "argument" (.str "m") H E) ∨ (IsS 1 x ∧ BadS K 1 H y ∧ Rs IB "argument" (.str "n") H E))
set_option pp.maxSteps 300 in
theorem ok_grid_counts  (D : Df K mg "grid_counts" s_grid_counts ["m", "n"]) (C_check_size : Cl P w K mg base (L2.CX P w) "check_size" 4 ["value", "least", "name"] (p_check_size K a_InvalidBound)) : Cl P w K mg base (L2.CX P w) "grid_counts" 5 ["m", "n"] (p_grid_counts K a_InvalidBound) := by
  refine D.cl fun f fd F => F.okX c_grid_counts (fun vs H Q E h => ?_) (fun cdv A outer s H vs Q E hr h => ?_)
  · obtain ⟨x, y, rfl, q⟩ := h
    rfl
  · obtain ⟨x, y, rfl, q⟩ := h
    have nd := c_grid_counts.nd
    have hu : _ := hu_of hr
    refine ⟨_, (pss_cons (ps_expr (pe_cl C_check_size (hr.mono (by decide)) (by rfl) (passes_call (takes_of (E := E) rfl rfl rfl rfl) fun _ _ _ _ h => h) (pa_cons (pv 0) (pa_cons pe_int (pa_cons pe_str pa_nil))))) (pss_cons (ps_expr (pe_cl C_check_size (hr.mono (by decide)) (by rfl) (passes_call (takes_of (E := E) rfl rfl rfl rfl) fun _ _ _ _ h => h) (pa_cons (pv 1) (pa_cons pe_int (pa_cons pe_str pa_nil))))) pss_never)), ?_⟩
    rcases q with ⟨hx, q⟩ | ⟨hx, hy, q⟩
    · repeat array_get_dec
      exact .inr ⟨hx, q⟩
    · repeat array_get_dec
      refine .inl ⟨hx, ?_⟩
      repeat array_get_dec
      exact .inr ⟨hy, q⟩
abbrev s_zigzag_counts : Stmt := topS 23
abbrev n_zigzag_counts : List Str := ["m", "n", "triangles"]
theorem c_zigzag_counts : FnScope n_zigzag_counts ["m", "n"] (defScope s_zigzag_counts) := ⟨rfl, rfl, rfl, by decide +kernel, rfl, by decide +kernel, by decide +kernel⟩
def p_zigzag_counts (K : PySem.W.Frag) (IB : Addr) : Sp := fun vs H Q E => ∃ x y, vs = [x, y] ∧ ((BadS K 2 H x ∧ Rs IB "argument" (.str "m") H E) ∨ (IsS 2 x ∧ BadS K 2 H y ∧ Rs IB "argument" (.str "n") H E))
set_option pp.maxSteps 300 in
theorem ok_zigzag_counts  (D : Df K mg "zigzag_counts" s_zigzag_counts ["m", "n"]) (C_check_size : Cl P w K mg base (L2.CX P w) "check_size" 4 ["value", "least", "name"] (p_check_size K a_InvalidBound)) : Cl P w K mg base (L2.CX P w) "zigzag_counts" 5 ["m", "n"] (p_zigzag_counts K a_InvalidBound) := by
  refine D.cl fun f fd F => F.okX c_zigzag_counts (fun vs H Q E h => ?_) (fun cdv A outer s H vs Q E hr h => ?_)
  · obtain ⟨x, y, rfl, q⟩ := h
    rfl
  · obtain ⟨x, y, rfl, q⟩ := h
    have nd := c_zigzag_counts.nd
    have hu : _ := hu_of hr
    refine ⟨_, (pss_cons (ps_expr (pe_cl C_check_size (hr.mono (by decide)) (by rfl) (passes_call (takes_of (E := E) rfl rfl rfl rfl) fun _ _ _ _ h => h) (pa_cons (pv 0) (pa_cons pe_int (pa_cons pe_str pa_nil))))) (pss_cons (ps_expr (pe_cl C_check_size (hr.mono (by decide)) (by rfl) (passes_call (takes_of (E := E) rfl rfl rfl rfl) fun _ _ _ _ h => h) (pa_cons (pv 1) (pa_cons pe_int (pa_cons pe_str pa_nil))))) pss_never)), ?_⟩
    rcases q with ⟨hx, q⟩ | ⟨hx, hy, q⟩
    · repeat array_get_dec
      exact .inr ⟨hx, q⟩
    · repeat array_get_dec
      refine .inl ⟨hx, ?_⟩
      repeat array_get_dec
      exact .inr ⟨hy, q⟩
abbrev s_two_rows_counts : Stmt := topS 19
abbrev n_two_rows_counts : List Str := ["m", "n", "shift", "above"]
theorem c_two_rows_counts : FnScope n_two_rows_counts ["m", "n", "shift"] (defScope s_two_rows_counts) := ⟨rfl, rfl, rfl, by decide +kernel, rfl, by decide +kernel, by decide +kernel⟩
/-- what is wrong of three -/
def Bad3 (K : PySem.W.Frag) (IB : Addr) (x y z : V) (H : Hp) (E : XK) : Prop := (BadS K 1 H x ∧ Rs IB "argument" (.str "m") H E) ∨ (IsS 1 x ∧ BadS K 1 H y ∧ Rs IB "argument" (.str "n") H E) ∨ (IsS 1 x ∧ IsS 1 y ∧ BadS K (-1000000) H z ∧ Rs IB "argument" (.str "shift") H E)
def p_two_rows_counts (K : PySem.W.Frag) (IB : Addr) : Sp := fun vs H Q E => ∃ x y z, vs = [x, y, z] ∧ Bad3 K IB x y z H E
set_option pp.maxSteps 300 in
theorem ok_two_rows_counts  (D : Df K mg "two_rows_counts" s_two_rows_counts ["m", "n", "shift"]) (C_check_two_rows : Cl P w K mg base (L2.CX P w) "check_two_rows" 5 ["m", "n", "shift"] (p_check_two_rows K a_InvalidBound)) : Cl P w K mg base (L2.CX P w) "two_rows_counts" 6 ["m", "n", "shift"] (p_two_rows_counts K a_InvalidBound) := by
  refine D.cl fun f fd F => F.okX c_two_rows_counts (fun vs H Q E h => ?_) (fun cdv A outer s H vs Q E hr h => ?_)
  · obtain ⟨x, y, z, rfl, q⟩ := h
    rfl
  · obtain ⟨x, y, z, rfl, q⟩ := h
    have nd := c_two_rows_counts.nd
    have hu : _ := hu_of hr
    refine ⟨_, (pss_cons (ps_expr (pe_cl C_check_two_rows (hr.mono (by decide)) (by rfl) (passes_call (takes_of (E := E) rfl rfl rfl rfl) fun _ _ _ _ h => h) (pa_cons (pv 0) (pa_cons (pv 1) (pa_cons (pv 2) pa_nil))))) pss_never), ?_⟩
    repeat array_get_dec
    exact .inr q
abbrev s_parabola_counts : Stmt := topS 21
abbrev n_parabola_counts : List Str := ["low", "high", "many", "level"]
theorem c_parabola_counts : FnScope n_parabola_counts ["low", "high"] (defScope s_parabola_counts) := ⟨rfl, rfl, rfl, by decide +kernel, rfl, by decide +kernel, by decide +kernel⟩
def BadE (K : PySem.W.Frag) (IB : Addr) (x y : V) (H : Hp) (E : XK) : Prop := (BadS K (-1000000) H x ∧ Rs IB "argument" (.str "low") H E) ∨ (IsS (-1000000) x ∧ BadS K (-1000000) H y ∧ Rs IB "argument" (.str "high") H E) ∨
  (∃ a b : Int, x = .int a ∧ y = .int b ∧ IsS (-1000000) x ∧ IsS (-1000000) y ∧ b < a ∧ Rs IB "argument" (.str "high") H E)
def p_parabola_counts (K : PySem.W.Frag) (IB : Addr) : Sp := fun vs H Q E => ∃ x y, vs = [x, y] ∧ BadE K IB x y H E
set_option pp.maxSteps 300 in
theorem ok_parabola_counts  (D : Df K mg "parabola_counts" s_parabola_counts ["low", "high"]) (C_check_ends : Cl P w K mg base (L2.CX P w) "check_ends" 5 ["low", "high"] (p_check_ends K a_InvalidBound)) : Cl P w K mg base (L2.CX P w) "parabola_counts" 6 ["low", "high"] (p_parabola_counts K a_InvalidBound) := by
  refine D.cl fun f fd F => F.okX c_parabola_counts (fun vs H Q E h => ?_) (fun cdv A outer s H vs Q E hr h => ?_)
  · obtain ⟨x, y, rfl, q⟩ := h
    rfl
  · obtain ⟨x, y, rfl, q⟩ := h
    have nd := c_parabola_counts.nd
    have hu : _ := hu_of hr
    refine ⟨_, (pss_cons (ps_expr (pe_cl C_check_ends (hr.mono (by decide)) (by rfl) (passes_call (takes_of (E := E) rfl rfl rfl rfl) fun _ _ _ _ h => h) (pa_cons (pv 0) (pa_cons (pv 1) pa_nil)))) pss_never), ?_⟩
    repeat array_get_dec
    exact .inr q
theorem nuMax3_int (a b c : Int) : ∃ z, nuMax3 (.int a) (.int b) (.int c) = some (.int z) ∧ (z = a ∨ z = b ∨ z = c) ∧ a ≤ z ∧ b ≤ z ∧ c ≤ z := by
  have two : ∀ a b : Int, ∃ z, nuMax2 (.int a) (.int b) = some (.int z) ∧ (z = a ∨ z = b) ∧ a ≤ z ∧ b ≤ z := fun a b => by
    by_cases h : a < b
    · exact ⟨b, by show some (if decide (a < b) = true then V.int b else V.int a) = _; rw [if_pos (decide_eq_true h)], .inr rfl, by omega, by omega⟩
    · exact ⟨a, by show some (if decide (a < b) = true then V.int b else V.int a) = _; rw [if_neg (by simpa using h)], .inl rfl, by omega, by omega⟩
  obtain ⟨z1, e1, h1⟩ := two a b
  obtain ⟨z2, e2, h2⟩ := two z1 c
  refine ⟨z2, ?_, by omega, by omega, by omega, by omega⟩
  show (nuMax2 (.int a) (.int b)).bind _ = _
  rw [e1]
  exact e2
abbrev s_parabola : Stmt := topS 20
abbrev n_parabola : List Str := ["low", "high", "x"]
theorem c_parabola : FnScope n_parabola ["low", "high"] (defScope s_parabola) := ⟨rfl, rfl, rfl, by decide +kernel, rfl, by decide +kernel, by decide +kernel⟩
def p_parabola (K : PySem.W.Frag) (IB LE : Addr) : Sp := fun vs H Q E => ∃ x y, vs = [x, y] ∧ (BadE K IB x y H E ∨ (∃ a b : Int, x = .int a ∧ y = .int b ∧ -1000000 ≤ a ∧ a ≤ b ∧ b ≤ 1000000 ∧ 199 < b - a ∧ Rs LE "limit" (.int 200) H E) ∨
  (∃ a b : Int, x = .int a ∧ y = .int b ∧ -1000000 ≤ a ∧ a ≤ b ∧ b ≤ 1000000 ∧ b - a ≤ 199 ∧ 1000000 < b * b ∧ Rs LE "limit" (.int 1000000) H E) ∨ (∃ a b : Int, x = .int a ∧ y = .int b ∧ -1000 ≤ a ∧ a ≤ b ∧ b ≤ 1000 ∧ b - a ≤ 199 ∧ Prs (b - a + 1).toNat H Q))
set_option pp.maxSteps 300 in
theorem ok_parabola  (D : Df K mg "parabola" s_parabola ["low", "high"]) (C_check_ends : Cl P w K mg base (L2.CX P w) "check_ends" 5 ["low", "high"] (p_check_ends K a_InvalidBound)) (C_check_limits : Cl P w K mg base (L2.CX P w) "check_limits" 3 ["many", "farthest"] (p_check_limits a_LimitExceeded)) (mmax : mg "max" = none) (mrange : mg "range" = none) : Cl P w K mg base (L2.CX P w) "parabola" 6 ["low", "high"] (p_parabola K a_InvalidBound a_LimitExceeded) := by
  refine D.cl fun f fd F => F.okX c_parabola (fun vs H Q E h => ?_) (fun cdv A outer s H vs Q E hr h => ?_)
  · obtain ⟨x, y, rfl, q⟩ := h
    rfl
  · obtain ⟨x, y, rfl, q⟩ := h
    have nd := c_parabola.nd
    have hu : _ := hu_of hr
    refine ⟨_, (pss_cons (ps_expr (pe_cl C_check_ends (hr.mono (by decide)) (by rfl) (passes_call (takes_of (E := E) rfl rfl rfl rfl) fun _ _ _ _ h => h) (pa_cons (pv 0) (pa_cons (pv 1) pa_nil)))) (pss_cons (ps_expr (pe_cl C_check_limits (hr.mono (by decide)) (by rfl) (passes_call (takes_of (E := E) rfl rfl rfl rfl) fun _ _ _ _ h => h) (pa_cons (pe_op op_add (pe_op op_sub (pv 1) (pv 0)) pe_int) (pa_cons (pe_callB (call_max2 (by rfl)) (by rfl) mmax (by decide +kernel) (pa_cons (pe_op op_mulW (pv 0) (pv 0)) (pa_cons (pe_op op_mulW (pv 1) (pv 1)) pa_nil))) pa_nil)))) (pss_one (ps_ret (pe_lc (own := [("x", 2)]) (g := (gName 2)) (tt := tYes)  rfl nd (pi_range2 (by rfl) mrange (pa_cons (pv 0) (pa_cons (pe_op op_add (pv 1) pe_int) pa_nil))) (blkOk_by (own := [("x", 2)]) (N := n_parabola) (sc := defScope s_parabola) (by decide +kernel)) (fun _ _ _ _ _ => by exact (pg_name (i := 2) nd rfl (.inl rfl))) (fun _ _ _ _ _ => by exact pts_nil) (fun _ _ _ _ _ => by exact (pe_tupG (pa_cons (pv 2) (pa_cons (pe_op op_mulW (pv 2) (pv 2)) pa_nil))))))))), ?_⟩
    rcases q with q | ⟨a, b, rfl, rfl, a1, ab, b1, c, q⟩ | ⟨a, b, rfl, rfl, a1, ab, b1, c, d, q⟩ | ⟨a, b, rfl, rfl, a1, ab, b1, c, q⟩
    · repeat array_get_dec
      exact .inr q
    · repeat array_get_dec
      refine .inl ⟨a, b, rfl, rfl, a1, ab, b1, ?_⟩
      repeat array_get_dec
      exact .inr (.inl ⟨by omega, q⟩)
    · repeat array_get_dec
      refine .inl ⟨a, b, rfl, rfl, a1, ab, b1, ?_⟩
      repeat array_get_dec
      exact .inr (.inr ⟨by omega, by split <;> omega, q⟩)
    · have sq : ∀ c : Int, -1000 ≤ c → c ≤ 1000 → c * c ≤ 1000000 := fun c h1 h2 => by
        have := Int.mul_nonneg (show 0 ≤ 1000 - c by omega) (show 0 ≤ 1000 + c by omega)
        grind
      repeat array_get_dec
      refine .inl ⟨a, b, rfl, rfl, by omega, ab, by omega, ?_⟩
      repeat array_get_dec
      refine .inl ⟨by omega, by have := sq a a1 (by omega); have := sq b (by omega) b1; split <;> omega, ?_⟩
      repeat array_get_dec
      refine ⟨⟨by omega, by omega, by omega, by omega⟩, fun R nR => ?_⟩
      refine lc_newA (walk_range (lo := a) (n := (b + 1 - a).toNat)) nR (by omega) (fun _ _ => trivial) (fun i => .tup [.int (a + (i : Nat)), .int ((a + (i : Nat)) * (a + (i : Nat)))]) (fun i x H4 H5 Kp hi s4 eD yi fin => ?_) fun H4 ks s4 eD nw => ?_
      · obtain ⟨rfl, rfl⟩ := yi
        have hb1 : (a + ((i : Nat) : Int)).natAbs < 2 ^ 21 := by omega
        repeat array_get_dec
        exact fun t H6 s6 n6 e6 => fin t H6 s6 n6 e6
      · refine q R H4 _ s4 eD ?_
        rw [List.length_map, nw.1, List.length_range]
        omega
abbrev s_two_rows : Stmt := topS 18
abbrev n_two_rows : List Str := ["m", "n", "shift", "height", "x"]
theorem c_two_rows : FnScope n_two_rows ["m", "n", "shift", "height"] (defScope s_two_rows) := ⟨rfl, rfl, rfl, by decide +kernel, rfl, by decide +kernel, by decide +kernel⟩
def p_two_rows (K : PySem.W.Frag) (IB LE : Addr) : Sp := fun vs H Q E => ∃ x y z h, vs = [x, y, z, h] ∧ (Bad3 K IB x y z H E ∨ (IsS 1 x ∧ IsS 1 y ∧ IsS (-1000000) z ∧ BadN K 1 H h ∧ Rs IB "argument" (.str "height") H E) ∨
  (∃ m n s t : Int, x = .int m ∧ y = .int n ∧ z = .int s ∧ h = .int t ∧ IsS 1 x ∧ IsS 1 y ∧ IsS (-1000000) z ∧ 1 ≤ t ∧ 200 < m + n ∧ Rs LE "limit" (.int 200) H E) ∨
  (∃ m n s t : Int, x = .int m ∧ y = .int n ∧ z = .int s ∧ h = .int t ∧ IsS 1 x ∧ IsS 1 y ∧ IsS (-1000000) z ∧ 1 ≤ t ∧ m + n ≤ 200 ∧ (1000000 < s + n - 1 ∨ 1000000 < t) ∧ Rs LE "limit" (.int 1000000) H E) ∨
  (∃ m n s t : Int, x = .int m ∧ y = .int n ∧ z = .int s ∧ h = .int t ∧ 1 ≤ m ∧ 1 ≤ n ∧ m + n ≤ 200 ∧ -1000000 ≤ s ∧ s + n - 1 ≤ 1000000 ∧ 1 ≤ t ∧ t ≤ 1000000 ∧ ∀ p H', Same H H' → Q (.ref p) H'))
set_option pp.maxSteps 300 in
theorem ok_two_rows  (D : Df K mg "two_rows" s_two_rows ["m", "n", "shift", "height"]) (C_check_number : Cl P w K mg base (L2.CX P w) "check_number" 3 ["value", "least", "name"] (p_check_number K a_InvalidBound)) (C_check_limits : Cl P w K mg base (L2.CX P w) "check_limits" 3 ["many", "farthest"] (p_check_limits a_LimitExceeded)) (C_check_two_rows : Cl P w K mg base (L2.CX P w) "check_two_rows" 5 ["m", "n", "shift"] (p_check_two_rows K a_InvalidBound)) (mmax : mg "max" = none) (mrange : mg "range" = none) (msorted : mg "sorted" = none) : Cl P w K mg base (L2.CX P w) "two_rows" 6 ["m", "n", "shift", "height"] (p_two_rows K a_InvalidBound a_LimitExceeded) := by
  refine D.cl fun f fd F => F.okX c_two_rows (fun vs H Q E h => ?_) (fun cdv A outer s H vs Q E hr h => ?_)
  · obtain ⟨x, y, z, h, rfl, q⟩ := h
    rfl
  · obtain ⟨x, y, z, h, rfl, q⟩ := h
    have nd := c_two_rows.nd
    have hu : _ := hu_of hr
    refine ⟨_, (pss_cons (ps_expr (pe_cl C_check_two_rows (hr.mono (by decide)) (by rfl) (passes_call (takes_of (E := E) rfl rfl rfl rfl) fun _ _ _ _ h => h) (pa_cons (pv 0) (pa_cons (pv 1) (pa_cons (pv 2) pa_nil))))) (pss_cons (ps_expr (pe_cl C_check_number (hr.mono (by decide)) (by rfl) (passes_call (takes_of (E := E) rfl rfl rfl rfl) fun _ _ _ _ h => h) (pa_cons (pv 3) (pa_cons pe_int (pa_cons pe_str pa_nil))))) (pss_cons (ps_expr (pe_cl C_check_limits (hr.mono (by decide)) (by rfl) (passes_call (takes_of (E := E) rfl rfl rfl rfl) fun _ _ _ _ h => h) (pa_cons (pe_op op_add (pv 0) (pv 1)) (pa_cons (pe_callB (call_max3Nu (by rfl)) (by rfl) mmax (by decide +kernel) (pa_cons (pe_op op_sub (pv 0) pe_int) (pa_cons (pe_op op_sub (pe_op op_add (pv 2) (pv 1)) pe_int) (pa_cons (pv 3) pa_nil)))) pa_nil)))) (pss_one (ps_ret (pe_callB cr_sortS (by rfl) msorted (by decide +kernel) (pa_cons (pe_op op_catG (pe_lc (own := [("x", 4)]) (g := (gName 4)) (tt := tYes)  rfl nd (pi_range1 (by rfl) mrange (pa_cons (pv 0) pa_nil)) (blkOk_by (own := [("x", 4)]) (N := n_two_rows) (sc := defScope s_two_rows) (by decide +kernel)) (fun _ _ _ _ _ => by exact (pg_name (i := 4) nd rfl (.inl rfl))) (fun _ _ _ _ _ => by exact pts_nil) (fun _ _ _ _ _ => by exact (pe_tupG (pa_cons (pv 4) (pa_cons pe_int pa_nil))))) (pe_lc (own := [("x", 4)]) (g := (gName 4)) (tt := tYes)  rfl nd (pi_range1 (by rfl) mrange (pa_cons (pv 1) pa_nil)) (blkOk_by (own := [("x", 4)]) (N := n_two_rows) (sc := defScope s_two_rows) (by decide +kernel)) (fun _ _ _ _ _ => by exact (pg_name (i := 4) nd rfl (.inl rfl))) (fun _ _ _ _ _ => by exact pts_nil) (fun _ _ _ _ _ => by exact (pe_tupG (pa_cons (pe_op op_add (pv 2) (pv 4)) (pa_cons (pv 3) pa_nil)))))) pa_nil))))))), ?_⟩
    rcases q with q | ⟨hx, hy, hz, hh, q⟩ | ⟨m, n, s, t, rfl, rfl, rfl, rfl, hx, hy, hz, ht, c, q⟩ | ⟨m, n, s, t, rfl, rfl, rfl, rfl, hx, hy, hz, ht, c, d, q⟩ | ⟨m, n, s, t, rfl, rfl, rfl, rfl, m1, n1, mn, s1, s2, t1, t2, q⟩
    · repeat array_get_dec
      exact .inr q
    · repeat array_get_dec
      refine .inl ⟨hx, hy, hz, ?_⟩
      repeat array_get_dec
      exact .inr ⟨hh, q⟩
    · repeat array_get_dec
      refine .inl ⟨hx, hy, hz, ?_⟩
      repeat array_get_dec
      refine .inl ⟨⟨_, rfl, ht⟩, ?_⟩
      obtain ⟨zm, em, h1, h2, h3, h4⟩ := nuMax3_int (m - 1) (s + n - 1) t
      repeat array_get_dec
      refine ⟨_, _, _, _, rfl, em, ?_⟩
      repeat array_get_dec
      exact .inr (.inl ⟨c, q⟩)
    · repeat array_get_dec
      refine .inl ⟨hx, hy, hz, ?_⟩
      repeat array_get_dec
      refine .inl ⟨⟨_, rfl, ht⟩, ?_⟩
      obtain ⟨zm, em, h1, h2, h3, h4⟩ := nuMax3_int (m - 1) (s + n - 1) t
      repeat array_get_dec
      refine ⟨_, _, _, _, rfl, em, ?_⟩
      repeat array_get_dec
      exact .inr (.inr ⟨c, by omega, q⟩)
    · repeat array_get_dec
      refine .inl ⟨⟨_, rfl, by omega, by omega⟩, ⟨_, rfl, by omega, by omega⟩, ⟨_, rfl, by omega, by omega⟩, ?_⟩
      repeat array_get_dec
      refine .inl ⟨⟨_, rfl, t1⟩, ?_⟩
      obtain ⟨zm, em, h1, h2, h3, h4⟩ := nuMax3_int (m - 1) (s + n - 1) t
      repeat array_get_dec
      refine ⟨_, _, _, _, rfl, em, ?_⟩
      repeat array_get_dec
      refine .inl ⟨mn, by omega, ?_⟩
      repeat array_get_dec
      refine ⟨by omega, by omega, fun R nR => ?_⟩
      refine lc_newA (walk_range (lo := 0) (n := m.toNat)) nR (by omega) (fun _ _ => trivial) (fun i => .tup [.int (0 + (i : Nat)), .int 0]) (fun i v H4 H5 Kp hi s4 eD yi fin => ?_) fun H4 ks s4 eD nw => ?_
      · obtain ⟨rfl, rfl⟩ := yi
        repeat array_get_dec
        exact fun t H6 s6 n6 e6 => fin t H6 s6 n6 e6
      repeat array_get_dec
      refine ⟨by omega, by omega, fun R2 nR2 => ?_⟩
      refine lc_newA (walk_range (lo := 0) (n := n.toNat)) nR2 (by omega) (fun _ _ => trivial) (fun i => .tup [.int (s + (0 + (i : Nat))), .int t]) (fun i v H6 H7 Kp hi s6 eD2 yi fin => ?_) fun H6 ls s6 eD2 nw2 => ?_
      · obtain ⟨rfl, rfl⟩ := yi
        repeat array_get_dec
        exact fun t H6 s6 n6 e6 => fin t H6 s6 n6 e6
      have lk : ks.length = m.toNat := by rw [nw.1, List.length_range]
      have ll : ls.length = n.toNat := by rw [nw2.1, List.length_range]
      refine ⟨R, R2, _, _, rfl, rfl, s6 _ _ eD, eD2, by rw [List.length_map, List.length_map, lk, ll]; exact Nat.le_trans (show _ ≤ 200 by omega) (by decide), fun p3 H7 s7 n7 e7 => ?_⟩
      repeat array_get_dec
      have kat := News.at_ (p := fun i => ((0 : Int) + (i : Nat), 0)) nw
      have lat := News.at_ (p := fun i => (s + (0 + (i : Nat)), t)) nw2
      have sit : ∀ k ∈ ks ++ ls, H7 k = some (.tup [.int (hv H7 k).1, .int (hv H7 k).2]) := fun k mk => by
        rcases List.mem_append.mp mk with mk | mk
        · have e := s7 _ _ (s6 _ _ (kat k mk).2.1)
          rw [hv_of e]
          exact e
        · have e := s7 _ _ (lat k mk).2.1
          rw [hv_of e]
          exact e
      refine ⟨p3, ks ++ ls, hv H7, rfl, SqL.of (by rw [e7, List.map_append]), sit, fun us p4 H8 pm so s8 n8 e8 => ?_⟩
      exact q p4 H8 ((s4.trans (s6.trans s7)).trans s8)
abbrev s_zigzag : Stmt := topS 22
abbrev n_zigzag : List Str := ["m", "n", "height", "i", "j"]
theorem c_zigzag : FnScope n_zigzag ["m", "n", "height"] (defScope s_zigzag) := ⟨rfl, rfl, rfl, by decide +kernel, rfl, by decide +kernel, by decide +kernel⟩
def p_zigzag (K : PySem.W.Frag) (IB LE : Addr) : Sp := fun vs H Q E => ∃ x y h, vs = [x, y, h] ∧ ((BadS K 2 H x ∧ Rs IB "argument" (.str "m") H E) ∨ (IsS 2 x ∧ BadS K 2 H y ∧ Rs IB "argument" (.str "n") H E) ∨ (IsS 2 x ∧ IsS 2 y ∧ BadN K 2 H h ∧ Rs IB "argument" (.str "height") H E) ∨
  (∃ m n t : Int, x = .int m ∧ y = .int n ∧ h = .int t ∧ IsS 2 x ∧ IsS 2 y ∧ 2 ≤ t ∧ t ≤ 2000000 ∧ 200 < m * n ∧ Rs LE "limit" (.int 200) H E) ∨
  (∃ m n t : Int, x = .int m ∧ y = .int n ∧ h = .int t ∧ IsS 2 x ∧ IsS 2 y ∧ 2 ≤ t ∧ t ≤ 2000000 ∧ m * n ≤ 200 ∧ 1000000 < t * (n - 1) ∧ Rs LE "limit" (.int 1000000) H E) ∨
  (∃ (m n : Nat) (t : Int), x = .int (m : Nat) ∧ y = .int (n : Nat) ∧ h = .int t ∧ 2 ≤ m ∧ 2 ≤ n ∧ m ≤ 200 ∧ n ≤ 200 ∧ m * n ≤ 200 ∧ 2 ≤ t ∧ t ≤ 1000000 ∧ t * ((n : Int) - 1) ≤ 1000000 ∧ Prs (m * n) H Q))
set_option pp.maxSteps 300 in
theorem ok_zigzag  (D : Df K mg "zigzag" s_zigzag ["m", "n", "height"]) (C_check_number : Cl P w K mg base (L2.CX P w) "check_number" 3 ["value", "least", "name"] (p_check_number K a_InvalidBound)) (C_check_size : Cl P w K mg base (L2.CX P w) "check_size" 4 ["value", "least", "name"] (p_check_size K a_InvalidBound)) (C_check_limits : Cl P w K mg base (L2.CX P w) "check_limits" 3 ["many", "farthest"] (p_check_limits a_LimitExceeded)) (mmax : mg "max" = none) (mrange : mg "range" = none) (msorted : mg "sorted" = none) : Cl P w K mg base (L2.CX P w) "zigzag" 5 ["m", "n", "height"] (p_zigzag K a_InvalidBound a_LimitExceeded) := by
  refine D.cl fun f fd F => F.okX c_zigzag (fun vs H Q E h => ?_) (fun cdv A outer s H vs Q E hr h => ?_)
  · obtain ⟨x, y, h, rfl, q⟩ := h
    rfl
  · obtain ⟨x, y, h, rfl, q⟩ := h
    have nd := c_zigzag.nd
    have hu : _ := hu_of hr
    refine ⟨_, (pss_cons (ps_expr (pe_cl C_check_size (hr.mono (by decide)) (by rfl) (passes_call (takes_of (E := E) rfl rfl rfl rfl) fun _ _ _ _ h => h) (pa_cons (pv 0) (pa_cons pe_int (pa_cons pe_str pa_nil))))) (pss_cons (ps_expr (pe_cl C_check_size (hr.mono (by decide)) (by rfl) (passes_call (takes_of (E := E) rfl rfl rfl rfl) fun _ _ _ _ h => h) (pa_cons (pv 1) (pa_cons pe_int (pa_cons pe_str pa_nil))))) (pss_cons (ps_expr (pe_cl C_check_number (hr.mono (by decide)) (by rfl) (passes_call (takes_of (E := E) rfl rfl rfl rfl) fun _ _ _ _ h => h) (pa_cons (pv 2) (pa_cons pe_int (pa_cons pe_str pa_nil))))) (pss_cons (ps_expr (pe_cl C_check_limits (hr.mono (by decide)) (by rfl) (passes_call (takes_of (E := E) rfl rfl rfl rfl) fun _ _ _ _ h => h) (pa_cons (pe_op op_mulW (pv 0) (pv 1)) (pa_cons (pe_callB (call_max2 (by rfl)) (by rfl) mmax (by decide +kernel) (pa_cons (pe_op op_sub (pe_op op_mulW pe_int (pv 0)) pe_int) (pa_cons (pe_op op_mulW (pv 2) (pe_op op_sub (pv 1) pe_int)) pa_nil))) pa_nil)))) (pss_one (ps_ret (pe_callB cr_sortS (by rfl) msorted (by decide +kernel) (pa_cons (pe_lc2 (own := [("i", 3), ("j", 4)]) (vs1 := [4]) (g := gName 3) (tt := tYes) (wi1 := iRng1 (tCons (tVar 1) tNil)) (g1 := gName 4) (tt1 := tYes) (te := tTupG (tCons (tOp (rI0 fun i j => V.int (i + j)) (tOp (rI CMulW fun i j => V.int (i * j)) (tC (V.int 2)) (tVar 3)) (tOp (rI0 fun i j => V.int (Builtin.bitAnd i j)) (tVar 4) (tC (V.int 1)))) (tCons (tOp (rI CMulW fun i j => V.int (i * j)) (tVar 2) (tVar 4)) tNil))) rfl nd (pi_range1 (by rfl) mrange (pa_cons (pv 0) pa_nil)) (blkOk_by (own := [("i", 3), ("j", 4)]) (N := n_zigzag) (sc := defScope s_zigzag) (by decide +kernel)) (by decide) (fun _ _ _ _ _ => by exact (pg_name (i := 3) nd rfl (.inl rfl))) (fun _ _ _ _ _ => by exact pts_nil) (fun _ _ _ _ _ => by exact (pi_range1 (by rfl) mrange (pa_cons (pv 1) pa_nil))) (fun _ _ _ _ _ => by exact (pg_name (i := 4) nd rfl (.inl rfl))) (fun _ _ _ _ _ => by exact pts_nil) (fun _ _ _ _ _ => by exact (pe_tupG (pa_cons (pe_op op_add (pe_op op_mulW pe_int (pv 3)) (pe_op op_and (pv 4) pe_int)) (pa_cons (pe_op op_mulW (pv 2) (pv 4)) pa_nil))))) pa_nil)))))))), ?_⟩
    rcases q with ⟨hx, q⟩ | ⟨hx, hy, q⟩ | ⟨hx, hy, hh, q⟩ | ⟨m, n, t, rfl, rfl, rfl, hx, hy, t1, t2, c, q⟩ | ⟨m, n, t, rfl, rfl, rfl, hx, hy, t1, t2, c, d, q⟩ | ⟨m, n, t, rfl, rfl, rfl, m1, n1, m2, n2, c, t1, t2, d, q⟩
    · repeat array_get_dec
      exact .inr ⟨hx, q⟩
    · repeat array_get_dec
      refine .inl ⟨hx, ?_⟩
      repeat array_get_dec
      exact .inr ⟨hy, q⟩
    · repeat array_get_dec
      refine .inl ⟨hx, ?_⟩
      repeat array_get_dec
      refine .inl ⟨hy, ?_⟩
      repeat array_get_dec
      exact .inr ⟨hh, q⟩
    · obtain ⟨_, e1, x1, x2⟩ := id hx
      cases e1
      obtain ⟨_, e2, y1, y2⟩ := id hy
      cases e2
      have ht : t.natAbs < 2 ^ 21 := by omega
      repeat array_get_dec
      refine .inl ⟨hx, ?_⟩
      repeat array_get_dec
      refine .inl ⟨hy, ?_⟩
      repeat array_get_dec
      refine .inl ⟨⟨_, rfl, t1⟩, ?_⟩
      repeat array_get_dec
      exact .inr (.inl ⟨c, q⟩)
    · obtain ⟨_, e1, x1, x2⟩ := id hx
      cases e1
      obtain ⟨_, e2, y1, y2⟩ := id hy
      cases e2
      have ht : t.natAbs < 2 ^ 21 := by omega
      repeat array_get_dec
      refine .inl ⟨hx, ?_⟩
      repeat array_get_dec
      refine .inl ⟨hy, ?_⟩
      repeat array_get_dec
      refine .inl ⟨⟨_, rfl, t1⟩, ?_⟩
      repeat array_get_dec
      exact .inr (.inr ⟨c, by split <;> omega, q⟩)
    · have ht : t.natAbs < 2 ^ 21 := by omega
      repeat array_get_dec
      refine .inl ⟨⟨_, rfl, by omega, by omega⟩, ?_⟩
      repeat array_get_dec
      refine .inl ⟨⟨_, rfl, by omega, by omega⟩, ?_⟩
      repeat array_get_dec
      refine .inl ⟨⟨_, rfl, t1⟩, ?_⟩
      repeat array_get_dec
      refine .inl ⟨by exact_mod_cast c, by split <;> omega, ?_⟩
      repeat array_get_dec
      refine ⟨by omega, by omega, fun R nR => ?_⟩
      refine lc2_out (walk_range (lo := 0) (n := ((m : Nat) : Int).toNat)) (fun i H' => Same H H' ∧ ∃ ks, Prd H' R ks ∧ ks.length = i * n) ⟨Same.upd nR, [], ⟨upd_same, fun _ h => nomatch h⟩, by simp⟩ (fun _ _ _ _ => trivial) (fun i x H4 H5 hi z y => ?_) fun H' z => ?_
      · obtain ⟨rfl, rfl⟩ := y
        obtain ⟨s4, ks, pk, lk⟩ := z
        have hi : i < m := by omega
        have lim : i * n + n ≤ 200 := by
          have := Nat.mul_le_mul_right n (show i + 1 ≤ m by omega)
          rw [Nat.succ_mul] at this
          omega
        repeat array_get_dec
        refine ⟨by omega, by omega, ?_⟩
        refine lc2_in (walk_range (lo := 0) (n := ((n : Nat) : Int).toNat)) (fun j H' => Same H H' ∧ ∃ ks, Prd H' R ks ∧ ks.length = i * n + j) ⟨s4, ks, pk, by omega⟩ (fun _ _ _ _ => trivial) (fun j x H6 H7 hj z y => ?_) fun H' z => ?_
        · obtain ⟨rfl, rfl⟩ := y
          obtain ⟨s6, ks, pk, lk⟩ := z
          have hj : j < n := by omega
          repeat array_get_dec
          refine fun t9 H8 s8 n8 e8 => ?_
          exact ⟨_, s8 _ _ pk.1, by rw [List.length_map, lk]; exact Nat.lt_of_lt_of_le (show i * n + j < 201 by omega) (by decide), same_upd_of (s6.trans s8) nR, ks ++ [t9], pk.snoc s8 n8 e8, by rw [List.length_append, lk]; simp; omega⟩
        · obtain ⟨s6, ks, pk, lk⟩ := z
          refine ⟨s6, ks, pk, ?_⟩
          rw [lk, Nat.succ_mul]
          simp
      · obtain ⟨s4, ks, pk, lk⟩ := z
        have hs : (ks.map V.ref).length = m * n := by rw [List.length_map, lk]; simp
        repeat array_get_dec
        refine ⟨R, ks, hv H', rfl, SqL.of pk.1, pk.sits, fun us p4 H8 pm so s8 n8 e8 => ?_⟩
        refine q p4 H8 _ (s4.trans s8) e8 ?_
        rw [List.length_map, pm.length_eq, lk]
        simp
end
/-! ### a purse of draws -/
section
variable {P : Program} {w : World} {K : PySem.W.Frag} {mg : Str → Option Value} {base : Heap}
/-- a source whose count of draws is at most N -/
def SrcB (N : Nat) (H : Hp) (s : Addr) : Prop := ∃ a b c : Int, H s = some (.lst [.int a, .int b, .int c]) ∧ b.natAbs < 2 ^ 31 ∧ c.natAbs ≤ N
theorem SrcB.src {N : Nat} {H : Hp} {s : Addr} (h : SrcB N H s) : Src H s := by
  obtain ⟨a, b, c, e, _⟩ := h
  exact ⟨a, b, c, e⟩
theorem SrcB.up {N M : Nat} {H : Hp} {s : Addr} (h : SrcB N H s) (le : N ≤ M) : SrcB M H s := by
  obtain ⟨a, b, c, e, k, l⟩ := h
  exact ⟨a, b, c, e, k, Nat.le_trans l le⟩
theorem SrcB.same {N : Nat} {H H' : Hp} {s : Addr} (h : SrcB N H s) (k : Same H H') : SrcB N H' s := by
  obtain ⟨a, b, c, e, r⟩ := h
  exact ⟨a, b, c, k _ _ e, r⟩
abbrev s__law_purse : Stmt := topS 25
abbrev n__law_purse : List Str := ["_law_figure"]
theorem c__law_purse : FnScope n__law_purse ["_law_figure"] (defScope s__law_purse) := ⟨rfl, rfl, rfl, by decide +kernel, rfl, by decide +kernel, by decide +kernel⟩
def p__law_purse : Sp := fun vs H Q _ => ∃ n : Int, vs = [.int n] ∧ ∀ p H', Same H H' → H p = none → SrcB 3 H' p → Q (.ref p) H'
set_option pp.maxSteps 300 in
theorem ok__law_purse  (D : Df K mg "_law_purse" s__law_purse ["_law_figure"]) (mabs : mg "abs" = none) (mint : mg "int" = none) : Cl P w K mg base CX0 "_law_purse" 1 ["_law_figure"] (p__law_purse) := by
  refine D.cl fun f fd F => F.ok c__law_purse (fun vs H Q E h => ?_) (fun cdv A outer s H vs Q E hr h => ?_)
  · obtain ⟨n, rfl, q⟩ := h
    rfl
  · obtain ⟨n, rfl, q⟩ := h
    have nd := c__law_purse.nd
    have hu : _ := hu_of hr
    refine ⟨_, (pss_one (ps_ret (pe_lstG (pa_cons (pe_op op_mul (pe_callB call_abs (by rfl) mabs (by decide +kernel) (pa_cons (pv 0) pa_nil)) (pe_callTy call_int1 (by rfl) mint (by decide +kernel) (pa_cons (pe_cmpR op_ge (pe_callB call_abs (by rfl) mabs (by decide +kernel) (pa_cons (pv 0) pa_nil)) (pe_op op_pow pe_int pe_int) (nomark _)) pa_nil))) (pa_cons (pe_op op_mod (pe_callTy call_int1 (by rfl) mint (by decide +kernel) (pa_cons (pv 0) pa_nil)) pe_int) (pa_cons pe_int pa_nil)))))), ?_⟩
    refine ⟨_, rfl, _, rfl, _, rfl, _, rfl, _, _, rfl, rfl, ⟨by decide, by decide, by decide⟩, _, _, rfl, rfl, .inr ⟨_, rfl, _, _, rfl, rfl, .inr (b2i_small _), ?_⟩⟩
    refine ⟨_, rfl, .inl ⟨_, rfl, _, _, rfl, rfl, (by decide : (0 : Int) < 2147483563), by show 3 ≤ sizeLine; decide, fun p H' sm np e => q p H' sm np ⟨_, _, _, e, ?_, by decide⟩⟩⟩
    have h1 : 0 ≤ n % 2147483563 := Int.emod_nonneg _ (by decide)
    have h2 : n % 2147483563 < 2147483563 := Int.emod_lt_of_pos _ (by decide)
    omega
abbrev s__law_coin : Stmt := topS 26
abbrev n__law_coin : List Str := ["_law_purse_here", "_law_many", "_law_got_so", "_law_hashed"]
theorem c__law_coin : FnScope n__law_coin ["_law_purse_here", "_law_many"] (defScope s__law_coin) := ⟨rfl, rfl, rfl, by decide +kernel, rfl, by decide +kernel, by decide +kernel⟩
def p__law_coin : Sp := fun vs H Q _ => ∃ (s : Addr) (m : Int) (N : Nat), vs = [.ref s, .int m] ∧ SrcB N H s ∧ N < 2 ^ 40 ∧ 0 < m ∧ m.natAbs < 2 ^ 8000 ∧ ∀ (r : Int) H', 0 ≤ r → r < m → Stp s H H' → SrcB (N + 1) H' s → Q (.int r) H'
set_option pp.maxSteps 300 in
theorem ok__law_coin  (D : Df K mg "_law_coin" s__law_coin ["_law_purse_here", "_law_many"]) (mint : mg "int" = none) : Cl P w K mg base CX0 "_law_coin" 1 ["_law_purse_here", "_law_many"] (p__law_coin) := by
  refine D.cl fun f fd F => F.ok c__law_coin (fun vs H Q E h => ?_) (fun cdv A outer s H vs Q E hr h => ?_)
  · obtain ⟨s, m, N, rfl, ⟨a, b, c, hs, hb, hc⟩, hN, hm, hw, q⟩ := h
    rfl
  · obtain ⟨s, m, N, rfl, ⟨a, b, c, hs, hb, hc⟩, hN, hm, hw, q⟩ := h
    have nd := c__law_coin.nd
    have hu : _ := hu_of hr
    refine ⟨_, (pss_cons (ps_if (pt_cmpR op_gt (pe_ix ix_list (pv 0) pe_int (fun _ _ => rfl)) pe_int (nomark _)) (pss_cons (ps_set (i := 2) nd rfl (.inl rfl) (pe_op op_mod (pe_callTy call_int1 (by rfl) mint (by decide +kernel) (pa_cons (pe_ix ix_list (pv 0) pe_int (fun _ _ => rfl)) pa_nil)) (pv 1))) (pss_cons (ps_asg (pe_op op_fdivE (pe_ix ix_list (pv 0) pe_int (fun _ _ => rfl)) (pv 1)) (pg_sub (pv 0) pe_int set_list)) (pss_one (ps_ret (pv 2))))) pss_nil) (pss_cons (ps_asg (pe_op op_add (pe_ix ix_list (pv 0) pe_int (fun _ _ => rfl)) pe_int) (pg_sub (pv 0) pe_int set_list)) (pss_cons (ps_set (i := 3) nd rfl (.inl rfl) (pe_op op_mod (pe_callTy call_int1 (by rfl) mint (by decide +kernel) (pa_cons (pe_op op_pow (pe_op op_add (pe_op op_add (pe_ix ix_list (pv 0) pe_int (fun _ _ => rfl)) (pe_op op_mul pe_int (pe_ix ix_list (pv 0) pe_int (fun _ _ => rfl)))) pe_int) pe_int) pa_nil)) pe_int)) (pss_cons (ps_set (i := 3) nd rfl (.inl rfl) (pe_op op_mod (pe_callTy call_int1 (by rfl) mint (by decide +kernel) (pa_cons (pe_op op_mul (pe_op op_add (pv 3) (pe_op op_mul pe_int (pe_ix ix_list (pv 0) pe_int (fun _ _ => rfl)))) (pe_op op_add (pe_op op_fdiv (pv 3) pe_int) pe_int)) pa_nil)) pe_int)) (pss_one (ps_ret (pe_op op_mod (pe_callTy call_int1 (by rfl) mint (by decide +kernel) (pa_cons (pe_op op_fdiv (pe_op op_mod (pe_callTy call_int1 (by rfl) mint (by decide +kernel) (pa_cons (pe_op op_mul (pv 3) (pe_op op_add (pe_op op_fdiv (pv 3) pe_int) pe_int)) pa_nil)) pe_int) pe_int) pa_nil)) (pv 1)))))))), ?_⟩
    have at0 : ∀ x y z : V, atI [x, y, z] 0 = some x := fun _ _ _ => rfl
    refine ⟨_, rfl, s, _, _, _, rfl, rfl, SqL.of hs, at0 _ _ _, _, _, rfl, rfl, _, rfl, ite2 (fun g => ?_) fun g => ?_⟩
    · refine ⟨_, rfl, s, _, _, _, rfl, rfl, SqL.of hs, at0 _ _ _, .inl ⟨_, rfl, _, rfl, _, _, rfl, rfl, hm, ?_⟩⟩
      refine ⟨_, rfl, s, _, _, _, rfl, rfl, SqL.of hs, at0 _ _ _, _, rfl, _, _, rfl, rfl, ⟨by omega, hw⟩, ?_⟩
      refine ⟨_, rfl, s, _, 0, 0, rfl, rfl, hs, rfl, ?_⟩
      exact ⟨_, rfl, q _ _ (Int.emod_nonneg _ (Int.ne_of_gt hm)) (Int.emod_lt_of_pos _ hm) ((Stp.refl ⟨a, b, c, hs⟩).turn _ _ _) ⟨_, b, c, upd_same, hb, Nat.le_succ_of_le hc⟩⟩
    · refine ⟨_, rfl, s, _, _, _, rfl, rfl, SqL.of hs, rfl, _, _, rfl, rfl, ?_⟩
      refine ⟨_, rfl, s, _, 2, 2, rfl, rfl, hs, rfl, ?_⟩
      have h2 : (upd H s (.lst [.int a, .int b, .int (c + 1)])) s = some (.lst [.int a, .int b, .int (c + 1)]) := upd_same
      have p1 : (0 : Int) < 2147483587 := by decide
      have p2 : (0 : Int) < 2147483549 := by decide
      have p3 : (0 : Int) < 2147483543 := by decide
      have small : (b + 70001 * (c + 1) + 7).natAbs < 2 ^ 64 := by omega
      refine ⟨_, rfl, s, _, _, _, rfl, rfl, SqL.of h2, rfl, _, rfl, s, _, _, _, rfl, rfl, SqL.of h2, rfl, _, _, rfl, rfl, .inl ⟨by decide, by decide⟩, _, _, rfl, rfl, _, _, rfl, rfl, _, _, rfl, rfl, ⟨by decide, by decide, small⟩, .inl ⟨_, rfl, _, _, rfl, rfl, p1, ?_⟩⟩
      have b1 : 0 ≤ (b + 70001 * (c + 1) + 7) ^ (3 : Int).toNat % 2147483587 := Int.emod_nonneg _ (Int.ne_of_gt p1)
      have b2 : (b + 70001 * (c + 1) + 7) ^ (3 : Int).toNat % 2147483587 < 2147483587 := Int.emod_lt_of_pos _ p1
      generalize (b + 70001 * (c + 1) + 7) ^ (3 : Int).toNat % 2147483587 = n1 at b1 b2
      refine ⟨_, rfl, _, rfl, s, _, _, _, rfl, rfl, SqL.of h2, rfl, _, _, rfl, rfl, .inl ⟨by decide, by decide⟩, _, _, rfl, rfl, _, rfl, _, _, rfl, rfl, ⟨by decide, by decide⟩, _, _, rfl, rfl, _, _, rfl, rfl, .inr ⟨by omega, by omega⟩, .inl ⟨_, rfl, _, _, rfl, rfl, p2, ?_⟩⟩
      have c1 : 0 ≤ (n1 + 11 * (c + 1)) * (n1 / 1009 + 48611) % 2147483549 := Int.emod_nonneg _ (Int.ne_of_gt p2)
      have c2 : (n1 + 11 * (c + 1)) * (n1 / 1009 + 48611) % 2147483549 < 2147483549 := Int.emod_lt_of_pos _ p2
      generalize (n1 + 11 * (c + 1)) * (n1 / 1009 + 48611) % 2147483549 = n2 at c1 c2
      refine ⟨_, rfl, _, rfl, _, _, rfl, rfl, ⟨by decide, by decide⟩, _, _, rfl, rfl, _, _, rfl, rfl, .inl ⟨by omega, by omega⟩, .inl ⟨_, rfl, _, _, rfl, rfl, p3, ?_⟩⟩
      refine ⟨_, _, rfl, rfl, ⟨by decide, by decide⟩, .inl ⟨_, rfl, _, rfl, _, _, rfl, rfl, hm, ?_⟩⟩
      exact q _ _ (Int.emod_nonneg _ (Int.ne_of_gt hm)) (Int.emod_lt_of_pos _ hm) ((Stp.refl ⟨a, b, c, hs⟩).turn _ _ _) ⟨a, b, c + 1, upd_same, hb, by omega⟩
abbrev s__law_pick : Stmt := topS 27
abbrev n__law_pick : List Str := ["_law_purse_here", "_law_some"]
theorem c__law_pick : FnScope n__law_pick ["_law_purse_here", "_law_some"] (defScope s__law_pick) := ⟨rfl, rfl, rfl, by decide +kernel, rfl, by decide +kernel, by decide +kernel⟩
/-- one of some, the source at s -/
def p__law_pick : Sp := fun vs H Q _ => ∃ (s l : Addr) (xs : List V) (N : Nat), vs = [.ref s, .ref l] ∧ SrcB N H s ∧ N < 2 ^ 40 ∧ H l = some (.lst xs) ∧ l ≠ s ∧ 0 < xs.length ∧ xs.length ≤ 1000 ∧ ∀ x H', x ∈ xs → Stp s H H' → SrcB (N + 1) H' s → Q x H'
set_option pp.maxSteps 300 in
theorem ok__law_pick  (D : Df K mg "_law_pick" s__law_pick ["_law_purse_here", "_law_some"]) (C__law_coin : Cl P w K mg base CX0 "_law_coin" 1 ["_law_purse_here", "_law_many"] (p__law_coin)) (mlen : mg "len" = none) : Cl P w K mg base CX0 "_law_pick" 2 ["_law_purse_here", "_law_some"] (p__law_pick) := by
  refine D.cl fun f fd F => F.ok c__law_pick (fun vs H Q E h => ?_) (fun cdv A outer s H vs Q E hr h => ?_)
  · obtain ⟨s, l, xs, N, rfl, hs, hN, hl, hne, h0, h1, q⟩ := h
    rfl
  · obtain ⟨s, l, xs, N, rfl, hs, hN, hl, hne, h0, h1, q⟩ := h
    have nd := c__law_pick.nd
    have hu : _ := hu_of hr
    refine ⟨_, (pss_one (ps_ret (pe_ix ix_list (pv 1) (pe_cl C__law_coin (hr.mono (by decide)) (by rfl) pass0 (pa_cons (pv 0) (pa_cons (pe_callB call_len_seq (by rfl) mlen (by decide +kernel) (pa_cons (pv 1) pa_nil)) pa_nil))) (fun _ _ => rfl)))), ?_⟩
    refine ⟨_, rfl, _, rfl, _, rfl, l, xs, rfl, .inl (SqL.of hl), ?_⟩
    have small : ((xs.length : Nat) : Int).natAbs < 2 ^ 8000 := by
      rw [Int.natAbs_natCast]
      exact Nat.lt_of_le_of_lt h1 (Nat.lt_of_lt_of_le (by decide : 1000 < 2 ^ 10) (Nat.pow_le_pow_right (by decide) (by decide)))
    refine ⟨s, xs.length, N, rfl, hs, hN, by omega, small, fun r H' r0 r1 st sb => ?_⟩
    have hl' := st.keep l _ hne hl
    have hr : r.toNat < xs.length := by omega
    have at1 : atI xs r = some xs[r.toNat] := by
      have z := atI_nat (List.getElem?_eq_getElem hr)
      rwa [Int.toNat_of_nonneg r0] at z
    exact ⟨l, xs, r, _, rfl, rfl, SqL.of hl', at1, q _ _ (List.getElem_mem hr) st sb⟩
/-- from H0 all stands but the source, of which at most N were drawn -/
structure SB (s : Addr) (N : Nat) (H0 H : Hp) : Prop where
  st : Stp s H0 H
  sb : SrcB N H s
theorem SB.refl {s : Addr} {N : Nat} {H : Hp} (h : SrcB N H s) : SB s N H H := ⟨Stp.refl h.src, h⟩
theorem SB.same {s : Addr} {N : Nat} {H0 H H' : Hp} (h : SB s N H0 H) (k : Same H H') : SB s N H0 H' := ⟨h.st.same k, h.sb.same k⟩
theorem SB.step {s : Addr} {N M : Nat} {H0 H H' : Hp} (h : SB s N H0 H) (a : Stp s H H') (b : SrcB M H' s) : SB s M H0 H' := ⟨h.st.trans a, b⟩
theorem SrcB.ne {N : Nat} {H : Hp} {s p : Addr} (h : SrcB N H s) (e : H p = none) : p ≠ s := h.src.nen e
theorem i_small {m : Int} (h : m.natAbs < 2 ^ 64) : m.natAbs < 2 ^ 8000 := Nat.lt_of_lt_of_le h (Nat.pow_le_pow_right (by decide) (by decide))
end
/-! ### k72: what a call says -/
open LamX
section
variable {P : Program} {w : World} {K : PySem.W.Frag} {mg : Str → Option Value} {base : Heap}
variable {a_InvalidBound a_LimitExceeded : Addr}
abbrev s__law_said : Stmt := topS 28
abbrev n__law_said : List Str := ["_law_ask", "e"]
theorem c__law_said : FnScope n__law_said ["_law_ask"] (defScope s__law_said) := ⟨rfl, rfl, rfl, by decide +kernel, rfl, by decide +kernel, by decide +kernel⟩
/-- a kept lambda, what it says -/
def p__law_said (P : Program) (w : World) (K : PySem.W.Frag) (mg : Str → Option Value) (base : Heap) (IB LE : Addr) (k : Nat) : Sp := fun vs H Q _ => ∃ f due, vs = [.ref f] ∧ Sayer P w K mg base IB LE k f H due ∧ ∀ H', Same H H' → Q due H'
/-- what is asked of the class at C: its errors keep the field f, and are CellErrors -/
structure Ask (K : PySem.W.Frag) (C CE : Addr) (f : Str) : Prop where
  xf : XfC K C
  no : PySem.W.findIn K (.ref C) f = some none
  ex : ExcC K C
  ce : PySem.W.kitOne K (.ref C) (.ref CE) = some true
theorem ok__law_said {f IB LE CE : Addr} {fd : FuncData} {k : Nat} (F : Fun K "_law_said" "_law_said" s__law_said f fd) (mIB : mg "InvalidBound" = some (.ref IB)) (mLE : mg "LimitExceeded" = some (.ref LE)) (mCE : mg "CellError" = some (.ref CE)) (misinstance : mg "isinstance" = none)
    (A1 : Ask K IB CE "argument") (A2 : Ask K LE CE "limit") (e1 : PySem.W.exmOne K (.ref IB) (.ref IB) = some true) (e2 : PySem.W.exmOne K (.ref LE) (.ref IB) = some false) (e3 : PySem.W.exmOne K (.ref LE) (.ref LE) = some true) :
    FnOk P w K mg base CX0 (k + 1) f fd ["_law_ask"] (p__law_said P w K mg base IB LE k) := by
  refine F.ok c__law_said (fun vs H Q E h => ?_) (fun cdv A outer s H vs Q E hr h => ?_)
  · obtain ⟨g, due, rfl, _⟩ := h
    rfl
  · obtain ⟨g, due, rfl, rs, q⟩ := h
    have nd := c__law_said.nd
    let XX := (cxOf CX0 P w K mg base n__law_said "_law_said" (defScope s__law_said) f cdv A outer s H E).nox
    refine ⟨_, pss_cons (ps_try_meets (X := XX)
      (tb := fun W D σ H1 => ∃ (E : XK) (f : Addr) (fd : FuncData) (tl : XK → Hp → VK → Prop), (∀ cls d H', E cls d H' → W cls d σ H') ∧ σ[0]? = some (some (.ref f)) ∧ H1 f = some (LamO f { cls := .type "function", data := .func fd }) ∧ KCall P w K mg base k f tl ∧ tl E H1 (fun v H' => D.nx σ H'))
      (l := [(.ref IB, some 1, fun a cls d => tRet (tIf (tB (tCB (rIsX K IB a cls d) (tCons (tVar 1) (tCons (tC (.ref CE)) tNil)))) (tXf a cls d IB "argument" (tVar 1)) (tC (.str "other")))), (.ref LE, some 1, fun a cls d => tRet (tIf (tB (tCB (rIsX K LE a cls d) (tCons (tVar 1) (tCons (tC (.ref CE)) tNil)))) (tXf a cls d LE "limit" (tVar 1)) (tC (.str "other"))))])
      rfl rfl nd (fun W pn xe tk => ?_) (.named ⟨by rfl, by decide, .inl mIB⟩ rfl rfl (fun a oe cls d pn hz hf => ?_) (.named ⟨by rfl, by decide, .inl mLE⟩ rfl rfl (fun a oe cls d pn hz hf => ?_) .nil))) (pss_one (ps_ret pe_non)), ?_⟩
    · exact pss_one (ps_expr (pe_callT tk hr rfl (.inl rfl)))
    · exact pss_one (ps_ret (pe_ifExp (pt_val (pe_callB (call_isX (X := XX) A1.ex hz hf) (by rfl) misinstance (by decide +kernel) (pa_cons (pv 1) (pa_cons (pe_glob (v := .ref CE) (by rfl) mCE rfl) pa_nil)))) (pe_xf (X := XX) A1.xf A1.no hz hf (pv 1)) pe_str))
    · exact pss_one (ps_ret (pe_ifExp (pt_val (pe_callB (call_isX (X := XX) A2.ex hz hf) (by rfl) misinstance (by decide +kernel) (pa_cons (pv 1) (pa_cons (pe_glob (v := .ref CE) (by rfl) mCE rfl) pa_nil)))) (pe_xf (X := XX) A2.xf A2.no hz hf (pv 1)) pe_str))
    · obtain ⟨gd, tl, hg, kc, h⟩ := rs
      have hce : ∀ u, RelV (V.ref CE) u → u = .ref CE := fun u r => r
      refine ⟨fun cls d H' => Same H H' ∧ ErrW IB LE due cls d H', g, gd, tl, fun cls d H' z => ?_, rfl, hg, kc, ?_⟩
      · obtain ⟨sm, z⟩ := z
        rcases z with ⟨dd, s, rfl, rfl, rfl, hd⟩ | ⟨dd, n, rfl, rfl, rfl, hd⟩
        · refine ⟨true, e1, fun _ a na => ?_, fun z => nomatch z⟩
          refine ⟨_, rfl, dd, _, _, _, _, rfl, rfl, hd, rfl, hce, A1.ce, _, rfl, ?_⟩
          refine w_if (fun _ => ?_) (fun z => by cases z)
          exact ⟨_, rfl, rfl, rfl, dd, _, _, rfl, hd, rfl, q _ sm⟩
        · refine ⟨false, e2, fun z => (nomatch z), fun _ => ⟨true, e3, fun _ a na => ?_, fun z => nomatch z⟩⟩
          refine ⟨_, rfl, dd, _, _, _, _, rfl, rfl, hd, rfl, hce, A2.ce, _, rfl, ?_⟩
          refine w_if (fun _ => ?_) (fun z => by cases z)
          exact ⟨_, rfl, rfl, rfl, dd, _, _, rfl, hd, rfl, q _ sm⟩
      · refine h H (Same.refl H) _ _ (fun cls d H' s1 z => ⟨s1, z⟩) fun z v H' s1 => ?_
        subst z
        exact q _ s1
end
/-! ### k72: words -/
open LamX
section
variable {P : Program} {w : World} {K : PySem.W.Frag} {mg : Str → Option Value} {base : Heap}
variable {a_InvalidBound a_LimitExceeded : Addr}
abbrev s__law_words_right : Stmt := topS 31
abbrev n__law_words_right : List Str := ["_law_odd", "_law_ask", "_law_a", "_law_b", "_law_word", "_law_c", "_law_far_so"]
theorem c__law_words_right : FnScope n__law_words_right ["_law_odd"] (defScope s__law_words_right) := ⟨rfl, rfl, rfl, by decide +kernel, rfl, by decide +kernel, by decide +kernel⟩
/-- an odd value: no size, whatever is the least one -/
def OddW (K : PySem.W.Frag) (H : Hp) (x : V) : Prop := NoNum K H x ∨ ∃ n : Int, x = .int n ∧ (n < -1000000 ∨ 1000000 < n)
theorem NoNum.ext {H H' : Hp} {x : V} (e : ExtN H H') (h : NoNum K H x) : NoNum K H' x := h.elim (fun ⟨t, a, b⟩ => .inl ⟨t, TyX.ext e a, b⟩) .inr
theorem OddW.ext {H H' : Hp} {x : V} (e : ExtN H H') (h : OddW K H x) : OddW K H' x := h.elim (fun h => .inl (h.ext e)) .inr
theorem OddW.bad {m : Int} {H : Hp} {x : V} (h : OddW K H x) (hm : -1000000 ≤ m) : BadS K m H x := h.elim .inl fun ⟨n, e, c⟩ => .inr ⟨n, e, by omega⟩
/-- the def at f refuses what S says by a word -/
def Rf2 (P : Program) (w : World) (K : PySem.W.Frag) (mg : Str → Option Value) (base : Heap) (IB f : Addr) (S : V → V → Hp → Str → Prop) : Prop := ∃ (fd : FuncData) (ps : List Str) (sp : Sp), FnOk P w K mg base (L2.CX P w) 6 f fd ps sp ∧ PySem.W.keepIn K (.ref f) = true ∧ Binds K fd ps [] ∧
  ∀ a b H z Q E, S a b H z → Rs IB "argument" (.str z) H E → sp [a, b] H Q E
def SGr (K : PySem.W.Frag) (a b : V) (H : Hp) (z : Str) : Prop := (BadS K 1 H a ∧ z = "m") ∨ (IsS 1 a ∧ BadS K 1 H b ∧ z = "n")
def SPa (K : PySem.W.Frag) (a b : V) (H : Hp) (z : Str) : Prop := (BadS K (-1000000) H a ∧ z = "low") ∨ (IsS (-1000000) a ∧ BadS K (-1000000) H b ∧ z = "high") ∨ (∃ m n : Int, a = .int m ∧ b = .int n ∧ IsS (-1000000) a ∧ IsS (-1000000) b ∧ n < m ∧ z = "high")
theorem BadS.ext {m : Int} {H H' : Hp} {x : V} (s : ExtN H H') (h : BadS K m H x) : BadS K m H' x := h.elim (fun h => .inl (h.ext s)) .inr
theorem BadN.ext {m : Int} {H H' : Hp} {x : V} (s : ExtN H H') (h : BadN K m H x) : BadN K m H' x := h.elim (fun h => .inl (h.ext s)) .inr
theorem SGr.ext {a b : V} {H H' : Hp} {z : Str} (s : ExtN H H') (h : SGr K a b H z) : SGr K a b H' z := by
  rcases h with ⟨h, e⟩ | ⟨h, k, e⟩
  · exact .inl ⟨h.ext s, e⟩
  · exact .inr ⟨h, k.ext s, e⟩
theorem SPa.ext {a b : V} {H H' : Hp} {z : Str} (s : ExtN H H') (h : SPa K a b H z) : SPa K a b H' z := by
  rcases h with ⟨h, e⟩ | ⟨h, k, e⟩ | h
  · exact .inl ⟨h.ext s, e⟩
  · exact .inr (.inl ⟨h, k.ext s, e⟩)
  · exact .inr (.inr h)
def SZi (K : PySem.W.Frag) (a b : V) (H : Hp) (z : Str) : Prop := (BadS K 2 H a ∧ z = "m") ∨ (IsS 2 a ∧ BadS K 2 H b ∧ z = "n")
theorem SZi.ext {a b : V} {H H' : Hp} {z : Str} (s : ExtN H H') (h : SZi K a b H z) : SZi K a b H' z := by
  rcases h with ⟨h, e⟩ | ⟨h, k, e⟩
  · exact .inl ⟨h.ext s, e⟩
  · exact .inr ⟨h, k.ext s, e⟩
def STr (K : PySem.W.Frag) (a b c : V) (H : Hp) (z : Str) : Prop := (BadS K 1 H a ∧ z = "m") ∨ (IsS 1 a ∧ BadS K 1 H b ∧ z = "n") ∨ (IsS 1 a ∧ IsS 1 b ∧ BadS K (-1000000) H c ∧ z = "shift")
theorem STr.ext {a b c : V} {H H' : Hp} {z : Str} (s : ExtN H H') (h : STr K a b c H z) : STr K a b c H' z := by
  rcases h with ⟨h, e⟩ | ⟨h, k, e⟩ | ⟨h, k, l, e⟩
  · exact .inl ⟨h.ext s, e⟩
  · exact .inr (.inl ⟨h, k.ext s, e⟩)
  · exact .inr (.inr ⟨h, k, l.ext s, e⟩)
theorem rs_err {IB LE : Addr} {z : Str} {H : Hp} {E : XK} (hE : ∀ cls d H', Same H H' → ErrW IB LE (.str z) cls d H' → E cls d H') : Rs IB "argument" (.str z) H E := fun d H' s e => hE _ _ _ s (.inl ⟨d, z, rfl, rfl, rfl, e⟩)
theorem rs_errL {IB LE : Addr} {n : Int} {H : Hp} {E : XK} (hE : ∀ cls d H', Same H H' → ErrW IB LE (.int n) cls d H' → E cls d H') : Rs LE "limit" (.int n) H E := fun d H' s e => hE _ _ _ s (.inr ⟨d, n, rfl, rfl, rfl, e⟩)
def p__law_words_right (K : PySem.W.Frag) (T : List (Addr × Str)) : Sp := fun vs H Q _ => ∃ x, vs = [x] ∧ OddW K H x ∧ Tabs T H ∧ ∀ H', ExtN H H' → Tabs T H' → Q (.bl true) H'
set_option maxHeartbeats 4000000
theorem ok__law_words_right {f cS PS : Addr} {kV doc pm ct oc : Value} {an od : Option Addr} {osl : Array (Option Value)} {T : List (Addr × Str)}
    (lk : K.lookup f = some ⟨oc, od, .func (PySem.W.fnOf "_law_words_right" "_law_words_right" (defArgs s__law_words_right) (defBody s__law_words_right) (defScope s__law_words_right) .none kV doc pm an (.ref cS) ct), osl⟩) (hcd : PySem.W.codeIn K (.ref cS) "_law_words_right" = true) (TB : TabB base mg cS PS)
    (hmT0 : (PS, (envOfC "_law_words_right" (defScope s__law_words_right) 0 0 (.ref cS)).qual ++ "<lambda>") ∈ T) (huT0 : ∀ p ∈ T, p.1 = PS → p.2 = (envOfC "_law_words_right" (defScope s__law_words_right) 0 0 (.ref cS)).qual ++ "<lambda>")
    (C_grid : Cl P w K mg base (L2.CX P w) "grid" 5 ["m", "n"] (p_grid K a_InvalidBound a_LimitExceeded)) (C_grid_counts : Cl P w K mg base (L2.CX P w) "grid_counts" 5 ["m", "n"] (p_grid_counts K a_InvalidBound)) (C_parabola : Cl P w K mg base (L2.CX P w) "parabola" 6 ["low", "high"] (p_parabola K a_InvalidBound a_LimitExceeded)) (C_parabola_counts : Cl P w K mg base (L2.CX P w) "parabola_counts" 6 ["low", "high"] (p_parabola_counts K a_InvalidBound)) (C_zigzag : Cl P w K mg base (L2.CX P w) "zigzag" 5 ["m", "n", "height"] (p_zigzag K a_InvalidBound a_LimitExceeded)) (C_zigzag_counts : Cl P w K mg base (L2.CX P w) "zigzag_counts" 5 ["m", "n"] (p_zigzag_counts K a_InvalidBound)) (C_two_rows : Cl P w K mg base (L2.CX P w) "two_rows" 6 ["m", "n", "shift", "height"] (p_two_rows K a_InvalidBound a_LimitExceeded)) (C_two_rows_counts : Cl P w K mg base (L2.CX P w) "two_rows_counts" 6 ["m", "n", "shift"] (p_two_rows_counts K a_InvalidBound)) (C__law_said : Cl P w K mg base CX0 "_law_said" 8 ["_law_ask"] (p__law_said P w K mg base a_InvalidBound a_LimitExceeded 7)) :
    FnOk P w K mg base CX0 9 f (PySem.W.fnOf "_law_words_right" "_law_words_right" (defArgs s__law_words_right) (defBody s__law_words_right) (defScope s__law_words_right) .none kV doc pm an (.ref cS) ct) ["_law_odd"] (p__law_words_right K T) := by
  refine fn_of lk hcd c__law_words_right (fun vs H Q E h => ?_) (fun A outer s0 H vs Q E hr h => ?_)
  · obtain ⟨x, rfl, _⟩ := h
    rfl
  · obtain ⟨x, rfl, hO, tb, q⟩ := h
    have nd := c__law_words_right.nd
    obtain ⟨fGr, fdGr, GGr, gGr, kGr, bGr⟩ := C_grid.ex
    obtain ⟨fGc, fdGc, GGc, gGc, kGc, bGc⟩ := C_grid_counts.ex
    obtain ⟨fPa, fdPa, GPa, gPa, kPa, bPa⟩ := C_parabola.ex
    obtain ⟨fPc, fdPc, GPc, gPc, kPc, bPc⟩ := C_parabola_counts.ex
    obtain ⟨fZi, fdZi, GZi, gZi, kZi, bZi⟩ := C_zigzag.ex
    obtain ⟨fZc, fdZc, GZc, gZc, kZc, bZc⟩ := C_zigzag_counts.ex
    obtain ⟨fTr, fdTr, GTr, gTr, kTr, bTr⟩ := C_two_rows.ex
    obtain ⟨fTc, fdTc, GTc, gTc, kTc, bTc⟩ := C_two_rows_counts.ex
    obtain ⟨fSa, fdSa, GSa, gSa, kSa, bSa⟩ := C__law_said.ex
    let XY := cxOf CX0 P w K mg base n__law_words_right "_law_words_right" (defScope s__law_words_right) f (.ref cS) A outer s0 H E
    let XX := XY.nox
    have hqq : XX.env.qual = (envOfC "_law_words_right" (defScope s__law_words_right) 0 0 (.ref cS)).qual := rfl
    have hmT : (PS, XX.env.qual ++ "<lambda>") ∈ T := by
      rw [hqq]
      exact hmT0
    have huT : ∀ p ∈ T, p.1 = PS → p.2 = XX.env.qual ++ "<lambda>" := by
      rw [hqq]
      exact huT0
    have RGr : Rf2 P w K mg base a_InvalidBound fGr (SGr K) := ⟨fdGr, _, _, GGr.mono (by decide), kGr, bGr, fun a b H z Q E h r => by
      rcases h with ⟨h, rfl⟩ | ⟨h, k, rfl⟩
      · exact ⟨a, b, rfl, .inl ⟨h, r⟩⟩
      · exact ⟨a, b, rfl, .inr (.inl ⟨h, k, r⟩)⟩⟩
    have RGc : Rf2 P w K mg base a_InvalidBound fGc (SGr K) := ⟨fdGc, _, _, GGc.mono (by decide), kGc, bGc, fun a b H z Q E h r => by
      rcases h with ⟨h, rfl⟩ | ⟨h, k, rfl⟩
      · exact ⟨a, b, rfl, .inl ⟨h, r⟩⟩
      · exact ⟨a, b, rfl, .inr ⟨h, k, r⟩⟩⟩
    have bad : ∀ a b H z E, SPa K a b H z → Rs a_InvalidBound "argument" (.str z) H E → BadE K a_InvalidBound a b H E := fun a b H z E h r => by
      rcases h with ⟨h, rfl⟩ | ⟨h, k, rfl⟩ | ⟨m, n, h1, h2, h3, h4, h5, rfl⟩
      · exact .inl ⟨h, r⟩
      · exact .inr (.inl ⟨h, k, r⟩)
      · exact .inr (.inr ⟨m, n, h1, h2, h3, h4, h5, r⟩)
    have RPa : Rf2 P w K mg base a_InvalidBound fPa (SPa K) := ⟨fdPa, _, _, GPa.mono (by decide), kPa, bPa, fun a b H z Q E h r => ⟨a, b, rfl, .inl (bad a b H z E h r)⟩⟩
    have RPc : Rf2 P w K mg base a_InvalidBound fPc (SPa K) := ⟨fdPc, _, _, GPc.mono (by decide), kPc, bPc, fun a b H z Q E h r => ⟨a, b, rfl, bad a b H z E h r⟩⟩
    refine ⟨_, PSs.nox (X := XY) (pss_cons (ps_for PassesOwn.never rfl (pi_tup (pe_tupG (pa_cons (pe_glob (v := .ref fGr) (by rfl) gGr rfl) (pa_cons (pe_glob (v := .ref fGc) (by rfl) gGc rfl) pa_nil)))) (pg_name (i := 1) nd rfl (.inr rfl)) (pss_one (ps_for PassesOwn.never rfl (pi_tup (pe_tupG (pa_cons (pe_tupG (pa_cons (pv 0) (pa_cons pe_non (pa_cons pe_str pa_nil)))) (pa_cons (pe_tupG (pa_cons pe_int (pa_cons (pv 0) (pa_cons pe_str pa_nil)))) (pa_cons (pe_tupG (pa_cons pe_int (pa_cons pe_int (pa_cons pe_str pa_nil)))) (pa_cons (pe_tupG (pa_cons pe_int (pa_cons pe_int (pa_cons pe_str pa_nil)))) pa_nil)))))) (pg_tup (by rfl) (pgs_cons (pg_name (i := 2) nd rfl (.inr rfl)) (pgs_cons (pg_name (i := 3) nd rfl (.inr rfl)) (pgs_cons (pg_name (i := 4) nd rfl (.inl rfl)) pgs_nil)))) (pss_one (ps_if (pt_cmpR op_ne (pe_lend (X := XX) GSa (hr.mono (by decide)) (by rfl) gSa kSa bSa .nil (fun _ => rfl) (pa_cons (pe_lamN (X := XX) (T := T) TB rfl hmT huT (lamP_by (by show lamPB n__law_words_right (defScope s__law_words_right) _ = true; decide +kernel)) rfl) pa_nil)) (pv 4) (nomark _)) (pss_one (ps_ret pe_bl)) pss_nil))))) (pss_cons (ps_for PassesOwn.never rfl (pi_tup (pe_tupG (pa_cons (pe_glob (v := .ref fPa) (by rfl) gPa rfl) (pa_cons (pe_glob (v := .ref fPc) (by rfl) gPc rfl) pa_nil)))) (pg_name (i := 1) nd rfl (.inr rfl)) (pss_one (ps_for PassesOwn.never rfl (pi_tup (pe_tupG (pa_cons (pe_tupG (pa_cons (pv 0) (pa_cons pe_non (pa_cons pe_str pa_nil)))) (pa_cons (pe_tupG (pa_cons pe_int (pa_cons (pv 0) (pa_cons pe_str pa_nil)))) (pa_cons (pe_tupG (pa_cons pe_int (pa_cons pe_int (pa_cons pe_str pa_nil)))) pa_nil))))) (pg_tup (by rfl) (pgs_cons (pg_name (i := 2) nd rfl (.inr rfl)) (pgs_cons (pg_name (i := 3) nd rfl (.inr rfl)) (pgs_cons (pg_name (i := 4) nd rfl (.inl rfl)) pgs_nil)))) (pss_one (ps_if (pt_cmpR op_ne (pe_lend (X := XX) GSa (hr.mono (by decide)) (by rfl) gSa kSa bSa .nil (fun _ => rfl) (pa_cons (pe_lamN (X := XX) (T := T) TB rfl hmT huT (lamP_by (by show lamPB n__law_words_right (defScope s__law_words_right) _ = true; decide +kernel)) rfl) pa_nil)) (pv 4) (nomark _)) (pss_one (ps_ret pe_bl)) pss_nil))))) (pss_cons (ps_for PassesOwn.never rfl (pi_tup (pe_tupG (pa_cons (pe_tupG (pa_cons (pv 0) (pa_cons pe_int (pa_cons pe_str pa_nil)))) (pa_cons (pe_tupG (pa_cons pe_int (pa_cons (pv 0) (pa_cons pe_str pa_nil)))) (pa_cons (pe_tupG (pa_cons pe_int (pa_cons pe_int (pa_cons pe_str pa_nil)))) (pa_cons (pe_tupG (pa_cons pe_int (pa_cons pe_int (pa_cons pe_str pa_nil)))) pa_nil)))))) (pg_tup (by rfl) (pgs_cons (pg_name (i := 2) nd rfl (.inr rfl)) (pgs_cons (pg_name (i := 3) nd rfl (.inr rfl)) (pgs_cons (pg_name (i := 4) nd rfl (.inl rfl)) pgs_nil)))) (pss_one (ps_if (PW.pt (pw_or (pt_cmpR op_ne (pe_lend (X := XX) GSa (hr.mono (by decide)) (by rfl) gSa kSa bSa .nil (fun _ => rfl) (pa_cons (pe_lamN (X := XX) (T := T) TB rfl hmT huT (lamP_by (by show lamPB n__law_words_right (defScope s__law_words_right) _ = true; decide +kernel)) rfl) pa_nil)) (pv 4) (nomark _)) (pw_or1 (pt_cmpR op_ne (pe_lend (X := XX) GSa (hr.mono (by decide)) (by rfl) gSa kSa bSa .nil (fun _ => rfl) (pa_cons (pe_lamD (X := XX) (T := T) TB rfl hmT huT (lamP_by (by show lamPB n__law_words_right (defScope s__law_words_right) _ = true; decide +kernel)) rfl rfl pe_int) pa_nil)) (pv 4) (nomark _))))) (pss_one (ps_ret pe_bl)) pss_nil))) (pss_cons (ps_for PassesOwn.never rfl (pi_tup (pe_tupG (pa_cons (pe_tupG (pa_cons (pv 0) (pa_cons (pv 0) (pa_cons (pv 0) (pa_cons pe_str pa_nil))))) (pa_cons (pe_tupG (pa_cons pe_int (pa_cons (pv 0) (pa_cons (pv 0) (pa_cons pe_str pa_nil))))) (pa_cons (pe_tupG (pa_cons pe_int (pa_cons pe_int (pa_cons (pv 0) (pa_cons pe_str pa_nil))))) pa_nil))))) (pg_tup (by rfl) (pgs_cons (pg_name (i := 2) nd rfl (.inr rfl)) (pgs_cons (pg_name (i := 3) nd rfl (.inr rfl)) (pgs_cons (pg_name (i := 5) nd rfl (.inr rfl)) (pgs_cons (pg_name (i := 4) nd rfl (.inl rfl)) pgs_nil))))) (pss_cons (ps_if (pt_cmpR op_ne (pe_lend (X := XX) GSa (hr.mono (by decide)) (by rfl) gSa kSa bSa .nil (fun _ => rfl) (pa_cons (pe_lamN (X := XX) (T := T) TB rfl hmT huT (lamP_by (by show lamPB n__law_words_right (defScope s__law_words_right) _ = true; decide +kernel)) rfl) pa_nil)) (pv 4) (nomark _)) (pss_one (ps_ret pe_bl)) pss_nil) (pss_one (ps_if (pt_cmpR op_ne (pe_lend (X := XX) GSa (hr.mono (by decide)) (by rfl) gSa kSa bSa .nil (fun _ => rfl) (pa_cons (pe_lamN (X := XX) (T := T) TB rfl hmT huT (lamP_by (by show lamPB n__law_words_right (defScope s__law_words_right) _ = true; decide +kernel)) rfl) pa_nil)) (pv 4) (nomark _)) (pss_one (ps_ret pe_bl)) pss_nil)))) (pss_cons (ps_for PassesOwn.never rfl (pi_tup (pe_tupG (pa_cons pe_non (pa_cons pe_int (pa_cons pe_int (pa_cons pe_neg (pa_cons pe_bl (pa_cons pe_str pa_nil)))))))) (pg_name (i := 6) nd rfl (.inr rfl)) (pss_cons (ps_if (pt_cmpR op_ne (pe_lend (X := XX) GSa (hr.mono (by decide)) (by rfl) gSa kSa bSa .nil (fun _ => rfl) (pa_cons (pe_lamN (X := XX) (T := T) TB rfl hmT huT (lamP_by (by show lamPB n__law_words_right (defScope s__law_words_right) _ = true; decide +kernel)) rfl) pa_nil)) pe_str (nomark _)) (pss_one (ps_ret pe_bl)) pss_nil) (pss_one (ps_if (PW.pt (pw_and (pt_cmpR (op_neD hr.units) (pv 6) pe_int (nomark _)) (pw_and1 (pt_cmpR op_ne (pe_lend (X := XX) GSa (hr.mono (by decide)) (by rfl) gSa kSa bSa .nil (fun _ => rfl) (pa_cons (pe_lamN (X := XX) (T := T) TB rfl hmT huT (lamP_by (by show lamPB n__law_words_right (defScope s__law_words_right) _ = true; decide +kernel)) rfl) pa_nil)) pe_str (nomark _))))) (pss_one (ps_ret pe_bl)) pss_nil)))) (pss_one (ps_ret pe_bl))))))), ?_⟩
    repeat array_get_dec
    refine fun p1 P1 s1 n1 e1 => ?_
    replace tb := TabsExt tb s1
    refine ⟨p1, rfl, ⟨_, SqT.of e1⟩, for_tup (K := K) (a := p1) (xs := [V.ref fGr, V.ref fGc]) (fun i σ' H' => (∃ y1 y2 y3 y4 y5 y6, σ' = [some x, y1, y2, y3, y4, y5, y6]) ∧ ExtN P1 H' ∧ Tabs T H') ⟨⟨_, _, _, _, _, _, rfl⟩, ExtN.refl _, tb⟩ (fun i σ' H' _ z => SqT.ext z.2.1 (SqT.of e1)) (fun i v σ' H' hv z => ?_) fun σ' H' z => ?_⟩
    · obtain ⟨⟨y1, y2, y3, y4, y5, y6, rfl⟩, xe, tb1⟩ := z
      obtain ⟨fa, rfl, Ra⟩ : ∃ fa, v = .ref fa ∧ Rf2 P w K mg base a_InvalidBound fa (SGr K) := by
        match i, hv with
        | 0, hv => cases hv; exact ⟨_, rfl, RGr⟩
        | 1, hv => cases hv; exact ⟨_, rfl, RGc⟩
      obtain ⟨fd, ps, sp, Fa, ka, ba, ask⟩ := Ra
      have hO1 := hO.ext ((ExtN.same s1).trans xe)
      repeat array_get_dec
      refine fun t1_1 A1_1 u1_1 m1_1 a1_1 => ?_
      repeat array_get_dec
      refine fun t1_2 A1_2 u1_2 m1_2 a1_2 => ?_
      repeat array_get_dec
      refine fun t1_3 A1_3 u1_3 m1_3 a1_3 => ?_
      repeat array_get_dec
      refine fun t1_4 A1_4 u1_4 m1_4 a1_4 => ?_
      repeat array_get_dec
      refine fun t1 B1 u1 m1 a1 => ?_
      replace tb1 := TabsExt tb1 ((((u1_1.trans u1_2).trans u1_3).trans u1_4).trans u1)
      refine ⟨t1, rfl, ⟨_, SqT.of a1⟩, for_tup (K := K) (a := t1) (xs := [V.ref t1_1, V.ref t1_2, V.ref t1_3, V.ref t1_4]) (fun i σ' H' => (∃ y2 y3 y4 y5 y6, σ' = [some x, some (.ref fa), y2, y3, y4, y5, y6]) ∧ ExtN B1 H' ∧ Tabs T H') ⟨⟨_, _, _, _, _, rfl⟩, ExtN.refl _, tb1⟩ (fun i σ' H' _ z => SqT.ext z.2.1 (SqT.of a1)) (fun j v σ2 H2 hv2 z2 => ?_) fun σ2 H2 z2 => ?_⟩
      · obtain ⟨⟨y2, y3, y4, y5, y6, rfl⟩, xe2, tb2⟩ := z2
        have hO2 := hO1.ext ((ExtN.same ((((u1_1.trans u1_2).trans u1_3).trans u1_4).trans u1)).trans xe2)
        obtain ⟨t, va, vb, zz, rfl, et, hS⟩ : ∃ t va vb zz, v = .ref t ∧ H2 t = some (.tup [va, vb, .str zz]) ∧ SGr K va vb H2 zz := by
          match j, hv2 with
          | 0, hv2 => cases hv2; exact ⟨t1_1, x, .non, "m", rfl, xe2 _ _ (u1 _ _ (u1_4 _ _ (u1_3 _ _ (u1_2 _ _ a1_1)))) (fun ps z => nomatch z), .inl ⟨hO2.bad (by decide), rfl⟩⟩
          | 1, hv2 => cases hv2; exact ⟨t1_2, .int 3, x, "n", rfl, xe2 _ _ (u1 _ _ (u1_4 _ _ (u1_3 _ _ a1_2))) (fun ps z => nomatch z), .inr ⟨⟨_, rfl, by decide, by decide⟩, hO2.bad (by decide), rfl⟩⟩
          | 2, hv2 => cases hv2; exact ⟨t1_3, .int 0, .int 0, "m", rfl, xe2 _ _ (u1 _ _ (u1_4 _ _ a1_3)) (fun ps z => nomatch z), .inl ⟨.inr ⟨_, rfl, by decide⟩, rfl⟩⟩
          | 3, hv2 => cases hv2; exact ⟨t1_4, .int 1, .int 0, "n", rfl, xe2 _ _ (u1 _ _ a1_4) (fun ps z => nomatch z), .inr ⟨⟨_, rfl, by decide, by decide⟩, .inr ⟨_, rfl, by decide⟩, rfl⟩⟩
        repeat array_get_dec
        refine ⟨tb2, fun fl c dd p vv G1 x1 t1 n1 l1 o1 => ?_⟩
        refine fun H3 s3 xs le back => ⟨_, .str zz, rfl, sayerN (X := XX) (H1 := G1) (tb := fun E => tCallL 1 fa sp [] E (tCons (tVar 2) (tCons (tVar 3) tNil))) xs (lamP_by (by show lamPB n__law_words_right (defScope s__law_words_right) _ = true; decide +kernel)) rfl (fun A outer s H E hr' => by exact (pe_callL Fa hr' rfl (.inr (.inr rfl)) ka ba .nil (passes_call (takes_of (E := E) rfl rfl rfl rfl) fun _ _ _ _ h => h) (pa_cons (pv 2) (pa_cons (pv 3) pa_nil)))) (s3 _ _ l1) (s3 _ _ o1) le back (fun H4 E Q s4 hE _ => ⟨rfl, _, rfl, _, rfl, ask va vb H4 zz Q E (hS.ext (x1.trans (ExtN.same s4))) (rs_err hE)⟩), fun N1 s5 => ?_⟩
        repeat array_get_dec
        refine w_ntt rfl ?_
        repeat array_get_dec
        exact ⟨⟨_, _, _, _, _, rfl⟩, xe2.trans (x1.trans (ExtN.same (back N1 s5))), TabsExt t1 (back N1 s5)⟩
      · obtain ⟨⟨y2, y3, y4, y5, y6, rfl⟩, xe2, tb2⟩ := z2
        exact ⟨⟨_, _, _, _, _, _, rfl⟩, xe.trans ((ExtN.same ((((u1_1.trans u1_2).trans u1_3).trans u1_4).trans u1)).trans xe2), tb2⟩
    obtain ⟨⟨y1, y2, y3, y4, y5, y6, rfl⟩, xe, tb1⟩ := z
    replace hO := hO.ext ((ExtN.same s1).trans xe)
    replace q := fun H' e t => q H' (((ExtN.same s1).trans xe).trans e) t
    have tb := tb1
    repeat array_get_dec
    refine fun p2 P2 s2 n2 e2 => ?_
    replace tb := TabsExt tb s2
    refine ⟨p2, rfl, ⟨_, SqT.of e2⟩, for_tup (K := K) (a := p2) (xs := [V.ref fPa, V.ref fPc]) (fun i σ' H' => (∃ y1 y2 y3 y4 y5 y6, σ' = [some x, y1, y2, y3, y4, y5, y6]) ∧ ExtN P2 H' ∧ Tabs T H') ⟨⟨_, _, _, _, _, _, rfl⟩, ExtN.refl _, tb⟩ (fun i σ' H' _ z => SqT.ext z.2.1 (SqT.of e2)) (fun i v σ' H' hv z => ?_) fun σ' H' z => ?_⟩
    · obtain ⟨⟨y1, y2, y3, y4, y5, y6, rfl⟩, xe, tb1⟩ := z
      obtain ⟨fa, rfl, Ra⟩ : ∃ fa, v = .ref fa ∧ Rf2 P w K mg base a_InvalidBound fa (SPa K) := by
        match i, hv with
        | 0, hv => cases hv; exact ⟨_, rfl, RPa⟩
        | 1, hv => cases hv; exact ⟨_, rfl, RPc⟩
      obtain ⟨fd, ps, sp, Fa, ka, ba, ask⟩ := Ra
      have hO1 := hO.ext ((ExtN.same s2).trans xe)
      repeat array_get_dec
      refine fun t2_1 A2_1 u2_1 m2_1 a2_1 => ?_
      repeat array_get_dec
      refine fun t2_2 A2_2 u2_2 m2_2 a2_2 => ?_
      repeat array_get_dec
      refine fun t2_3 A2_3 u2_3 m2_3 a2_3 => ?_
      repeat array_get_dec
      refine fun t2 B2 u2 m2 a2 => ?_
      replace tb1 := TabsExt tb1 (((u2_1.trans u2_2).trans u2_3).trans u2)
      refine ⟨t2, rfl, ⟨_, SqT.of a2⟩, for_tup (K := K) (a := t2) (xs := [V.ref t2_1, V.ref t2_2, V.ref t2_3]) (fun i σ' H' => (∃ y2 y3 y4 y5 y6, σ' = [some x, some (.ref fa), y2, y3, y4, y5, y6]) ∧ ExtN B2 H' ∧ Tabs T H') ⟨⟨_, _, _, _, _, rfl⟩, ExtN.refl _, tb1⟩ (fun i σ' H' _ z => SqT.ext z.2.1 (SqT.of a2)) (fun j v σ2 H2 hv2 z2 => ?_) fun σ2 H2 z2 => ?_⟩
      · obtain ⟨⟨y2, y3, y4, y5, y6, rfl⟩, xe2, tb2⟩ := z2
        have hO2 := hO1.ext ((ExtN.same (((u2_1.trans u2_2).trans u2_3).trans u2)).trans xe2)
        obtain ⟨t, va, vb, zz, rfl, et, hS⟩ : ∃ t va vb zz, v = .ref t ∧ H2 t = some (.tup [va, vb, .str zz]) ∧ SPa K va vb H2 zz := by
          match j, hv2 with
          | 0, hv2 => cases hv2; exact ⟨t2_1, x, .non, "low", rfl, xe2 _ _ (u2 _ _ (u2_3 _ _ (u2_2 _ _ a2_1))) (fun ps z => nomatch z), .inl ⟨hO2.bad (by decide), rfl⟩⟩
          | 1, hv2 => cases hv2; exact ⟨t2_2, .int 3, x, "high", rfl, xe2 _ _ (u2 _ _ (u2_3 _ _ a2_2)) (fun ps z => nomatch z), .inr (.inl ⟨⟨_, rfl, by decide, by decide⟩, hO2.bad (by decide), rfl⟩)⟩
          | 2, hv2 => cases hv2; exact ⟨t2_3, .int 3, .int 2, "high", rfl, xe2 _ _ (u2 _ _ a2_3) (fun ps z => nomatch z), .inr (.inr ⟨_, _, rfl, rfl, ⟨_, rfl, by decide, by decide⟩, ⟨_, rfl, by decide, by decide⟩, by decide, rfl⟩)⟩
        repeat array_get_dec
        refine ⟨tb2, fun fl c dd p vv G1 x1 t1 n1 l1 o1 => ?_⟩
        refine fun H3 s3 xs le back => ⟨_, .str zz, rfl, sayerN (X := XX) (H1 := G1) (tb := fun E => tCallL 1 fa sp [] E (tCons (tVar 2) (tCons (tVar 3) tNil))) xs (lamP_by (by show lamPB n__law_words_right (defScope s__law_words_right) _ = true; decide +kernel)) rfl (fun A outer s H E hr' => by exact (pe_callL Fa hr' rfl (.inr (.inr rfl)) ka ba .nil (passes_call (takes_of (E := E) rfl rfl rfl rfl) fun _ _ _ _ h => h) (pa_cons (pv 2) (pa_cons (pv 3) pa_nil)))) (s3 _ _ l1) (s3 _ _ o1) le back (fun H4 E Q s4 hE _ => ⟨rfl, _, rfl, _, rfl, ask va vb H4 zz Q E (hS.ext (x1.trans (ExtN.same s4))) (rs_err hE)⟩), fun N1 s5 => ?_⟩
        repeat array_get_dec
        refine w_ntt rfl ?_
        repeat array_get_dec
        exact ⟨⟨_, _, _, _, _, rfl⟩, xe2.trans (x1.trans (ExtN.same (back N1 s5))), TabsExt t1 (back N1 s5)⟩
      · obtain ⟨⟨y2, y3, y4, y5, y6, rfl⟩, xe2, tb2⟩ := z2
        exact ⟨⟨_, _, _, _, _, _, rfl⟩, xe.trans ((ExtN.same (((u2_1.trans u2_2).trans u2_3).trans u2)).trans xe2), tb2⟩
    obtain ⟨⟨y1, y2, y3, y4, y5, y6, rfl⟩, xe, tb1⟩ := z
    replace hO := hO.ext ((ExtN.same s2).trans xe)
    replace q := fun H' e t => q H' (((ExtN.same s2).trans xe).trans e) t
    have tb := tb1
    repeat array_get_dec
    refine fun t3_1 A3_1 u3_1 m3_1 a3_1 => ?_
    repeat array_get_dec
    refine fun t3_2 A3_2 u3_2 m3_2 a3_2 => ?_
    repeat array_get_dec
    refine fun t3_3 A3_3 u3_3 m3_3 a3_3 => ?_
    repeat array_get_dec
    refine fun t3_4 A3_4 u3_4 m3_4 a3_4 => ?_
    repeat array_get_dec
    refine fun t3 B3 u3 m3 a3 => ?_
    replace tb := TabsExt tb ((((u3_1.trans u3_2).trans u3_3).trans u3_4).trans u3)
    refine ⟨t3, rfl, ⟨_, SqT.of a3⟩, for_tup (K := K) (a := t3) (xs := [V.ref t3_1, V.ref t3_2, V.ref t3_3, V.ref t3_4]) (fun i σ' H' => (∃ y1 y2 y3 y4 y5 y6, σ' = [some x, y1, y2, y3, y4, y5, y6]) ∧ ExtN B3 H' ∧ Tabs T H') ⟨⟨_, _, _, _, _, _, rfl⟩, ExtN.refl _, tb⟩ (fun i σ' H' _ z => SqT.ext z.2.1 (SqT.of a3)) (fun j v σ2 H2 hv2 z2 => ?_) fun σ2 H2 z2 => ?_⟩
    · obtain ⟨⟨y1, y2, y3, y4, y5, y6, rfl⟩, xe2, tb2⟩ := z2
      have hO2 := hO.ext ((ExtN.same ((((u3_1.trans u3_2).trans u3_3).trans u3_4).trans u3)).trans xe2)
      obtain ⟨t, va, vb, zz, rfl, et, hS⟩ : ∃ t va vb zz, v = .ref t ∧ H2 t = some (.tup [va, vb, .str zz]) ∧ SZi K va vb H2 zz := by
        match j, hv2 with
        | 0, hv2 => cases hv2; exact ⟨t3_1, x, .int 3, "m", rfl, xe2 _ _ (u3 _ _ (u3_4 _ _ (u3_3 _ _ (u3_2 _ _ a3_1)))) (fun ps z => nomatch z), .inl ⟨hO2.bad (by decide), rfl⟩⟩
        | 1, hv2 => cases hv2; exact ⟨t3_2, .int 3, x, "n", rfl, xe2 _ _ (u3 _ _ (u3_4 _ _ (u3_3 _ _ a3_2))) (fun ps z => nomatch z), .inr ⟨⟨_, rfl, by decide, by decide⟩, hO2.bad (by decide), rfl⟩⟩
        | 2, hv2 => cases hv2; exact ⟨t3_3, .int 1, .int 3, "m", rfl, xe2 _ _ (u3 _ _ (u3_4 _ _ a3_3)) (fun ps z => nomatch z), .inl ⟨.inr ⟨_, rfl, by decide⟩, rfl⟩⟩
        | 3, hv2 => cases hv2; exact ⟨t3_4, .int 2, .int 1, "n", rfl, xe2 _ _ (u3 _ _ a3_4) (fun ps z => nomatch z), .inr ⟨⟨_, rfl, by decide, by decide⟩, .inr ⟨_, rfl, by decide⟩, rfl⟩⟩
      repeat array_get_dec
      refine ⟨tb2, fun fl1 c1 dd1 p1 vv1 G1 x1 tt1 n1 l1 o1 => ?_⟩
      refine fun H3 s3 xs le back => ⟨_, .str zz, rfl, sayerN (X := XX) (H1 := G1) (tb := fun E => tCall (p_zigzag K a_InvalidBound a_LimitExceeded) [] E (tCons (tVar 2) (tCons (tVar 3) (tCons (tC (.int 3)) tNil)))) xs (lamP_by (by show lamPB n__law_words_right (defScope s__law_words_right) _ = true; decide +kernel)) rfl (fun A outer s H E hr' => by exact (pe_call GZi (hr'.mono (by decide)) (by rfl) gZi kZi bZi .nil (passes_call (takes_of (E := E) rfl rfl rfl rfl) fun _ _ _ _ h => h) (pa_cons (pv 2) (pa_cons (pv 3) (pa_cons pe_int pa_nil))))) (s3 _ _ l1) (s3 _ _ o1) le back (fun H4 E Q s4 hE _ => ⟨_, rfl, _, rfl, va, vb, .int 3, rfl, by rcases hS.ext (x1.trans (ExtN.same s4)) with ⟨h, rfl⟩ | ⟨h, k, rfl⟩; exact .inl ⟨h, rs_err hE⟩; exact .inr (.inl ⟨h, k, rs_err hE⟩)⟩), fun N1 s5 => ?_⟩
      have z1 := back N1 s5
      replace tb2 := TabsExt tt1 z1
      repeat array_get_dec
      refine w_ntt rfl ?_
      repeat array_get_dec
      refine ⟨tb2, fun fl2 c2 d2 u2 dd2 p2 vv2 G2 ru2 x2 tt2 n2 l2 o2 h2 => ?_⟩
      refine fun H3 s3 xs le back => ⟨_, .str zz, rfl, sayerD (X := XX) (H1 := G2) (tb := fun E => tCall (p_zigzag_counts K a_InvalidBound) [] E (tCons (tVar 2) (tCons (tVar 3) tNil))) xs (lamP_by (by show lamPB n__law_words_right (defScope s__law_words_right) _ = true; decide +kernel)) rfl rfl rfl (fun A outer s H E hr' => by exact (pe_call GZc (hr'.mono (by decide)) (by rfl) gZc kZc bZc .nil (passes_call (takes_of (E := E) rfl rfl rfl rfl) fun _ _ _ _ h => h) (pa_cons (pv 2) (pa_cons (pv 3) pa_nil)))) (s3 _ _ l2) (s3 _ _ o2) (s3 _ _ h2) le back (fun H4 E Q s4 hE _ => ⟨_, rfl, _, rfl, va, vb, rfl, by rcases hS.ext (((x1.trans (ExtN.same z1)).trans x2).trans (ExtN.same s4)) with ⟨h, rfl⟩ | ⟨h, k, rfl⟩; exact .inl ⟨h, rs_err hE⟩; exact .inr ⟨h, k, rs_err hE⟩⟩), fun N2 s5 => ?_⟩
      have z2 := back N2 s5
      replace tb2 := TabsExt tt2 z2
      repeat array_get_dec
      refine w_ntt rfl ?_
      repeat array_get_dec
      exact ⟨⟨_, _, _, _, _, _, rfl⟩, ((((xe2.trans x1).trans (ExtN.same z1)).trans x2).trans (ExtN.same z2)), tb2⟩
    obtain ⟨⟨y1, y2, y3, y4, y5, y6, rfl⟩, xe, tb1⟩ := z2
    replace hO := hO.ext ((ExtN.same ((((u3_1.trans u3_2).trans u3_3).trans u3_4).trans u3)).trans xe)
    replace q := fun H' e t => q H' (((ExtN.same ((((u3_1.trans u3_2).trans u3_3).trans u3_4).trans u3)).trans xe).trans e) t
    have tb := tb1
    repeat array_get_dec
    refine fun t4_1 A4_1 u4_1 m4_1 a4_1 => ?_
    repeat array_get_dec
    refine fun t4_2 A4_2 u4_2 m4_2 a4_2 => ?_
    repeat array_get_dec
    refine fun t4_3 A4_3 u4_3 m4_3 a4_3 => ?_
    repeat array_get_dec
    refine fun t4 B4 u4 m4 a4 => ?_
    replace tb := TabsExt tb (((u4_1.trans u4_2).trans u4_3).trans u4)
    refine ⟨t4, rfl, ⟨_, SqT.of a4⟩, for_tup (K := K) (a := t4) (xs := [V.ref t4_1, V.ref t4_2, V.ref t4_3]) (fun i σ' H' => (∃ y1 y2 y3 y4 y5 y6, σ' = [some x, y1, y2, y3, y4, y5, y6]) ∧ ExtN B4 H' ∧ Tabs T H') ⟨⟨_, _, _, _, _, _, rfl⟩, ExtN.refl _, tb⟩ (fun i σ' H' _ z => SqT.ext z.2.1 (SqT.of a4)) (fun j v σ2 H2 hv2 z2 => ?_) fun σ2 H2 z2 => ?_⟩
    · obtain ⟨⟨y1, y2, y3, y4, y5, y6, rfl⟩, xe2, tb2⟩ := z2
      have hO2 := hO.ext ((ExtN.same (((u4_1.trans u4_2).trans u4_3).trans u4)).trans xe2)
      obtain ⟨t, va, vb, vc, zz, rfl, et, hS⟩ : ∃ t va vb vc zz, v = .ref t ∧ H2 t = some (.tup [va, vb, vc, .str zz]) ∧ STr K va vb vc H2 zz := by
        match j, hv2 with
        | 0, hv2 => cases hv2; exact ⟨t4_1, x, x, x, "m", rfl, xe2 _ _ (u4 _ _ (u4_3 _ _ (u4_2 _ _ a4_1))) (fun ps z => nomatch z), .inl ⟨hO2.bad (by decide), rfl⟩⟩
        | 1, hv2 => cases hv2; exact ⟨t4_2, .int 1, x, x, "n", rfl, xe2 _ _ (u4 _ _ (u4_3 _ _ a4_2)) (fun ps z => nomatch z), .inr (.inl ⟨⟨_, rfl, by decide, by decide⟩, hO2.bad (by decide), rfl⟩)⟩
        | 2, hv2 => cases hv2; exact ⟨t4_3, .int 1, .int 1, x, "shift", rfl, xe2 _ _ (u4 _ _ a4_3) (fun ps z => nomatch z), .inr (.inr ⟨⟨_, rfl, by decide, by decide⟩, ⟨_, rfl, by decide, by decide⟩, hO2.bad (by decide), rfl⟩)⟩
      repeat array_get_dec
      refine ⟨tb2, fun fl1 c1 dd1 p1 vv1 G1 x1 tt1 n1 l1 o1 => ?_⟩
      refine fun H3 s3 xs le back => ⟨_, .str zz, rfl, sayerN (X := XX) (H1 := G1) (tb := fun E => tCall (p_two_rows K a_InvalidBound a_LimitExceeded) [] E (tCons (tVar 2) (tCons (tVar 3) (tCons (tVar 5) (tCons (tVar 0) tNil))))) xs (lamP_by (by show lamPB n__law_words_right (defScope s__law_words_right) _ = true; decide +kernel)) rfl (fun A outer s H E hr' => by exact (pe_call GTr (hr'.mono (by decide)) (by rfl) gTr kTr bTr .nil (passes_call (takes_of (E := E) rfl rfl rfl rfl) fun _ _ _ _ h => h) (pa_cons (pv 2) (pa_cons (pv 3) (pa_cons (pv 5) (pa_cons (pv 0) pa_nil)))))) (s3 _ _ l1) (s3 _ _ o1) le back (fun H4 E Q s4 hE _ => ⟨_, rfl, _, rfl, _, rfl, _, rfl, va, vb, vc, x, rfl, .inl (by rcases hS.ext (x1.trans (ExtN.same s4)) with ⟨h, rfl⟩ | ⟨h, k, rfl⟩ | ⟨h, k, l, rfl⟩; exact .inl ⟨h, rs_err hE⟩; exact .inr (.inl ⟨h, k, rs_err hE⟩); exact .inr (.inr ⟨h, k, l, rs_err hE⟩))⟩), fun N1 s5 => ?_⟩
      have z1 := back N1 s5
      replace tb2 := TabsExt tt1 z1
      repeat array_get_dec
      refine w_ntt rfl ?_
      repeat array_get_dec
      refine ⟨tb2, fun fl2 c2 dd2 p2 vv2 G2 x2 tt2 n2 l2 o2 => ?_⟩
      refine fun H3 s3 xs le back => ⟨_, .str zz, rfl, sayerN (X := XX) (H1 := G2) (tb := fun E => tCall (p_two_rows_counts K a_InvalidBound) [] E (tCons (tVar 2) (tCons (tVar 3) (tCons (tVar 5) tNil)))) xs (lamP_by (by show lamPB n__law_words_right (defScope s__law_words_right) _ = true; decide +kernel)) rfl (fun A outer s H E hr' => by exact (pe_call GTc (hr'.mono (by decide)) (by rfl) gTc kTc bTc .nil (passes_call (takes_of (E := E) rfl rfl rfl rfl) fun _ _ _ _ h => h) (pa_cons (pv 2) (pa_cons (pv 3) (pa_cons (pv 5) pa_nil))))) (s3 _ _ l2) (s3 _ _ o2) le back (fun H4 E Q s4 hE _ => ⟨_, rfl, _, rfl, _, rfl, va, vb, vc, rfl, by rcases hS.ext (((x1.trans (ExtN.same z1)).trans x2).trans (ExtN.same s4)) with ⟨h, rfl⟩ | ⟨h, k, rfl⟩ | ⟨h, k, l, rfl⟩; exact .inl ⟨h, rs_err hE⟩; exact .inr (.inl ⟨h, k, rs_err hE⟩); exact .inr (.inr ⟨h, k, l, rs_err hE⟩)⟩), fun N2 s5 => ?_⟩
      have z2 := back N2 s5
      replace tb2 := TabsExt tt2 z2
      repeat array_get_dec
      refine w_ntt rfl ?_
      repeat array_get_dec
      exact ⟨⟨_, _, _, _, _, _, rfl⟩, ((((xe2.trans x1).trans (ExtN.same z1)).trans x2).trans (ExtN.same z2)), tb2⟩
    obtain ⟨⟨y1, y2, y3, y4, y5, y6, rfl⟩, xe, tb1⟩ := z2
    replace hO := hO.ext ((ExtN.same (((u4_1.trans u4_2).trans u4_3).trans u4)).trans xe)
    replace q := fun H' e t => q H' (((ExtN.same (((u4_1.trans u4_2).trans u4_3).trans u4)).trans xe).trans e) t
    have tb := tb1
    repeat array_get_dec
    refine fun t5 B5 u5 m5 a5 => ?_
    replace tb := TabsExt tb u5
    refine ⟨t5, rfl, ⟨_, SqT.of a5⟩, for_tup (K := K) (a := t5) (xs := [(V.non), (V.int 1), (V.int 0), (V.int (-3)), (V.bl true), (V.str "2")]) (fun i σ' H' => (∃ y1 y2 y3 y4 y5 y6, σ' = [some x, y1, y2, y3, y4, y5, y6]) ∧ ExtN B5 H' ∧ Tabs T H') ⟨⟨_, _, _, _, _, _, rfl⟩, ExtN.refl _, tb⟩ (fun i σ' H' _ z => SqT.ext z.2.1 (SqT.of a5)) (fun j v σ2 H2 hv2 z2 => ?_) fun σ2 H2 z2 => ?_⟩
    · obtain ⟨⟨y1, y2, y3, y4, y5, y6, rfl⟩, xe2, tb2⟩ := z2
      obtain ⟨dv, kd, ks, k2, k1⟩ : ∃ dv : PyData, (∀ H, Dp K H v dv) ∧ SeqAt.shaped dv = true ∧ (∀ H, BadN K 2 H v) ∧ (PyData.eqv dv (.int 1) = false → ∀ H, BadN K 1 H v) := by
        match j, hv2 with
        | 0, hv2 => cases hv2; exact ⟨.none, fun _ => .non, rfl, fun _ => .inl (.inl ⟨.type "NoneType", .base .non, kit_ty (by decide +kernel)⟩), fun _ _ => .inl (.inl ⟨.type "NoneType", .base .non, kit_ty (by decide +kernel)⟩)⟩
        | 1, hv2 => cases hv2; exact ⟨.int 1, fun _ => .int _, rfl, fun _ => .inr ⟨1, rfl, by decide⟩, fun h => absurd h (by simp [PyData.eqv])⟩
        | 2, hv2 => cases hv2; exact ⟨.int 0, fun _ => .int _, rfl, fun _ => .inr ⟨0, rfl, by decide⟩, fun _ _ => .inr ⟨0, rfl, by decide⟩⟩
        | 3, hv2 => cases hv2; exact ⟨.int (-3), fun _ => .int _, rfl, fun _ => .inr ⟨-3, rfl, by decide⟩, fun _ _ => .inr ⟨-3, rfl, by decide⟩⟩
        | 4, hv2 => cases hv2; exact ⟨.bool true, fun _ => .bl _, rfl, fun _ => .inl (.inr ⟨true, rfl⟩), fun _ _ => .inl (.inr ⟨true, rfl⟩)⟩
        | 5, hv2 => cases hv2; exact ⟨.str "2", fun _ => .str _, by decide +kernel, fun _ => .inl (.inl ⟨.type "str", .base (.str _), kit_ty (by decide +kernel)⟩), fun _ _ => .inl (.inl ⟨.type "str", .base (.str _), kit_ty (by decide +kernel)⟩)⟩
      repeat array_get_dec
      refine ⟨tb2, fun fl1 c1 dd1 p1 vv1 G1 x1 tt1 n1 l1 o1 => ?_⟩
      refine fun H3 s3 xs le back => ⟨_, .str "height", rfl, sayerN (X := XX) (H1 := G1) (tb := fun E => tCall (p_zigzag K a_InvalidBound a_LimitExceeded) [] E (tCons (tC (.int 300)) (tCons (tC (.int 2)) (tCons (tVar 6) tNil)))) xs (lamP_by (by show lamPB n__law_words_right (defScope s__law_words_right) _ = true; decide +kernel)) rfl (fun A outer s H E hr' => by exact (pe_call GZi (hr'.mono (by decide)) (by rfl) gZi kZi bZi .nil (passes_call (takes_of (E := E) rfl rfl rfl rfl) fun _ _ _ _ h => h) (pa_cons pe_int (pa_cons pe_int (pa_cons (pv 6) pa_nil))))) (s3 _ _ l1) (s3 _ _ o1) le back (fun H4 E Q s4 hE _ => ⟨_, rfl, .int 300, .int 2, v, rfl, .inr (.inr (.inl ⟨⟨_, rfl, by decide, by decide⟩, ⟨_, rfl, by decide, by decide⟩, k2 _, rs_err hE⟩))⟩), fun N1 s5 => ?_⟩
      have z1 := back N1 s5
      replace tb2 := TabsExt tt1 z1
      refine ⟨rfl, ?_⟩
      refine ⟨_, rfl, ?_⟩
      refine w_ntt rfl ?_
      repeat array_get_dec
      refine ⟨_, _, kd _, .int 1, ks, rfl, ?_⟩
      refine ⟨_, rfl, ?_⟩
      cases he : PyData.eqv dv (.int 1)
      · refine w_if (fun _ => ?_) (fun z => by cases z)
        refine ⟨tb2, fun fl1 c1 dd1 p1 vv1 G2 x2 tt2 n1 l1 o1 => ?_⟩
        refine fun H3 s3 xs le back => ⟨_, .str "height", rfl, sayerN (X := XX) (H1 := G2) (tb := fun E => tCall (p_two_rows K a_InvalidBound a_LimitExceeded) [] E (tCons (tC (.int 300)) (tCons (tC (.int 2)) (tCons (tC (.int 0)) (tCons (tVar 6) tNil))))) xs (lamP_by (by show lamPB n__law_words_right (defScope s__law_words_right) _ = true; decide +kernel)) rfl (fun A outer s H E hr' => by exact (pe_call GTr (hr'.mono (by decide)) (by rfl) gTr kTr bTr .nil (passes_call (takes_of (E := E) rfl rfl rfl rfl) fun _ _ _ _ h => h) (pa_cons pe_int (pa_cons pe_int (pa_cons pe_int (pa_cons (pv 6) pa_nil)))))) (s3 _ _ l1) (s3 _ _ o1) le back (fun H4 E Q s4 hE _ => ⟨_, rfl, .int 300, .int 2, .int 0, v, rfl, .inr (.inl ⟨⟨_, rfl, by decide, by decide⟩, ⟨_, rfl, by decide, by decide⟩, ⟨_, rfl, by decide, by decide⟩, k1 he _, rs_err hE⟩)⟩), fun N2 s6 => ?_⟩
        have z2 := back N2 s6
        replace tb2 := TabsExt tt2 z2
        refine ⟨rfl, ?_⟩
        refine ⟨_, rfl, ?_⟩
        refine w_ntt rfl ?_
        repeat array_get_dec
        exact ⟨⟨_, _, _, _, _, _, rfl⟩, (((xe2.trans x1).trans (ExtN.same z1)).trans x2).trans (ExtN.same z2), tb2⟩
      · refine w_if (fun z => by cases z) (fun _ => ?_)
        repeat array_get_dec
        exact ⟨⟨_, _, _, _, _, _, rfl⟩, (xe2.trans x1).trans (ExtN.same z1), tb2⟩
    · obtain ⟨⟨y1, y2, y3, y4, y5, y6, rfl⟩, xe2, tb2⟩ := z2
      repeat array_get_dec
      exact q _ ((ExtN.same u5).trans xe2) tb2
end
/-! ### k72: limits -/
open LamX
section
variable {P : Program} {w : World} {K : PySem.W.Frag} {mg : Str → Option Value} {base : Heap}
variable {a_InvalidBound a_LimitExceeded : Addr}
def rRepG : R2 := fun x y H Q => ∃ l k xs, x = .ref l ∧ y = .int k ∧ H l = some (.lst xs) ∧ -(2 ^ 63) ≤ k ∧ k < 2 ^ 63 ∧ xs.length * k.toNat ≤ sizeLine ∧ ∀ p H2, Same H H2 → H p = none → H2 p = some (.lst (List.replicate k.toNat xs).flatten) → Q (.ref p) H2
theorem op_repG {X : Cx} : OpR X (binaryOp .Mult) rRepG := fun pins s σ H x y v u Q I rx ry w => by
  rcases w with ⟨l, k, xs, e1, e2, h1, b1, b2, z, q⟩
  exact op_rep pins s σ H x y v u Q I rx ry ⟨l, k, xs, e1, e2, h1, b1, b2, z, fun p np => q p _ (Same.upd np) np upd_same⟩
theorem Tabs.stp {T : List (Addr × Str)} {s : Addr} {H H' : Hp} (t : Tabs T H) (q : Src H s) (a : Stp s H H') : Tabs T H' := fun p hp => by
  obtain ⟨ps, h1, h2, h3⟩ := t p hp
  refine ⟨ps, a.keep _ _ (q.ne h1 fun _ _ _ z => by cases z) h1, h2, fun pos cv hc => ?_⟩
  obtain ⟨c, e1, e2⟩ := h3 pos cv hc
  exact ⟨c, e1, a.keep _ _ (q.ne e2 fun _ _ _ z => by unfold CodeO at z; cases z) e2⟩
abbrev s__law_deep : Stmt := topS 29
abbrev n__law_deep : List Str := ["_law_found", "_law_turn_so"]
theorem c__law_deep : FnScope n__law_deep [] (defScope s__law_deep) := ⟨rfl, rfl, rfl, by decide +kernel, rfl, by decide +kernel, by decide +kernel⟩
/-- a tuple of its own -/
def p__law_deep : Sp := fun vs H Q _ => vs = [] ∧ ∀ p x H', Same H H' → H p = none → H' p = some (.tup [x]) → Q (.ref p) H'
set_option pp.maxSteps 300 in
theorem ok__law_deep  (D : Df K mg "_law_deep" s__law_deep []) (mrange : mg "range" = none) : Cl P w K mg base CX0 "_law_deep" 1 [] (p__law_deep) := by
  refine D.cl fun f fd F => F.ok c__law_deep (fun vs H Q E h => ?_) (fun cdv A outer s H vs Q E hr h => ?_)
  · obtain ⟨rfl, q⟩ := h
    rfl
  · obtain ⟨rfl, q⟩ := h
    have nd := c__law_deep.nd
    have hu : _ := hu_of hr
    refine ⟨_, (pss_cons (ps_set (i := 0) nd rfl (.inl rfl) (pe_tupG (pa_cons pe_int pa_nil))) (pss_cons (ps_for PassesOwn.never rfl (pi_range1 (by rfl) mrange (pa_cons pe_int pa_nil)) (pg_name (i := 1) nd rfl (.inl rfl)) (pss_one (ps_set (i := 0) nd rfl (.inl rfl) (pe_tupG (pa_cons (pv 0) pa_nil))))) (pss_one (ps_ret (pv 0))))), ?_⟩
    repeat array_get_dec
    refine fun p1 H1 s1 n1 e1 => ?_
    repeat array_get_dec
    refine ⟨by decide, by decide, for_range (lo := 0) (n := 1990) (fun i σ' H' => ∃ y p x, σ' = [some (.ref p), y] ∧ Same H H' ∧ H p = none ∧ H' p = some (.tup [x])) ⟨_, p1, _, rfl, s1, n1, e1⟩ (fun i σ' H' hi z => ?_) fun σ' H' z => ?_⟩
    · obtain ⟨y, p, x, rfl, sH, np, ep⟩ := z
      repeat array_get_dec
      refine fun p2 H2 s2 n2 e2 => ?_
      have np2 : H p2 = none := by
        cases z : H p2 with
        | none => rfl
        | some o => rw [sH _ _ z] at n2; cases n2
      exact ⟨_, p2, _, rfl, sH.trans s2, np2, e2⟩
    · obtain ⟨y, p, x, rfl, sH, np, ep⟩ := z
      repeat array_get_dec
      exact q p x H' sH np ep
abbrev s__law_all_say : Stmt := topS 30
abbrev n__law_all_say : List Str := ["_law_calls", "_law_ask"]
theorem c__law_all_say : FnScope n__law_all_say ["_law_calls"] (defScope s__law_all_say) := ⟨rfl, rfl, rfl, by decide +kernel, rfl, by decide +kernel, by decide +kernel⟩
theorem ref_at {ts : List Addr} {i : Nat} {x : V} (h : (ts.map V.ref)[i]? = some x) : ∃ t, ts[i]? = some t ∧ x = .ref t ∧ t ∈ ts := by
  rw [List.getElem?_map] at h
  obtain ⟨t, e, e2⟩ := Option.map_eq_some_iff.mp h
  exact ⟨t, e, e2.symm, List.mem_of_getElem? e⟩
/-- kept lambdas, what each one says -/
def p__law_all_say (P : Program) (w : World) (K : PySem.W.Frag) (mg : Str → Option Value) (base : Heap) (IB LE : Addr) (k : Nat) : Sp := fun vs H Q _ => ∃ (l : Addr) (fs : List Addr) (dues : List V), vs = [.ref l] ∧ SqL K H l (fs.map V.ref) ∧ fs.length = dues.length ∧ fs.length ≤ 1000 ∧ (∀ (i : Nat) (f : Addr) (due : V), fs[i]? = some f → dues[i]? = some due → Sayer P w K mg base IB LE k f H due) ∧
  ∀ p H', Same H H' → H p = none → H' p = some (.lst dues) → Q (.ref p) H'
set_option pp.maxSteps 300 in
theorem ok__law_all_say  (D : Df K mg "_law_all_say" s__law_all_say ["_law_calls"]) (C__law_said : Cl P w K mg base CX0 "_law_said" 8 ["_law_ask"] (p__law_said P w K mg base a_InvalidBound a_LimitExceeded 7)) : Cl P w K mg base CX0 "_law_all_say" 9 ["_law_calls"] (p__law_all_say P w K mg base a_InvalidBound a_LimitExceeded 7) := by
  refine D.cl fun f fd F => F.ok c__law_all_say (fun vs H Q E h => ?_) (fun cdv A outer s H vs Q E hr h => ?_)
  · obtain ⟨l, fs, dues, rfl, hl, len, few, rs, q⟩ := h
    rfl
  · obtain ⟨l, fs, dues, rfl, hl, len, few, rs, q⟩ := h
    have nd := c__law_all_say.nd
    have hu : _ := hu_of hr
    refine ⟨_, (pss_one (ps_ret (pe_lc (own := [("_law_ask", 1)]) (g := (gName 1)) (tt := tYes)  rfl nd (pi_list (pv 0)) (blkOk_by (own := [("_law_ask", 1)]) (N := n__law_all_say) (sc := defScope s__law_all_say) (by decide +kernel)) (fun _ _ _ _ _ => by exact (pg_name (i := 1) nd rfl (.inl rfl))) (fun _ _ _ _ _ => by exact pts_nil) (fun _ _ _ _ _ => by exact (pe_cl C__law_said (hr.mono (by decide)) (by rfl) pass0 (pa_cons (pv 1) pa_nil)))))), ?_⟩
    have lv : (fs.map V.ref).length = fs.length := List.length_map _
    repeat array_get_dec
    refine ⟨⟨_, hl⟩, fun D nD => ?_⟩
    refine lc_val (walk_list (xs := fs.map V.ref)) nD (by omega) (fun H4 s4 => s4.seq hl) dues (by omega) (fun i x y H4 H5 Kp hy s4 eD yi fin => ?_) fun H4 s4 eD => ?_
    · obtain ⟨rfl, hx⟩ := yi
      obtain ⟨g, eg, rfl, mg'⟩ := ref_at hx
      repeat array_get_dec
      exact ⟨g, y, rfl, (rs i g y eg hy).same s4, fun H6 s6 => fin _ s6⟩
    · exact q D H4 s4 nD eD
abbrev s__law_limits_right : Stmt := topS 32
abbrev n__law_limits_right : List Str := ["_law_purse_here", "_law_size", "_law_low", "_law_calls"]
theorem c__law_limits_right : FnScope n__law_limits_right ["_law_purse_here"] (defScope s__law_limits_right) := ⟨rfl, rfl, rfl, by decide +kernel, rfl, by decide +kernel, by decide +kernel⟩
/-- all but the source at s stands, tables aside -/
def Kp (s : Addr) (H H' : Hp) : Prop := ∀ b o, b ≠ s → H b = some o → (∀ ps, o ≠ .tbl ps) → H' b = some o
theorem Kp.trans {s : Addr} {H H1 H2 : Hp} (a : Kp s H H1) (b : Kp s H1 H2) : Kp s H H2 := fun c o n h z => b c o n (a c o n h z) z
theorem Kp.stp {s : Addr} {H H' : Hp} (a : Stp s H H') : Kp s H H' := fun c o n h _ => a.keep c o n h
theorem Kp.ext {s : Addr} {H H' : Hp} (a : ExtN H H') : Kp s H H' := fun c o _ h z => a c o h z
def p__law_limits_right (K : PySem.W.Frag) (T : List (Addr × Str)) : Sp := fun vs H Q _ => ∃ (s : Addr) (N : Nat), vs = [.ref s] ∧ SrcB N H s ∧ N < 2 ^ 39 ∧ Tabs T H ∧ ∀ H', Kp s H H' → Tabs T H' → Q (.bl true) H'
theorem not_cell {X : Cx} {σ : L2.St} {H : Hp} {p : Addr} (le : Lent X σ H) (n : H p = none) : p ∉ cellsOf X := fun m => by
  obtain ⟨v, o, _, e⟩ := le.all p m
  rw [n] at e
  cases e
set_option maxHeartbeats 4000000
theorem ok__law_limits_right {f cS PS : Addr} {kV doc pm ct oc : Value} {an od : Option Addr} {osl : Array (Option Value)} {T : List (Addr × Str)}
    (lk : K.lookup f = some ⟨oc, od, .func (PySem.W.fnOf "_law_limits_right" "_law_limits_right" (defArgs s__law_limits_right) (defBody s__law_limits_right) (defScope s__law_limits_right) .none kV doc pm an (.ref cS) ct), osl⟩) (hcd : PySem.W.codeIn K (.ref cS) "_law_limits_right" = true) (TB : TabB base mg cS PS)
    (hmT0 : (PS, (envOfC "_law_limits_right" (defScope s__law_limits_right) 0 0 (.ref cS)).qual ++ "<lambda>") ∈ T) (huT0 : ∀ p ∈ T, p.1 = PS → p.2 = (envOfC "_law_limits_right" (defScope s__law_limits_right) 0 0 (.ref cS)).qual ++ "<lambda>")
    (C_grid : Cl P w K mg base (L2.CX P w) "grid" 5 ["m", "n"] (p_grid K a_InvalidBound a_LimitExceeded)) (C_parabola : Cl P w K mg base (L2.CX P w) "parabola" 6 ["low", "high"] (p_parabola K a_InvalidBound a_LimitExceeded)) (C_zigzag : Cl P w K mg base (L2.CX P w) "zigzag" 5 ["m", "n", "height"] (p_zigzag K a_InvalidBound a_LimitExceeded)) (C_two_rows : Cl P w K mg base (L2.CX P w) "two_rows" 6 ["m", "n", "shift", "height"] (p_two_rows K a_InvalidBound a_LimitExceeded)) (C__law_all_say : Cl P w K mg base CX0 "_law_all_say" 9 ["_law_calls"] (p__law_all_say P w K mg base a_InvalidBound a_LimitExceeded 7)) (C__law_coin : Cl P w K mg base CX0 "_law_coin" 1 ["_law_purse_here", "_law_many"] (p__law_coin)) :
    FnOk P w K mg base CX0 10 f (PySem.W.fnOf "_law_limits_right" "_law_limits_right" (defArgs s__law_limits_right) (defBody s__law_limits_right) (defScope s__law_limits_right) .none kV doc pm an (.ref cS) ct) ["_law_purse_here"] (p__law_limits_right K T) := by
  refine fn_of lk hcd c__law_limits_right (fun vs H Q E h => ?_) (fun A outer s0 H vs Q E hr h => ?_)
  · obtain ⟨s, N, rfl, _⟩ := h
    rfl
  · obtain ⟨s, N, rfl, hs, hN, tb, q⟩ := h
    have nd := c__law_limits_right.nd
    obtain ⟨fGr, fdGr, GGr, gGr, kGr, bGr⟩ := C_grid.ex
    obtain ⟨fPa, fdPa, GPa, gPa, kPa, bPa⟩ := C_parabola.ex
    obtain ⟨fZi, fdZi, GZi, gZi, kZi, bZi⟩ := C_zigzag.ex
    obtain ⟨fTr, fdTr, GTr, gTr, kTr, bTr⟩ := C_two_rows.ex
    obtain ⟨fAs, fdAs, GAs, gAs, kAs, bAs⟩ := C__law_all_say.ex
    obtain ⟨fCo, fdCo, GCo, gCo, kCo, bCo⟩ := C__law_coin.ex
    let XY := cxOf CX0 P w K mg base n__law_limits_right "_law_limits_right" (defScope s__law_limits_right) f (.ref cS) A outer s0 H E
    let XX := XY.nox
    have hqq : XX.env.qual = (envOfC "_law_limits_right" (defScope s__law_limits_right) 0 0 (.ref cS)).qual := rfl
    have hmT : (PS, XX.env.qual ++ "<lambda>") ∈ T := by
      rw [hqq]
      exact hmT0
    have huT : ∀ p ∈ T, p.1 = PS → p.2 = XX.env.qual ++ "<lambda>" := by
      rw [hqq]
      exact huT0
    refine ⟨_, PSs.nox (X := XY) (pss_cons (ps_asg (pe_tupG (pa_cons (pe_op op_add pe_int (pe_call GCo (hr.mono (by decide)) (by rfl) gCo kCo bCo .nil pass0 (pa_cons (pv 0) (pa_cons pe_int pa_nil)))) (pa_cons (pe_op op_sub (pe_call GCo (hr.mono (by decide)) (by rfl) gCo kCo bCo .nil pass0 (pa_cons (pv 0) (pa_cons pe_int pa_nil))) pe_int) pa_nil))) (pg_tup (by rfl) (pgs_cons (pg_name (i := 1) nd rfl (.inr rfl)) (pgs_cons (pg_name (i := 2) nd rfl (.inr rfl)) pgs_nil)))) (pss_cons (ps_set (i := 3) nd rfl (.inl rfl) (pe_lstG (pa_cons (pe_lamN (X := XX) (T := T) TB rfl hmT huT (lamP_by (by show lamPB n__law_limits_right (defScope s__law_limits_right) _ = true; decide +kernel)) rfl) (pa_cons (pe_lamD (X := XX) (T := T) TB rfl hmT huT (lamP_by (by show lamPB n__law_limits_right (defScope s__law_limits_right) _ = true; decide +kernel)) rfl rfl pe_int) pa_nil)))) (pss_cons (ps_set (i := 3) nd rfl (.inl rfl) (pe_op op_catG (pv 3) (pe_lstG (pa_cons (pe_lamN (X := XX) (T := T) TB rfl hmT huT (lamP_by (by show lamPB n__law_limits_right (defScope s__law_limits_right) _ = true; decide +kernel)) rfl) (pa_cons (pe_lamD (X := XX) (T := T) TB rfl hmT huT (lamP_by (by show lamPB n__law_limits_right (defScope s__law_limits_right) _ = true; decide +kernel)) rfl rfl pe_int) pa_nil))))) (pss_cons (ps_if (pt_cmpR (op_neD hr.units) (pe_lend (X := XX) GAs (hr.mono (by decide)) (by rfl) gAs kAs bAs .nil (fun _ => rfl) (pa_cons (pv 3) pa_nil)) (pe_op op_repG (pe_lstG (pa_cons pe_non pa_nil)) pe_int) (nomark _)) (pss_one (ps_ret pe_bl)) pss_nil) (pss_cons (ps_set (i := 3) nd rfl (.inl rfl) (pe_lstG (pa_cons (pe_lamN (X := XX) (T := T) TB rfl hmT huT (lamP_by (by show lamPB n__law_limits_right (defScope s__law_limits_right) _ = true; decide +kernel)) rfl) (pa_cons (pe_lamD (X := XX) (T := T) TB rfl hmT huT (lamP_by (by show lamPB n__law_limits_right (defScope s__law_limits_right) _ = true; decide +kernel)) rfl rfl pe_int) pa_nil)))) (pss_cons (ps_set (i := 3) nd rfl (.inl rfl) (pe_op op_catG (pv 3) (pe_lstG (pa_cons (pe_lamN (X := XX) (T := T) TB rfl hmT huT (lamP_by (by show lamPB n__law_limits_right (defScope s__law_limits_right) _ = true; decide +kernel)) rfl) (pa_cons (pe_lamD (X := XX) (T := T) TB rfl hmT huT (lamP_by (by show lamPB n__law_limits_right (defScope s__law_limits_right) _ = true; decide +kernel)) rfl rfl pe_int) pa_nil))))) (pss_cons (ps_if (pt_cmpR (op_neD hr.units) (pe_lend (X := XX) GAs (hr.mono (by decide)) (by rfl) gAs kAs bAs .nil (fun _ => rfl) (pa_cons (pv 3) pa_nil)) (pe_op op_repG (pe_lstG (pa_cons pe_int pa_nil)) pe_int) (nomark _)) (pss_one (ps_ret pe_bl)) pss_nil) (pss_cons (ps_set (i := 3) nd rfl (.inl rfl) (pe_lstG (pa_cons (pe_lamN (X := XX) (T := T) TB rfl hmT huT (lamP_by (by show lamPB n__law_limits_right (defScope s__law_limits_right) _ = true; decide +kernel)) rfl) (pa_cons (pe_lamD (X := XX) (T := T) TB rfl hmT huT (lamP_by (by show lamPB n__law_limits_right (defScope s__law_limits_right) _ = true; decide +kernel)) rfl rfl pe_int) pa_nil)))) (pss_cons (ps_set (i := 3) nd rfl (.inl rfl) (pe_op op_catG (pv 3) (pe_lstG (pa_cons (pe_lamN (X := XX) (T := T) TB rfl hmT huT (lamP_by (by show lamPB n__law_limits_right (defScope s__law_limits_right) _ = true; decide +kernel)) rfl) (pa_cons (pe_lamD (X := XX) (T := T) TB rfl hmT huT (lamP_by (by show lamPB n__law_limits_right (defScope s__law_limits_right) _ = true; decide +kernel)) rfl rfl pe_int) pa_nil))))) (pss_one (ps_ret (pe_cmpR (op_eqD hr.units) (pe_lend (X := XX) GAs (hr.mono (by decide)) (by rfl) gAs kAs bAs .nil (fun _ => rfl) (pa_cons (pv 3) pa_nil)) (pe_op op_repG (pe_lstG (pa_cons (pe_op op_pow pe_int pe_int) pa_nil)) pe_int) (nomark _))))))))))))), ?_⟩
    repeat array_get_dec
    refine ⟨s, 100, N, rfl, hs, by omega, by decide, by decide, fun r1 H1 r10 r11 st1 sb1 => ?_⟩
    repeat array_get_dec
    refine ⟨s, 100, N + 1, rfl, sb1, by omega, by decide, by decide, fun r2 H2 r20 r21 st2 sb2 => ?_⟩
    replace tb := Tabs.stp (Tabs.stp tb hs.src st1) sb1.src st2
    have kp : Kp s H H2 := (Kp.stp st1).trans (Kp.stp st2)
    repeat array_get_dec
    refine fun tp H3 s3 n3 e3 => ?_
    replace tb := TabsExt tb s3
    replace kp := kp.trans (Kp.ext (ExtN.same s3))
    repeat array_get_dec
    have hp6 : (10 : Int) ^ (6 : Int).toNat = 1000000 := by decide
    refine ⟨tb, fun f11 c11 dd11 p11 v11 G11 x11 t11 n11 l11 o11 => ?_⟩
    replace tb := t11
    refine ⟨tb, fun f12 c12 tt12 u12 dd12 p12 v12 G12 ru12 x12 t12 n12 l12 o12 h12 => ?_⟩
    replace tb := t12
    refine ⟨by show 2 ≤ sizeLine; decide, fun L13 K13 y13 m13 e13 => ?_⟩
    replace tb := TabsExt tb y13
    repeat array_get_dec
    refine ⟨tb, fun f14 c14 dd14 p14 v14 G14 x14 t14 n14 l14 o14 => ?_⟩
    replace tb := t14
    refine ⟨tb, fun f15 c15 tt15 u15 dd15 p15 v15 G15 ru15 x15 t15 n15 l15 o15 h15 => ?_⟩
    replace tb := t15
    refine ⟨by show 2 ≤ sizeLine; decide, fun L16 K16 y16 m16 e16 => ?_⟩
    replace tb := TabsExt tb y16
    refine ⟨L13, L16, _, _, rfl, rfl, ((x14.trans x15).trans (ExtN.same y16)) _ _ e13 (fun ps z => nomatch z), e16, by show 4 ≤ sizeLine; decide, fun L17 K17 y17 m17 e17 => ?_⟩
    replace tb := TabsExt tb y17
    repeat array_get_dec
    refine fun H18 s2 xs le back => ⟨L17, [f11, f12, f14, f15], [(V.non), (V.non), (V.non), (V.non)], rfl, SqL.of (s2 _ _ e17), rfl, by show 4 ≤ 1000; decide, fun i f due hf hd => ?_, fun D18 N18 s18 n18 d18 => ?_⟩
    · match i, hf, hd with
      | 0, hf, hd => cases hf; cases hd; exact sayerN (X := XX) (H1 := K17) (tb := fun E => tCall (p_grid K a_InvalidBound a_LimitExceeded) [] E (tCons (tC (.int 1)) (tCons (tC (.int 200)) tNil))) xs (lamP_by (by show lamPB n__law_limits_right (defScope s__law_limits_right) _ = true; decide +kernel)) rfl (fun A outer s H E hr' => by exact (pe_call GGr (hr'.mono (by decide)) (by rfl) gGr kGr bGr .nil (passes_call (takes_of (E := E) rfl rfl rfl rfl) fun _ _ _ _ h => h) (pa_cons pe_int (pa_cons pe_int pa_nil)))) (s2 _ _ ((((((x12.trans (ExtN.same y13)).trans x14).trans x15).trans (ExtN.same y16)).trans (ExtN.same y17)) _ _ l11 lamO_tbl)) (s2 _ _ ((((((x12.trans (ExtN.same y13)).trans x14).trans x15).trans (ExtN.same y16)).trans (ExtN.same y17)) _ _ o11 codeO_ne)) le back (fun H4 E Q s4 hE hQ => ⟨_, _, rfl, .inr (.inr (.inr (⟨1, 200, rfl, rfl, by decide, by decide, by decide, by decide, by decide, fun p H5 zs s5 _ _ => hQ rfl _ _ s5⟩)))⟩)
      | 1, hf, hd => cases hf; cases hd; exact sayerD (X := XX) (H1 := K17) (tb := fun E => tCall (p_two_rows K a_InvalidBound a_LimitExceeded) [] E (tCons (tOp (rI0 fun i j => V.int (i - j)) (tC (.int 200)) (tVar 1)) (tCons (tVar 1) (tCons (tVar 1) (tCons (tOp (rI CPow fun i j => .int (i ^ j.toNat)) (tC (.int 10)) (tC (.int 6))) tNil))))) xs (lamP_by (by show lamPB n__law_limits_right (defScope s__law_limits_right) _ = true; decide +kernel)) rfl rfl rfl (fun A outer s H E hr' => by exact (pe_call GTr (hr'.mono (by decide)) (by rfl) gTr kTr bTr .nil (passes_call (takes_of (E := E) rfl rfl rfl rfl) fun _ _ _ _ h => h) (pa_cons (pe_op op_sub pe_int (pv 1)) (pa_cons (pv 1) (pa_cons (pv 1) (pa_cons (pe_op op_pow pe_int pe_int) pa_nil)))))) (s2 _ _ ((((((ExtN.same y13).trans x14).trans x15).trans (ExtN.same y16)).trans (ExtN.same y17)) _ _ l12 lamO_tbl)) (s2 _ _ ((((((ExtN.same y13).trans x14).trans x15).trans (ExtN.same y16)).trans (ExtN.same y17)) _ _ o12 codeO_ne)) (s2 _ _ ((((((ExtN.same y13).trans x14).trans x15).trans (ExtN.same y16)).trans (ExtN.same y17)) _ _ h12 lamO_tbl)) le back (fun H4 E Q s4 hE hQ => ⟨_, rfl, _, _, rfl, rfl, _, rfl, _, rfl, _, _, rfl, rfl, ⟨by decide, by decide, by decide⟩, _, _, _, _, rfl, .inr (.inr (.inr (.inr (⟨_, _, _, _, rfl, rfl, rfl, rfl, by omega, by omega, by omega, by omega, by omega, by decide, by decide, fun p H5 s5 => hQ rfl _ _ s5⟩))))⟩)
      | 2, hf, hd => cases hf; cases hd; exact sayerN (X := XX) (H1 := K17) (tb := fun E => tCall (p_parabola K a_InvalidBound a_LimitExceeded) [] E (tCons (tVar 2) (tCons (tOp (rI0 fun i j => V.int (i + j)) (tVar 2) (tC (.int 199))) tNil))) xs (lamP_by (by show lamPB n__law_limits_right (defScope s__law_limits_right) _ = true; decide +kernel)) rfl (fun A outer s H E hr' => by exact (pe_call GPa (hr'.mono (by decide)) (by rfl) gPa kPa bPa .nil (passes_call (takes_of (E := E) rfl rfl rfl rfl) fun _ _ _ _ h => h) (pa_cons (pv 2) (pa_cons (pe_op op_add (pv 2) pe_int) pa_nil)))) (s2 _ _ (((x15.trans (ExtN.same y16)).trans (ExtN.same y17)) _ _ l14 lamO_tbl)) (s2 _ _ (((x15.trans (ExtN.same y16)).trans (ExtN.same y17)) _ _ o14 codeO_ne)) le back (fun H4 E Q s4 hE hQ => ⟨_, rfl, _, rfl, _, _, rfl, rfl, _, _, rfl, .inr (.inr (.inr (⟨_, _, rfl, rfl, by omega, by omega, by omega, by omega, fun p H5 zs s5 _ _ => hQ rfl _ _ s5⟩)))⟩)
      | 3, hf, hd => cases hf; cases hd; exact sayerD (X := XX) (H1 := K17) (tb := fun E => tCall (p_zigzag K a_InvalidBound a_LimitExceeded) [] E (tCons (tC (.int 2)) (tCons (tC (.int 100)) (tCons (tC (.int 10101)) tNil)))) xs (lamP_by (by show lamPB n__law_limits_right (defScope s__law_limits_right) _ = true; decide +kernel)) rfl rfl rfl (fun A outer s H E hr' => by exact (pe_call GZi (hr'.mono (by decide)) (by rfl) gZi kZi bZi .nil (passes_call (takes_of (E := E) rfl rfl rfl rfl) fun _ _ _ _ h => h) (pa_cons pe_int (pa_cons pe_int (pa_cons pe_int pa_nil))))) (s2 _ _ (((ExtN.same y16).trans (ExtN.same y17)) _ _ l15 lamO_tbl)) (s2 _ _ (((ExtN.same y16).trans (ExtN.same y17)) _ _ o15 codeO_ne)) (s2 _ _ (((ExtN.same y16).trans (ExtN.same y17)) _ _ h15 lamO_tbl)) le back (fun H4 E Q s4 hE hQ => ⟨_, _, _, rfl, .inr (.inr (.inr (.inr (.inr (⟨2, 100, 10101, rfl, rfl, rfl, by decide, by decide, by decide, by decide, by decide, by decide, by decide, by decide, fun p H5 zs s5 _ _ => hQ rfl _ _ s5⟩)))))⟩)
    have z18 := back N18 s18
    have dd18 : delC (cellsOf XX) N18 D18 = some (.lst [(V.non), (V.non), (V.non), (V.non)]) := by rw [delC_out (not_cell le n18)]; exact d18
    replace tb := TabsExt tb z18
    replace kp := kp.trans (Kp.ext (((((((x11.trans x12).trans (ExtN.same y13)).trans x14).trans x15).trans (ExtN.same y16)).trans (ExtN.same y17)).trans (ExtN.same z18)))
    refine ⟨by show 1 ≤ sizeLine; decide, fun L19 K19 y19 m19 e19 => ?_⟩
    refine ⟨_, _, _, rfl, rfl, e19, by decide, by decide, by show 1 * 4 ≤ sizeLine; decide, fun La19 Ka19 ya19 ma19 ea19 => ?_⟩
    refine ⟨.list [PyData.none, PyData.none, PyData.none, PyData.none], .list [PyData.none, PyData.none, PyData.none, PyData.none], .lst (SqL.of (ya19 _ _ (y19 _ _ dd18))) (.cons .non (.cons .non (.cons .non (.cons .non .nil)))), .lst (SqL.of ea19) (.cons .non (.cons .non (.cons .non (.cons .non .nil)))), by decide +kernel, by decide +kernel, ?_⟩
    replace tb := TabsExt (TabsExt tb y19) ya19
    replace kp := kp.trans (Kp.ext ((ExtN.same y19).trans (ExtN.same ya19)))
    have eq19 : PyData.eqv (.list [PyData.none, PyData.none, PyData.none, PyData.none]) (.list [PyData.none, PyData.none, PyData.none, PyData.none]) = true := by simp [PyData.eqv, PyData.eqvAll]
    rw [eq19]
    refine ⟨_, rfl, ?_⟩
    refine w_if (fun z => by cases z) (fun _ => ?_)
    repeat array_get_dec
    refine ⟨tb, fun f21 c21 dd21 p21 v21 G21 x21 t21 n21 l21 o21 => ?_⟩
    replace tb := t21
    refine ⟨tb, fun f22 c22 tt22 u22 dd22 p22 v22 G22 ru22 x22 t22 n22 l22 o22 h22 => ?_⟩
    replace tb := t22
    refine ⟨by show 2 ≤ sizeLine; decide, fun L23 K23 y23 m23 e23 => ?_⟩
    replace tb := TabsExt tb y23
    repeat array_get_dec
    refine ⟨tb, fun f24 c24 dd24 p24 v24 G24 x24 t24 n24 l24 o24 => ?_⟩
    replace tb := t24
    refine ⟨tb, fun f25 c25 tt25 u25 dd25 p25 v25 G25 ru25 x25 t25 n25 l25 o25 h25 => ?_⟩
    replace tb := t25
    refine ⟨by show 2 ≤ sizeLine; decide, fun L26 K26 y26 m26 e26 => ?_⟩
    replace tb := TabsExt tb y26
    refine ⟨L23, L26, _, _, rfl, rfl, ((x24.trans x25).trans (ExtN.same y26)) _ _ e23 (fun ps z => nomatch z), e26, by show 4 ≤ sizeLine; decide, fun L27 K27 y27 m27 e27 => ?_⟩
    replace tb := TabsExt tb y27
    repeat array_get_dec
    refine fun H28 s2 xs le back => ⟨L27, [f21, f22, f24, f25], [(V.int 200), (V.int 200), (V.int 200), (V.int 200)], rfl, SqL.of (s2 _ _ e27), rfl, by show 4 ≤ 1000; decide, fun i f due hf hd => ?_, fun D28 N28 s28 n28 d28 => ?_⟩
    · match i, hf, hd with
      | 0, hf, hd => cases hf; cases hd; exact sayerN (X := XX) (H1 := K27) (tb := fun E => tCall (p_grid K a_InvalidBound a_LimitExceeded) [] E (tCons (tC (.int 3)) (tCons (tC (.int 67)) tNil))) xs (lamP_by (by show lamPB n__law_limits_right (defScope s__law_limits_right) _ = true; decide +kernel)) rfl (fun A outer s H E hr' => by exact (pe_call GGr (hr'.mono (by decide)) (by rfl) gGr kGr bGr .nil (passes_call (takes_of (E := E) rfl rfl rfl rfl) fun _ _ _ _ h => h) (pa_cons pe_int (pa_cons pe_int pa_nil)))) (s2 _ _ ((((((x22.trans (ExtN.same y23)).trans x24).trans x25).trans (ExtN.same y26)).trans (ExtN.same y27)) _ _ l21 lamO_tbl)) (s2 _ _ ((((((x22.trans (ExtN.same y23)).trans x24).trans x25).trans (ExtN.same y26)).trans (ExtN.same y27)) _ _ o21 codeO_ne)) le back (fun H4 E Q s4 hE hQ => ⟨_, _, rfl, .inr (.inr (.inl ⟨3, 67, rfl, rfl, ⟨_, rfl, by decide, by decide⟩, ⟨_, rfl, by decide, by decide⟩, by decide, rs_errL hE⟩))⟩)
      | 1, hf, hd => cases hf; cases hd; exact sayerD (X := XX) (H1 := K27) (tb := fun E => tCall (p_two_rows K a_InvalidBound a_LimitExceeded) [] E (tCons (tOp (rI0 fun i j => V.int (i - j)) (tC (.int 201)) (tVar 1)) (tCons (tVar 1) (tCons (tC (.int 0)) (tCons (tOp (rI CPow fun i j => .int (i ^ j.toNat)) (tC (.int 10)) (tC (.int 30))) tNil))))) xs (lamP_by (by show lamPB n__law_limits_right (defScope s__law_limits_right) _ = true; decide +kernel)) rfl rfl rfl (fun A outer s H E hr' => by exact (pe_call GTr (hr'.mono (by decide)) (by rfl) gTr kTr bTr .nil (passes_call (takes_of (E := E) rfl rfl rfl rfl) fun _ _ _ _ h => h) (pa_cons (pe_op op_sub pe_int (pv 1)) (pa_cons (pv 1) (pa_cons pe_int (pa_cons (pe_op op_pow pe_int pe_int) pa_nil)))))) (s2 _ _ ((((((ExtN.same y23).trans x24).trans x25).trans (ExtN.same y26)).trans (ExtN.same y27)) _ _ l22 lamO_tbl)) (s2 _ _ ((((((ExtN.same y23).trans x24).trans x25).trans (ExtN.same y26)).trans (ExtN.same y27)) _ _ o22 codeO_ne)) (s2 _ _ ((((((ExtN.same y23).trans x24).trans x25).trans (ExtN.same y26)).trans (ExtN.same y27)) _ _ h22 lamO_tbl)) le back (fun H4 E Q s4 hE hQ => ⟨_, rfl, _, _, rfl, rfl, _, rfl, _, _, rfl, rfl, ⟨by decide, by decide, by decide⟩, _, _, _, _, rfl, .inr (.inr (.inl ⟨_, _, _, _, rfl, rfl, rfl, rfl, ⟨_, rfl, by omega, by omega⟩, ⟨_, rfl, by omega, by omega⟩, ⟨_, rfl, by decide, by decide⟩, by decide, by omega, rs_errL hE⟩))⟩)
      | 2, hf, hd => cases hf; cases hd; exact sayerN (X := XX) (H1 := K27) (tb := fun E => tCall (p_parabola K a_InvalidBound a_LimitExceeded) [] E (tCons (tVar 2) (tCons (tOp (rI0 fun i j => V.int (i + j)) (tVar 2) (tC (.int 200))) tNil))) xs (lamP_by (by show lamPB n__law_limits_right (defScope s__law_limits_right) _ = true; decide +kernel)) rfl (fun A outer s H E hr' => by exact (pe_call GPa (hr'.mono (by decide)) (by rfl) gPa kPa bPa .nil (passes_call (takes_of (E := E) rfl rfl rfl rfl) fun _ _ _ _ h => h) (pa_cons (pv 2) (pa_cons (pe_op op_add (pv 2) pe_int) pa_nil)))) (s2 _ _ (((x25.trans (ExtN.same y26)).trans (ExtN.same y27)) _ _ l24 lamO_tbl)) (s2 _ _ (((x25.trans (ExtN.same y26)).trans (ExtN.same y27)) _ _ o24 codeO_ne)) le back (fun H4 E Q s4 hE hQ => ⟨_, rfl, _, rfl, _, _, rfl, rfl, _, _, rfl, .inr (.inl ⟨_, _, rfl, rfl, by omega, by omega, by omega, by omega, rs_errL hE⟩)⟩)
      | 3, hf, hd => cases hf; cases hd; exact sayerD (X := XX) (H1 := K27) (tb := fun E => tCall (p_zigzag K a_InvalidBound a_LimitExceeded) [] E (tCons (tC (.int 67)) (tCons (tC (.int 3)) (tCons (tC (.int 2)) tNil)))) xs (lamP_by (by show lamPB n__law_limits_right (defScope s__law_limits_right) _ = true; decide +kernel)) rfl rfl rfl (fun A outer s H E hr' => by exact (pe_call GZi (hr'.mono (by decide)) (by rfl) gZi kZi bZi .nil (passes_call (takes_of (E := E) rfl rfl rfl rfl) fun _ _ _ _ h => h) (pa_cons pe_int (pa_cons pe_int (pa_cons pe_int pa_nil))))) (s2 _ _ (((ExtN.same y26).trans (ExtN.same y27)) _ _ l25 lamO_tbl)) (s2 _ _ (((ExtN.same y26).trans (ExtN.same y27)) _ _ o25 codeO_ne)) (s2 _ _ (((ExtN.same y26).trans (ExtN.same y27)) _ _ h25 lamO_tbl)) le back (fun H4 E Q s4 hE hQ => ⟨_, _, _, rfl, .inr (.inr (.inr (.inl ⟨67, 3, 2, rfl, rfl, rfl, ⟨_, rfl, by decide, by decide⟩, ⟨_, rfl, by decide, by decide⟩, by decide, by decide, by decide, rs_errL hE⟩)))⟩)
    have z28 := back N28 s28
    have dd28 : delC (cellsOf XX) N28 D28 = some (.lst [(V.int 200), (V.int 200), (V.int 200), (V.int 200)]) := by rw [delC_out (not_cell le n28)]; exact d28
    replace tb := TabsExt tb z28
    replace kp := kp.trans (Kp.ext (((((((x21.trans x22).trans (ExtN.same y23)).trans x24).trans x25).trans (ExtN.same y26)).trans (ExtN.same y27)).trans (ExtN.same z28)))
    refine ⟨by show 1 ≤ sizeLine; decide, fun L29 K29 y29 m29 e29 => ?_⟩
    refine ⟨_, _, _, rfl, rfl, e29, by decide, by decide, by show 1 * 4 ≤ sizeLine; decide, fun La29 Ka29 ya29 ma29 ea29 => ?_⟩
    refine ⟨.list [PyData.int 200, PyData.int 200, PyData.int 200, PyData.int 200], .list [PyData.int 200, PyData.int 200, PyData.int 200, PyData.int 200], .lst (SqL.of (ya29 _ _ (y29 _ _ dd28))) (.cons (.int _) (.cons (.int _) (.cons (.int _) (.cons (.int _) .nil)))), .lst (SqL.of ea29) (.cons (.int _) (.cons (.int _) (.cons (.int _) (.cons (.int _) .nil)))), by decide +kernel, by decide +kernel, ?_⟩
    replace tb := TabsExt (TabsExt tb y29) ya29
    replace kp := kp.trans (Kp.ext ((ExtN.same y29).trans (ExtN.same ya29)))
    have eq29 : PyData.eqv (.list [PyData.int 200, PyData.int 200, PyData.int 200, PyData.int 200]) (.list [PyData.int 200, PyData.int 200, PyData.int 200, PyData.int 200]) = true := by simp [PyData.eqv, PyData.eqvAll]
    rw [eq29]
    refine ⟨_, rfl, ?_⟩
    refine w_if (fun z => by cases z) (fun _ => ?_)
    repeat array_get_dec
    refine ⟨tb, fun f31 c31 dd31 p31 v31 G31 x31 t31 n31 l31 o31 => ?_⟩
    replace tb := t31
    refine ⟨tb, fun f32 c32 tt32 u32 dd32 p32 v32 G32 ru32 x32 t32 n32 l32 o32 h32 => ?_⟩
    replace tb := t32
    refine ⟨by show 2 ≤ sizeLine; decide, fun L33 K33 y33 m33 e33 => ?_⟩
    replace tb := TabsExt tb y33
    repeat array_get_dec
    refine ⟨tb, fun f34 c34 dd34 p34 v34 G34 x34 t34 n34 l34 o34 => ?_⟩
    replace tb := t34
    refine ⟨tb, fun f35 c35 tt35 u35 dd35 p35 v35 G35 ru35 x35 t35 n35 l35 o35 h35 => ?_⟩
    replace tb := t35
    refine ⟨by show 2 ≤ sizeLine; decide, fun L36 K36 y36 m36 e36 => ?_⟩
    replace tb := TabsExt tb y36
    refine ⟨L33, L36, _, _, rfl, rfl, ((x34.trans x35).trans (ExtN.same y36)) _ _ e33 (fun ps z => nomatch z), e36, by show 4 ≤ sizeLine; decide, fun L37 K37 y37 m37 e37 => ?_⟩
    replace tb := TabsExt tb y37
    repeat array_get_dec
    refine fun H38 s2 xs le back => ⟨L37, [f31, f32, f34, f35], [(V.int 1000000), (V.int 1000000), (V.int 1000000), (V.int 1000000)], rfl, SqL.of (s2 _ _ e37), rfl, by show 4 ≤ 1000; decide, fun i f due hf hd => ?_, fun D38 N38 s38 n38 d38 => ?_⟩
    · match i, hf, hd with
      | 0, hf, hd => cases hf; cases hd; exact sayerN (X := XX) (H1 := K37) (tb := fun E => tCall (p_two_rows K a_InvalidBound a_LimitExceeded) [] E (tCons (tC (.int 2)) (tCons (tC (.int 2)) (tCons (tOp (rI CPow fun i j => .int (i ^ j.toNat)) (tC (.int 10)) (tC (.int 6))) (tCons (tC (.int 3)) tNil))))) xs (lamP_by (by show lamPB n__law_limits_right (defScope s__law_limits_right) _ = true; decide +kernel)) rfl (fun A outer s H E hr' => by exact (pe_call GTr (hr'.mono (by decide)) (by rfl) gTr kTr bTr .nil (passes_call (takes_of (E := E) rfl rfl rfl rfl) fun _ _ _ _ h => h) (pa_cons pe_int (pa_cons pe_int (pa_cons (pe_op op_pow pe_int pe_int) (pa_cons pe_int pa_nil)))))) (s2 _ _ ((((((x32.trans (ExtN.same y33)).trans x34).trans x35).trans (ExtN.same y36)).trans (ExtN.same y37)) _ _ l31 lamO_tbl)) (s2 _ _ ((((((x32.trans (ExtN.same y33)).trans x34).trans x35).trans (ExtN.same y36)).trans (ExtN.same y37)) _ _ o31 codeO_ne)) le back (fun H4 E Q s4 hE hQ => ⟨_, _, rfl, rfl, ⟨by decide, by decide, by decide⟩, _, _, _, _, rfl, .inr (.inr (.inr (.inl ⟨_, _, _, _, rfl, rfl, rfl, rfl, ⟨_, rfl, by decide, by decide⟩, ⟨_, rfl, by decide, by decide⟩, ⟨_, rfl, by decide, by decide⟩, by decide, by decide, .inl (by decide), rs_errL hE⟩)))⟩)
      | 1, hf, hd => cases hf; cases hd; exact sayerD (X := XX) (H1 := K37) (tb := fun E => tCall (p_two_rows K a_InvalidBound a_LimitExceeded) [] E (tCons (tC (.int 1)) (tCons (tC (.int 1)) (tCons (tC (.int 0)) (tCons (tOp (rI0 fun i j => V.int (i + j)) (tOp (rI CPow fun i j => .int (i ^ j.toNat)) (tC (.int 10)) (tC (.int 6))) (tVar 1)) tNil))))) xs (lamP_by (by show lamPB n__law_limits_right (defScope s__law_limits_right) _ = true; decide +kernel)) rfl rfl rfl (fun A outer s H E hr' => by exact (pe_call GTr (hr'.mono (by decide)) (by rfl) gTr kTr bTr .nil (passes_call (takes_of (E := E) rfl rfl rfl rfl) fun _ _ _ _ h => h) (pa_cons pe_int (pa_cons pe_int (pa_cons pe_int (pa_cons (pe_op op_add (pe_op op_pow pe_int pe_int) (pv 1)) pa_nil)))))) (s2 _ _ ((((((ExtN.same y33).trans x34).trans x35).trans (ExtN.same y36)).trans (ExtN.same y37)) _ _ l32 lamO_tbl)) (s2 _ _ ((((((ExtN.same y33).trans x34).trans x35).trans (ExtN.same y36)).trans (ExtN.same y37)) _ _ o32 codeO_ne)) (s2 _ _ ((((((ExtN.same y33).trans x34).trans x35).trans (ExtN.same y36)).trans (ExtN.same y37)) _ _ h32 lamO_tbl)) le back (fun H4 E Q s4 hE hQ => ⟨_, _, rfl, rfl, ⟨by decide, by decide, by decide⟩, _, rfl, _, _, rfl, rfl, _, _, _, _, rfl, .inr (.inr (.inr (.inl ⟨_, _, _, _, rfl, rfl, rfl, rfl, ⟨_, rfl, by decide, by decide⟩, ⟨_, rfl, by decide, by decide⟩, ⟨_, rfl, by decide, by decide⟩, by rw [hp6]; omega, by decide, .inr (by rw [hp6]; omega), rs_errL hE⟩)))⟩)
      | 2, hf, hd => cases hf; cases hd; exact sayerN (X := XX) (H1 := K37) (tb := fun E => tCall (p_parabola K a_InvalidBound a_LimitExceeded) [] E (tCons (tC (.int 1000)) (tCons (tC (.int 1001)) tNil))) xs (lamP_by (by show lamPB n__law_limits_right (defScope s__law_limits_right) _ = true; decide +kernel)) rfl (fun A outer s H E hr' => by exact (pe_call GPa (hr'.mono (by decide)) (by rfl) gPa kPa bPa .nil (passes_call (takes_of (E := E) rfl rfl rfl rfl) fun _ _ _ _ h => h) (pa_cons pe_int (pa_cons pe_int pa_nil)))) (s2 _ _ (((x35.trans (ExtN.same y36)).trans (ExtN.same y37)) _ _ l34 lamO_tbl)) (s2 _ _ (((x35.trans (ExtN.same y36)).trans (ExtN.same y37)) _ _ o34 codeO_ne)) le back (fun H4 E Q s4 hE hQ => ⟨_, _, rfl, .inr (.inr (.inl ⟨_, _, rfl, rfl, by decide, by decide, by decide, by decide, by decide, rs_errL hE⟩))⟩)
      | 3, hf, hd => cases hf; cases hd; exact sayerD (X := XX) (H1 := K37) (tb := fun E => tCall (p_zigzag K a_InvalidBound a_LimitExceeded) [] E (tCons (tC (.int 2)) (tCons (tC (.int 2)) (tCons (tOp (rI0 fun i j => V.int (i + j)) (tOp (rI CPow fun i j => .int (i ^ j.toNat)) (tC (.int 10)) (tC (.int 6))) (tVar 1)) tNil)))) xs (lamP_by (by show lamPB n__law_limits_right (defScope s__law_limits_right) _ = true; decide +kernel)) rfl rfl rfl (fun A outer s H E hr' => by exact (pe_call GZi (hr'.mono (by decide)) (by rfl) gZi kZi bZi .nil (passes_call (takes_of (E := E) rfl rfl rfl rfl) fun _ _ _ _ h => h) (pa_cons pe_int (pa_cons pe_int (pa_cons (pe_op op_add (pe_op op_pow pe_int pe_int) (pv 1)) pa_nil))))) (s2 _ _ (((ExtN.same y36).trans (ExtN.same y37)) _ _ l35 lamO_tbl)) (s2 _ _ (((ExtN.same y36).trans (ExtN.same y37)) _ _ o35 codeO_ne)) (s2 _ _ (((ExtN.same y36).trans (ExtN.same y37)) _ _ h35 lamO_tbl)) le back (fun H4 E Q s4 hE hQ => ⟨_, _, rfl, rfl, ⟨by decide, by decide, by decide⟩, _, rfl, _, _, rfl, rfl, _, _, _, rfl, .inr (.inr (.inr (.inr (.inl ⟨2, 2, _, rfl, rfl, rfl, ⟨_, rfl, by decide, by decide⟩, ⟨_, rfl, by decide, by decide⟩, by rw [hp6]; omega, by rw [hp6]; omega, by decide, by rw [hp6]; omega, rs_errL hE⟩))))⟩)
    have z38 := back N38 s38
    have dd38 : delC (cellsOf XX) N38 D38 = some (.lst [(V.int 1000000), (V.int 1000000), (V.int 1000000), (V.int 1000000)]) := by rw [delC_out (not_cell le n38)]; exact d38
    replace tb := TabsExt tb z38
    replace kp := kp.trans (Kp.ext (((((((x31.trans x32).trans (ExtN.same y33)).trans x34).trans x35).trans (ExtN.same y36)).trans (ExtN.same y37)).trans (ExtN.same z38)))
    repeat array_get_dec
    refine fun L39 K39 y39 m39 e39 => ?_
    replace e39 : K39 L39 = some (.lst [V.int 1000000]) := by rw [e39]; exact congrArg (fun n => some (HO.lst [V.int n])) hp6
    refine ⟨_, _, _, rfl, rfl, e39, by decide, by decide, by show 1 * 4 ≤ sizeLine; decide, fun La39 Ka39 ya39 ma39 ea39 => ?_⟩
    refine ⟨.list [PyData.int 1000000, PyData.int 1000000, PyData.int 1000000, PyData.int 1000000], .list [PyData.int 1000000, PyData.int 1000000, PyData.int 1000000, PyData.int 1000000], .lst (SqL.of (ya39 _ _ (y39 _ _ dd38))) (.cons (.int _) (.cons (.int _) (.cons (.int _) (.cons (.int _) .nil)))), .lst (SqL.of ea39) (.cons (.int _) (.cons (.int _) (.cons (.int _) (.cons (.int _) .nil)))), by decide +kernel, by decide +kernel, ?_⟩
    replace tb := TabsExt (TabsExt tb y39) ya39
    replace kp := kp.trans (Kp.ext ((ExtN.same y39).trans (ExtN.same ya39)))
    have eq39 : PyData.eqv (.list [PyData.int 1000000, PyData.int 1000000, PyData.int 1000000, PyData.int 1000000]) (.list [PyData.int 1000000, PyData.int 1000000, PyData.int 1000000, PyData.int 1000000]) = true := by simp [PyData.eqv, PyData.eqvAll]
    rw [eq39]
    exact q _ kp tb
end
/-! ### k72: the law -/
open LamX
section
variable {P : Program} {w : World} {K : PySem.W.Frag} {mg : Str → Option Value} {base : Heap}
variable {a_InvalidBound a_LimitExceeded : Addr}
abbrev s_law : Stmt := topS 33
abbrev n_law : List Str := ["_law_script", "_law_figure", "_law_purse_here", "_law_some", "_law_odd"]
theorem c_law : FnScope n_law ["_law_script"] (defScope s_law) := ⟨rfl, rfl, rfl, by decide +kernel, rfl, by decide +kernel, by decide +kernel⟩
theorem passX {P : Program} {w : World} {X : Cx} : Passes (L2.CX P w) X E0 := fun _ _ _ _ _ _ _ ⟨_, _, _, _, _, _, _, _, _, _, _, _, h⟩ => h.elim
variable {T : List (Addr × Str)}
def p_law (K : PySem.W.Frag) (T : List (Addr × Str)) : Sp := fun vs H Q _ => ∃ (a : Addr) (ns : List Int), vs = [.ref a] ∧ SqL K H a (ns.map V.int) ∧ ns.length ≤ 63 ∧ Tabs T H ∧ ∀ H', Q (.bl true) H'
theorem cut_ints {ns : List Int} {lo hi : Option Int} {x : V} (h : x ∈ cutV (ns.map V.int) lo hi) : ∃ n : Int, x = .int n := by
  have m := List.mem_of_mem_drop (List.mem_of_mem_take h)
  obtain ⟨n, _, e⟩ := List.mem_map.mp m
  exact ⟨n, e.symm⟩
theorem no_list {H : Hp} {p : Addr} {xs : List V} (h : H p = some (.lst xs)) : NoNum K H (.ref p) := .inl ⟨.type "list", .base (.lst h), kit_ty (by decide +kernel)⟩
theorem no_tup {H : Hp} {p : Addr} {xs : List V} (h : H p = some (.tup xs)) : NoNum K H (.ref p) := .inl ⟨.type "tuple", .base (.tup h), kit_ty (by decide +kernel)⟩
set_option pp.maxSteps 300 in
theorem ok_law  {f : Addr} {fd : FuncData} (F : Fun K "law" "law" s_law f fd) (C_parabola : Cl P w K mg base (L2.CX P w) "parabola" 6 ["low", "high"] (p_parabola K a_InvalidBound a_LimitExceeded)) (C_zigzag : Cl P w K mg base (L2.CX P w) "zigzag" 5 ["m", "n", "height"] (p_zigzag K a_InvalidBound a_LimitExceeded)) (C__law_purse : Cl P w K mg base CX0 "_law_purse" 1 ["_law_figure"] (p__law_purse)) (C__law_pick : Cl P w K mg base CX0 "_law_pick" 2 ["_law_purse_here", "_law_some"] (p__law_pick)) (C__law_deep : Cl P w K mg base CX0 "_law_deep" 1 [] (p__law_deep)) (C__law_words_right : Cl P w K mg base CX0 "_law_words_right" 9 ["_law_odd"] (p__law_words_right K T)) (C__law_limits_right : Cl P w K mg base CX0 "_law_limits_right" 10 ["_law_purse_here"] (p__law_limits_right K T)) (mlen : mg "len" = none) : FnOk P w K mg base CX0 11 f fd ["_law_script"] (p_law K T) := by
  refine F.ok c_law (fun vs H Q E h => ?_) (fun cdv A outer s H vs Q E hr h => ?_)
  · obtain ⟨a, ns, rfl, hS, hlen, tb, q⟩ := h
    rfl
  · obtain ⟨a, ns, rfl, hS, hlen, tb, q⟩ := h
    have nd := c_law.nd
    have hu : _ := hu_of hr
    refine ⟨_, (pss_cons (ps_for PassesOwn.never rfl (pi_list (pe_op op_catG (pe_slice sl_listG (pv 0) po_none (po_some pe_int)) (pe_lstG (pa_cons pe_int pa_nil)))) (pg_name (i := 1) nd rfl (.inl rfl)) (pss_cons (ps_set (i := 2) nd rfl (.inl rfl) (pe_cl C__law_purse (hr.mono (by decide)) (by rfl) pass0 (pa_cons (pv 1) pa_nil))) (pss_cons (ps_set (i := 3) nd rfl (.inl rfl) (pe_lstG (pa_cons pe_non (pa_cons pe_str (pa_cons pe_bl (pa_cons (pe_lstG (pa_cons pe_int pa_nil)) (pa_cons (pe_tupG (pa_cons pe_int pa_nil)) (pa_cons pe_dicG (pa_cons (pe_op op_add (pe_op op_pow pe_int pe_int) pe_int) (pa_cons (pe_op op_sub (pe_un un_neg (pe_op op_pow pe_int pe_int)) pe_int) (pa_cons (pe_op op_pow pe_int pe_int) (pa_cons (pe_cl0 C__law_deep (hr.mono (by decide)) (by rfl) pass0) pa_nil)))))))))))) (pss_cons (ps_set (i := 4) nd rfl (.inl rfl) (pe_cl C__law_pick (hr.mono (by decide)) (by rfl) pass0 (pa_cons (pv 2) (pa_cons (pv 3) pa_nil)))) (pss_one (ps_if (PW.pt (pw_or (pt_not (pt_val (pe_cl C__law_words_right (hr.mono (by decide)) (by rfl) pass0 (pa_cons (pv 4) pa_nil)))) (pw_or1 (pt_not (pt_val (pe_cl C__law_limits_right (hr.mono (by decide)) (by rfl) pass0 (pa_cons (pv 2) pa_nil))))))) (pss_one (ps_ret pe_bl)) pss_nil)))))) (pss_one (ps_ret (pe_and (pe_cmpR op_eq (pe_callB call_len_seq (by rfl) mlen (by decide +kernel) (pa_cons (pe_cl C_zigzag (hr.mono (by decide)) (by rfl) passX (pa_cons pe_int (pa_cons pe_int (pa_cons pe_int pa_nil)))) pa_nil)) pe_int (nomark _)) (pe_one (pe_cmpR op_eq (pe_callB call_len_seq (by rfl) mlen (by decide +kernel) (pa_cons (pe_cl C_parabola (hr.mono (by decide)) (by rfl) passX (pa_cons pe_neg (pa_cons pe_neg pa_nil))) pa_nil)) pe_int (nomark _))))))), ?_⟩
    repeat array_get_dec
    refine ⟨a, ns.map V.int, rfl, hS, fun p1 H1 s1 f1 e1 => ?_⟩
    repeat array_get_dec
    refine fun p2 H2 s2 f2 e2 => ?_
    have lc : (cutV (ns.map V.int) none (some 4)).length ≤ ns.length := by
      have z := cutV_length (ns.map V.int) none (some 4)
      rwa [List.length_map] at z
    refine ⟨p1, p2, _, _, rfl, rfl, s2 _ _ e1, e2, Nat.le_trans (Nat.add_le_add_right (Nat.le_trans lc hlen) _) (by decide), fun p3 H3 s3 f3 e3 => ?_⟩
    repeat array_get_dec
    replace tb := TabsExt (TabsExt (TabsExt tb s1) s2) s3
    refine ⟨⟨_, SqL.of e3⟩, for_list (K := K) (a := p3) (xs := cutV (ns.map V.int) none (some 4) ++ [.int 0]) (fun _ σ' H' => (∃ y1 y2 y3 y4, σ' = [some (.ref a), y1, y2, y3, y4]) ∧ H' p3 = some (.lst (cutV (ns.map V.int) none (some 4) ++ [.int 0])) ∧ Tabs T H') ⟨⟨_, _, _, _, rfl⟩, e3, tb⟩ (fun _ σ' H' _ z => SqL.of z.2.1) (fun i x σ' H' hx z => ?_) fun σ' H' z => ?_⟩
    · obtain ⟨⟨y1, y2, y3, y4, rfl⟩, e3', tb1⟩ := z
      obtain ⟨n, rfl⟩ : ∃ n : Int, x = .int n := by
        rcases List.mem_append.mp (List.mem_of_getElem? hx) with m | m
        · exact cut_ints m
        · exact ⟨0, List.mem_singleton.mp m⟩
      repeat array_get_dec
      refine fun s H4 s4 f4 b4 => ?_
      have ne : p3 ≠ s := ne_of_none e3' f4
      repeat array_get_dec
      refine fun q1 A1 u1 m1 a1 => ?_
      repeat array_get_dec
      refine fun q2 A2 u2 m2 a2 => ?_
      repeat array_get_dec
      refine fun q3 A3 u3 m3 a3 => ?_
      repeat array_get_dec
      refine fun pd xd A4 u4 m4 a4 => ?_
      repeat array_get_dec
      refine fun Ls A5 u5 m5 a5 => ?_
      have hq : Same H4 A5 := ((((u1.trans u2).trans u3).trans u4).trans u5)
      have tb5 : Tabs T A5 := TabsExt (TabsExt tb1 s4) hq
      have b5 : SrcB 3 A5 s := b4.same hq
      have nL : Ls ≠ s := (b4.same ((((u1.trans u2).trans u3).trans u4))).ne m5
      repeat array_get_dec
      refine ⟨s, Ls, _, 3, rfl, b5, by decide, a5, nL, by simp, by simp, fun xo A6 hx st6 sb6 => ?_⟩
      have tb6 : Tabs T A6 := Tabs.stp tb5 b5.src st6
      have odd : OddW K A6 xo := by
        have kL : A6 q1 = some (HO.lst [V.int 3]) := st6.keep _ _ (b4.ne m1) ((((u2.trans u3).trans u4).trans u5) _ _ a1)
        have kT : A6 q2 = some (HO.tup [V.int 3]) := st6.keep _ _ ((b4.same u1).ne m2) (((u3.trans u4).trans u5) _ _ a2)
        have kD : A6 q3 = some (HO.dK []) := st6.keep _ _ ((b4.same (u1.trans u2)).ne m3) ((u4.trans u5) _ _ a3)
        have kP : A6 pd = some (HO.tup [xd]) := st6.keep _ _ ((b4.same ((u1.trans u2).trans u3)).ne m4) (u5 _ _ a4)
        simp only [List.mem_cons, List.not_mem_nil, or_false] at hx
        rcases hx with rfl | rfl | rfl | rfl | rfl | rfl | rfl | rfl | rfl | rfl
        · exact .inl (.inl ⟨.type "NoneType", .base .non, kit_ty (by decide +kernel)⟩)
        · exact .inl (.inl ⟨.type "str", .base (.str _), kit_ty (by decide +kernel)⟩)
        · exact .inl (.inr ⟨true, rfl⟩)
        · exact .inl (no_list kL)
        · exact .inl (no_tup kT)
        · exact .inl (.inl ⟨.type "dict", .base (.dK kD), kit_ty (by decide +kernel)⟩)
        · exact .inr ⟨_, rfl, .inr (by decide)⟩
        · exact .inr ⟨_, rfl, .inl (by decide)⟩
        · exact .inr ⟨_, rfl, .inr (by decide)⟩
        · exact .inl (no_tup kP)
      repeat array_get_dec
      refine ⟨odd, tb6, fun A7 x7 t7 => ?_⟩
      have b7 : SrcB 4 A7 s := let ⟨a, b, c, e, k⟩ := sb6; ⟨a, b, c, x7 _ _ e (fun _ z => nomatch z), k⟩
      repeat array_get_dec
      refine ⟨s, 4, rfl, b7, by decide, t7, fun A8 k8 t8 => ?_⟩
      repeat array_get_dec
      refine w_if (fun z => nomatch z) (fun _ => ?_)
      exact ⟨⟨_, _, _, _, rfl⟩, k8 p3 _ ne (x7 _ _ (st6.keep p3 _ ne (hq _ _ (s4 _ _ e3'))) (fun _ z => nomatch z)) (fun _ z => nomatch z), t8⟩
    · obtain ⟨⟨y1, y2, y3, y4, rfl⟩, e3', tb1⟩ := z
      repeat array_get_dec
      refine .inr (.inr (.inr (.inr (.inr ⟨2, 100, 10101, rfl, rfl, rfl, by decide, by decide, by decide, by decide, by decide, by decide, by decide, by decide, fun pz Hz1 zs sz ez lz => ?_⟩))))
      repeat array_get_dec
      refine .inr (.inr (.inr ⟨-1000, -999, rfl, rfl, by decide, by decide, by decide, by decide, fun pb Hb1 bs sb eb lb => ?_⟩))
      repeat array_get_dec
      have l2 : bs.length = 2 := lb
      show Q (V.bl (decide (V.int ↑bs.length = V.int 2))) Hb1
      rw [l2]
      exact q _
end
abbrev sInitB : Stmt := match topS 2 with
  | .ClassDef _ _ _ body _ _ _ _ _ _ _ => body.getD 0 (.Pass ⟨0, 0, 0, 0⟩)
  | s => s
theorem scInitB : FnScope ["self", "argument"] ["self", "argument"] (defScope sInitB) := ⟨rfl, rfl, rfl, by decide +kernel, rfl, by decide +kernel, by decide +kernel⟩
theorem ok_initB {P : Program} {w : World} {K : PySem.W.Frag} {mg : Str → Option Value} {base : Heap} {f : Addr} {fd : FuncData} {k : Nat} (F : Fun K "__init__" "InvalidBound.__init__" sInitB f fd) : FnOk P w K mg base CX0 (k + 1) f fd ["self", "argument"] (spField K "argument") := by
  refine F.ok scInitB (fun vs H Q E h => ?_) (fun cdv A outer s H vs Q E hr h => ?_)
  · obtain ⟨a, C, y, rfl, _⟩ := h
    rfl
  · obtain ⟨a, C, y, rfl, T, ht, ha, q⟩ := h
    exact ⟨_, pss_one (ps_field (pv 0) (pv 1)), _, rfl, _, rfl, a, C, rfl, T, ht, ha, fun dx n ne => q dx n ne⟩
abbrev sInitL : Stmt := match topS 3 with
  | .ClassDef _ _ _ body _ _ _ _ _ _ _ => body.getD 0 (.Pass ⟨0, 0, 0, 0⟩)
  | s => s
theorem scInitL : FnScope ["self", "limit"] ["self", "limit"] (defScope sInitL) := ⟨rfl, rfl, rfl, by decide +kernel, rfl, by decide +kernel, by decide +kernel⟩
theorem ok_initL {P : Program} {w : World} {K : PySem.W.Frag} {mg : Str → Option Value} {base : Heap} {f : Addr} {fd : FuncData} {k : Nat} (F : Fun K "__init__" "LimitExceeded.__init__" sInitL f fd) : FnOk P w K mg base CX0 (k + 1) f fd ["self", "limit"] (spField K "limit") := by
  refine F.ok scInitL (fun vs H Q E h => ?_) (fun cdv A outer s H vs Q E hr h => ?_)
  · obtain ⟨a, C, y, rfl, _⟩ := h
    rfl
  · obtain ⟨a, C, y, rfl, T, ht, ha, q⟩ := h
    exact ⟨_, pss_one (ps_field (pv 0) (pv 1)), _, rfl, _, rfl, a, C, rfl, T, ht, ha, fun dx n ne => q dx n ne⟩
def tab72 (c1 P1 c2 P2 : Addr) : List (Addr × Str) := [(P1, (envOfC "_law_words_right" (defScope s__law_words_right) 0 0 (.ref c1)).qual ++ "<lambda>"), (P2, (envOfC "_law_limits_right" (defScope s__law_limits_right) 0 0 (.ref c2)).qual ++ "<lambda>")]
open LamX
/-! ### what the top has written; the law's own head -/
theorem all_mk {l : PySem.W.OpenLaw} {w : World} {K : PySem.W.Frag} {h : Heap} {mg : Str → Option Value} {fa fI fCn fCz fCe fCm fCt fGr fGc fZc fTc fPc fPb fTr fZi fPu fCo fPk fSd fDe fAs fSi fPr fL : Addr} (X : K.In h) (G : h.Ns mainGlobals mg) (hfa : mg "law" = some (.ref fa))
    {cCE cSa PSa cPa PPa : Addr}
    {eB iB zNB : Addr} {znmB zqB : Str} {zbsB zbmB : List Value} {zhdB : Bool} {zsnB : List Str} {zsuB : List Value} {zabB : Bool} {zcoB : Option Bool} {zddB : Option Addr} {zk0B zk1B zk2B zk3B zk5B : Option Value} {zodB zanB : Option Addr} {zslB : Array (Option Value)} {zocB zkVB zdcB zpmB zcdB zctB : Value}
    {eL iL zNL : Addr} {znmL zqL : Str} {zbsL zbmL : List Value} {zhdL : Bool} {zsnL : List Str} {zsuL : List Value} {zabL : Bool} {zcoL : Option Bool} {zddL : Option Addr} {zk0L zk1L zk2L zk3L zk5L : Option Value} {zodL zanL : Option Addr} {zslL : Array (Option Value)} {zocL zkVL zdcL zpmL zcdL zctL : Value}
    {odI anI : Option Addr} {slI : Array (Option Value)} {ocI kVI dcI pmI cdI ctI : Value}
    {odCn anCn : Option Addr} {slCn : Array (Option Value)} {ocCn kVCn dcCn pmCn cdCn ctCn : Value}
    {odCz anCz : Option Addr} {slCz : Array (Option Value)} {ocCz kVCz dcCz pmCz cdCz ctCz : Value}
    {odCe anCe : Option Addr} {slCe : Array (Option Value)} {ocCe kVCe dcCe pmCe cdCe ctCe : Value}
    {odCm anCm : Option Addr} {slCm : Array (Option Value)} {ocCm kVCm dcCm pmCm cdCm ctCm : Value}
    {odCt anCt : Option Addr} {slCt : Array (Option Value)} {ocCt kVCt dcCt pmCt cdCt ctCt : Value}
    {odGr anGr : Option Addr} {slGr : Array (Option Value)} {ocGr kVGr dcGr pmGr cdGr ctGr : Value}
    {odGc anGc : Option Addr} {slGc : Array (Option Value)} {ocGc kVGc dcGc pmGc cdGc ctGc : Value}
    {odZc anZc : Option Addr} {slZc : Array (Option Value)} {ocZc kVZc dcZc pmZc cdZc ctZc : Value}
    {odTc anTc : Option Addr} {slTc : Array (Option Value)} {ocTc kVTc dcTc pmTc cdTc ctTc : Value}
    {odPc anPc : Option Addr} {slPc : Array (Option Value)} {ocPc kVPc dcPc pmPc cdPc ctPc : Value}
    {odPb anPb : Option Addr} {slPb : Array (Option Value)} {ocPb kVPb dcPb pmPb cdPb ctPb : Value}
    {odTr anTr : Option Addr} {slTr : Array (Option Value)} {ocTr kVTr dcTr pmTr cdTr ctTr : Value}
    {odZi anZi : Option Addr} {slZi : Array (Option Value)} {ocZi kVZi dcZi pmZi cdZi ctZi : Value}
    {odPu anPu : Option Addr} {slPu : Array (Option Value)} {ocPu kVPu dcPu pmPu cdPu ctPu : Value}
    {odCo anCo : Option Addr} {slCo : Array (Option Value)} {ocCo kVCo dcCo pmCo cdCo ctCo : Value}
    {odPk anPk : Option Addr} {slPk : Array (Option Value)} {ocPk kVPk dcPk pmPk cdPk ctPk : Value}
    {odSd anSd : Option Addr} {slSd : Array (Option Value)} {ocSd kVSd dcSd pmSd cdSd ctSd : Value}
    {odDe anDe : Option Addr} {slDe : Array (Option Value)} {ocDe kVDe dcDe pmDe cdDe ctDe : Value}
    {odAs anAs : Option Addr} {slAs : Array (Option Value)} {ocAs kVAs dcAs pmAs cdAs ctAs : Value}
    {odSi anSi : Option Addr} {slSi : Array (Option Value)} {ocSi kVSi dcSi pmSi ctSi : Value}
    {odPr anPr : Option Addr} {slPr : Array (Option Value)} {ocPr kVPr dcPr pmPr ctPr : Value}
    {odL anL : Option Addr} {slL : Array (Option Value)} {ocL kVL dcL pmL cdL ctL : Value}
    {tLARGEST : Tok}
    {tMOST_SITES : Tok}
    (aI : PySem.W.nsIn K mainGlobals "is_integer" = some (some (.ref fI))) (lI : K.lookup fI = some ⟨ocI, odI, .func (PySem.W.fnOf "is_integer" "is_integer" (defArgs s_is_integer) (defBody s_is_integer) (defScope s_is_integer) .none kVI dcI pmI anI cdI ctI), slI⟩) (cI : PySem.W.codeIn K cdI "is_integer" = true) (kI : PySem.W.keepIn K (.ref fI) = true)
    (aCn : PySem.W.nsIn K mainGlobals "check_number" = some (some (.ref fCn))) (lCn : K.lookup fCn = some ⟨ocCn, odCn, .func (PySem.W.fnOf "check_number" "check_number" (defArgs s_check_number) (defBody s_check_number) (defScope s_check_number) .none kVCn dcCn pmCn anCn cdCn ctCn), slCn⟩) (cCn : PySem.W.codeIn K cdCn "check_number" = true) (kCn : PySem.W.keepIn K (.ref fCn) = true)
    (aCz : PySem.W.nsIn K mainGlobals "check_size" = some (some (.ref fCz))) (lCz : K.lookup fCz = some ⟨ocCz, odCz, .func (PySem.W.fnOf "check_size" "check_size" (defArgs s_check_size) (defBody s_check_size) (defScope s_check_size) .none kVCz dcCz pmCz anCz cdCz ctCz), slCz⟩) (cCz : PySem.W.codeIn K cdCz "check_size" = true) (kCz : PySem.W.keepIn K (.ref fCz) = true)
    (aCe : PySem.W.nsIn K mainGlobals "check_ends" = some (some (.ref fCe))) (lCe : K.lookup fCe = some ⟨ocCe, odCe, .func (PySem.W.fnOf "check_ends" "check_ends" (defArgs s_check_ends) (defBody s_check_ends) (defScope s_check_ends) .none kVCe dcCe pmCe anCe cdCe ctCe), slCe⟩) (cCe : PySem.W.codeIn K cdCe "check_ends" = true) (kCe : PySem.W.keepIn K (.ref fCe) = true)
    (aCm : PySem.W.nsIn K mainGlobals "check_limits" = some (some (.ref fCm))) (lCm : K.lookup fCm = some ⟨ocCm, odCm, .func (PySem.W.fnOf "check_limits" "check_limits" (defArgs s_check_limits) (defBody s_check_limits) (defScope s_check_limits) .none kVCm dcCm pmCm anCm cdCm ctCm), slCm⟩) (cCm : PySem.W.codeIn K cdCm "check_limits" = true) (kCm : PySem.W.keepIn K (.ref fCm) = true)
    (aCt : PySem.W.nsIn K mainGlobals "check_two_rows" = some (some (.ref fCt))) (lCt : K.lookup fCt = some ⟨ocCt, odCt, .func (PySem.W.fnOf "check_two_rows" "check_two_rows" (defArgs s_check_two_rows) (defBody s_check_two_rows) (defScope s_check_two_rows) .none kVCt dcCt pmCt anCt cdCt ctCt), slCt⟩) (cCt : PySem.W.codeIn K cdCt "check_two_rows" = true) (kCt : PySem.W.keepIn K (.ref fCt) = true)
    (aGr : PySem.W.nsIn K mainGlobals "grid" = some (some (.ref fGr))) (lGr : K.lookup fGr = some ⟨ocGr, odGr, .func (PySem.W.fnOf "grid" "grid" (defArgs s_grid) (defBody s_grid) (defScope s_grid) .none kVGr dcGr pmGr anGr cdGr ctGr), slGr⟩) (cGr : PySem.W.codeIn K cdGr "grid" = true) (kGr : PySem.W.keepIn K (.ref fGr) = true)
    (aGc : PySem.W.nsIn K mainGlobals "grid_counts" = some (some (.ref fGc))) (lGc : K.lookup fGc = some ⟨ocGc, odGc, .func (PySem.W.fnOf "grid_counts" "grid_counts" (defArgs s_grid_counts) (defBody s_grid_counts) (defScope s_grid_counts) .none kVGc dcGc pmGc anGc cdGc ctGc), slGc⟩) (cGc : PySem.W.codeIn K cdGc "grid_counts" = true) (kGc : PySem.W.keepIn K (.ref fGc) = true)
    (aZc : PySem.W.nsIn K mainGlobals "zigzag_counts" = some (some (.ref fZc))) (lZc : K.lookup fZc = some ⟨ocZc, odZc, .func (PySem.W.fnOf "zigzag_counts" "zigzag_counts" (defArgs s_zigzag_counts) (defBody s_zigzag_counts) (defScope s_zigzag_counts) .none kVZc dcZc pmZc anZc cdZc ctZc), slZc⟩) (cZc : PySem.W.codeIn K cdZc "zigzag_counts" = true) (kZc : PySem.W.keepIn K (.ref fZc) = true)
    (aTc : PySem.W.nsIn K mainGlobals "two_rows_counts" = some (some (.ref fTc))) (lTc : K.lookup fTc = some ⟨ocTc, odTc, .func (PySem.W.fnOf "two_rows_counts" "two_rows_counts" (defArgs s_two_rows_counts) (defBody s_two_rows_counts) (defScope s_two_rows_counts) .none kVTc dcTc pmTc anTc cdTc ctTc), slTc⟩) (cTc : PySem.W.codeIn K cdTc "two_rows_counts" = true) (kTc : PySem.W.keepIn K (.ref fTc) = true)
    (aPc : PySem.W.nsIn K mainGlobals "parabola_counts" = some (some (.ref fPc))) (lPc : K.lookup fPc = some ⟨ocPc, odPc, .func (PySem.W.fnOf "parabola_counts" "parabola_counts" (defArgs s_parabola_counts) (defBody s_parabola_counts) (defScope s_parabola_counts) .none kVPc dcPc pmPc anPc cdPc ctPc), slPc⟩) (cPc : PySem.W.codeIn K cdPc "parabola_counts" = true) (kPc : PySem.W.keepIn K (.ref fPc) = true)
    (aPb : PySem.W.nsIn K mainGlobals "parabola" = some (some (.ref fPb))) (lPb : K.lookup fPb = some ⟨ocPb, odPb, .func (PySem.W.fnOf "parabola" "parabola" (defArgs s_parabola) (defBody s_parabola) (defScope s_parabola) .none kVPb dcPb pmPb anPb cdPb ctPb), slPb⟩) (cPb : PySem.W.codeIn K cdPb "parabola" = true) (kPb : PySem.W.keepIn K (.ref fPb) = true)
    (aTr : PySem.W.nsIn K mainGlobals "two_rows" = some (some (.ref fTr))) (lTr : K.lookup fTr = some ⟨ocTr, odTr, .func (PySem.W.fnOf "two_rows" "two_rows" (defArgs s_two_rows) (defBody s_two_rows) (defScope s_two_rows) .none kVTr dcTr pmTr anTr cdTr ctTr), slTr⟩) (cTr : PySem.W.codeIn K cdTr "two_rows" = true) (kTr : PySem.W.keepIn K (.ref fTr) = true)
    (aZi : PySem.W.nsIn K mainGlobals "zigzag" = some (some (.ref fZi))) (lZi : K.lookup fZi = some ⟨ocZi, odZi, .func (PySem.W.fnOf "zigzag" "zigzag" (defArgs s_zigzag) (defBody s_zigzag) (defScope s_zigzag) .none kVZi dcZi pmZi anZi cdZi ctZi), slZi⟩) (cZi : PySem.W.codeIn K cdZi "zigzag" = true) (kZi : PySem.W.keepIn K (.ref fZi) = true)
    (aPu : PySem.W.nsIn K mainGlobals "_law_purse" = some (some (.ref fPu))) (lPu : K.lookup fPu = some ⟨ocPu, odPu, .func (PySem.W.fnOf "_law_purse" "_law_purse" (defArgs s__law_purse) (defBody s__law_purse) (defScope s__law_purse) .none kVPu dcPu pmPu anPu cdPu ctPu), slPu⟩) (cPu : PySem.W.codeIn K cdPu "_law_purse" = true) (kPu : PySem.W.keepIn K (.ref fPu) = true)
    (aCo : PySem.W.nsIn K mainGlobals "_law_coin" = some (some (.ref fCo))) (lCo : K.lookup fCo = some ⟨ocCo, odCo, .func (PySem.W.fnOf "_law_coin" "_law_coin" (defArgs s__law_coin) (defBody s__law_coin) (defScope s__law_coin) .none kVCo dcCo pmCo anCo cdCo ctCo), slCo⟩) (cCo : PySem.W.codeIn K cdCo "_law_coin" = true) (kCo : PySem.W.keepIn K (.ref fCo) = true)
    (aPk : PySem.W.nsIn K mainGlobals "_law_pick" = some (some (.ref fPk))) (lPk : K.lookup fPk = some ⟨ocPk, odPk, .func (PySem.W.fnOf "_law_pick" "_law_pick" (defArgs s__law_pick) (defBody s__law_pick) (defScope s__law_pick) .none kVPk dcPk pmPk anPk cdPk ctPk), slPk⟩) (cPk : PySem.W.codeIn K cdPk "_law_pick" = true) (kPk : PySem.W.keepIn K (.ref fPk) = true)
    (aSd : PySem.W.nsIn K mainGlobals "_law_said" = some (some (.ref fSd))) (lSd : K.lookup fSd = some ⟨ocSd, odSd, .func (PySem.W.fnOf "_law_said" "_law_said" (defArgs s__law_said) (defBody s__law_said) (defScope s__law_said) .none kVSd dcSd pmSd anSd cdSd ctSd), slSd⟩) (cSd : PySem.W.codeIn K cdSd "_law_said" = true) (kSd : PySem.W.keepIn K (.ref fSd) = true)
    (aDe : PySem.W.nsIn K mainGlobals "_law_deep" = some (some (.ref fDe))) (lDe : K.lookup fDe = some ⟨ocDe, odDe, .func (PySem.W.fnOf "_law_deep" "_law_deep" (defArgs s__law_deep) (defBody s__law_deep) (defScope s__law_deep) .none kVDe dcDe pmDe anDe cdDe ctDe), slDe⟩) (cDe : PySem.W.codeIn K cdDe "_law_deep" = true) (kDe : PySem.W.keepIn K (.ref fDe) = true)
    (aAs : PySem.W.nsIn K mainGlobals "_law_all_say" = some (some (.ref fAs))) (lAs : K.lookup fAs = some ⟨ocAs, odAs, .func (PySem.W.fnOf "_law_all_say" "_law_all_say" (defArgs s__law_all_say) (defBody s__law_all_say) (defScope s__law_all_say) .none kVAs dcAs pmAs anAs cdAs ctAs), slAs⟩) (cAs : PySem.W.codeIn K cdAs "_law_all_say" = true) (kAs : PySem.W.keepIn K (.ref fAs) = true)
    (aSi : PySem.W.nsIn K mainGlobals "_law_words_right" = some (some (.ref fSi))) (lSi : K.lookup fSi = some ⟨ocSi, odSi, .func (PySem.W.fnOf "_law_words_right" "_law_words_right" (defArgs s__law_words_right) (defBody s__law_words_right) (defScope s__law_words_right) .none kVSi dcSi pmSi anSi (.ref cSa) ctSi), slSi⟩) (cSi : PySem.W.codeIn K (.ref cSa) "_law_words_right" = true) (kSi : PySem.W.keepIn K (.ref fSi) = true)
    (aPr : PySem.W.nsIn K mainGlobals "_law_limits_right" = some (some (.ref fPr))) (lPr : K.lookup fPr = some ⟨ocPr, odPr, .func (PySem.W.fnOf "_law_limits_right" "_law_limits_right" (defArgs s__law_limits_right) (defBody s__law_limits_right) (defScope s__law_limits_right) .none kVPr dcPr pmPr anPr (.ref cPa) ctPr), slPr⟩) (cPr : PySem.W.codeIn K (.ref cPa) "_law_limits_right" = true) (kPr : PySem.W.keepIn K (.ref fPr) = true)
    (aL : PySem.W.nsIn K mainGlobals "law" = some (some (.ref fL))) (lL : K.lookup fL = some ⟨ocL, odL, .func (PySem.W.fnOf "law" "law" (defArgs s_law) (defBody s_law) (defScope s_law) .none kVL dcL pmL anL cdL ctL), slL⟩) (cL : PySem.W.codeIn K cdL "law" = true) (kL : PySem.W.keepIn K (.ref fL) = true)
    (zint : PySem.W.nsIn K mainGlobals "int" = some none)
    (zbool : PySem.W.nsIn K mainGlobals "bool" = some none)
    (zisinstance : PySem.W.nsIn K mainGlobals "isinstance" = some none)
    (zlen : PySem.W.nsIn K mainGlobals "len" = some none)
    (zabs : PySem.W.nsIn K mainGlobals "abs" = some none)
    (zrange : PySem.W.nsIn K mainGlobals "range" = some none)
    (zmax : PySem.W.nsIn K mainGlobals "max" = some none)
    (zsorted : PySem.W.nsIn K mainGlobals "sorted" = some none)
    (gLARGEST : PySem.W.nsIn K mainGlobals "LARGEST" = some (some (.int 1000000 tLARGEST)))
    (gMOST_SITES : PySem.W.nsIn K mainGlobals "MOST_SITES" = some (some (.int 200 tMOST_SITES)))
    (aCE : PySem.W.nsIn K mainGlobals "CellError" = some (some (.ref cCE)))
    (xsp : PySem.W.specialIn K (.builtin "object.__class__") "__get__" = some (some (.builtin "getset_descriptor.__get__")))
    (xtk : PySem.W.takesIn K (.builtin "object.__class__") = some true)
    (aCB : PySem.W.nsIn K mainGlobals "InvalidBound" = some (some (.ref eB)))
    (lCB : K.lookup eB = some (excClassObj znmB zqB eB zNB zbsB zbmB zhdB zsnB zsuB zabB zcoB zddB zk0B zk1B zk2B zk3B zk5B "ArithmeticError.__new__"))
    (bCB : ∀ Y : String, zbmB.contains (.type Y) = aeTail.contains (.type Y))
    (iCB : PySem.W.findIn K (.ref eB) "__init__" = some (some (.ref iB)))
    (lIB : K.lookup iB = some ⟨zocB, zodB, .func (PySem.W.fnOf "__init__" "InvalidBound.__init__" (defArgs sInitB) (defBody sInitB) (defScope sInitB) .none zkVB zdcB zpmB zanB zcdB zctB), zslB⟩)
    (cIB : PySem.W.codeIn K zcdB "InvalidBound.__init__" = true)
    (kIB : PySem.W.keepIn K (.ref iB) = true)
    (fnB : PySem.W.typeIn K (.ref iB) = some (.type "function"))
    (exB : PySem.W.subIn K (.ref eB) (.type "BaseException") = some true)
    (tyB : PySem.W.typeIn K (.ref eB) = some (.type "type"))
    (kcB : PySem.W.keepIn K (.ref eB) = true)
    (xaB : PySem.W.findIn K (.ref eB) "__getattribute__" = some (some (.builtin "BaseException.__getattribute__")))
    (xbB : PySem.W.findIn K (.ref eB) "__getattr__" = some none)
    (xdB : PySem.W.hasDictIn K eB = true)
    (xcB : PySem.W.findIn K (.ref eB) "__class__" = some (some (.builtin "object.__class__")))
    (xmB : PySem.W.mroIn K eB (.type "object") = some true)
    (kEB : PySem.W.kitOne K (.ref eB) (.ref cCE) = some true)
    (ovB : PySem.W.excOver K eB aeTail = true)
    (stB : PySem.W.findIn K (.ref eB) "__setattr__" = some (some (.builtin "object.__setattr__")))
    (tkB : PySem.W.takerIn K eB "argument" = some none)
    (noB : PySem.W.findIn K (.ref eB) "argument" = some none)
    (aCL : PySem.W.nsIn K mainGlobals "LimitExceeded" = some (some (.ref eL)))
    (lCL : K.lookup eL = some (excClassObj znmL zqL eL zNL zbsL zbmL zhdL zsnL zsuL zabL zcoL zddL zk0L zk1L zk2L zk3L zk5L "ArithmeticError.__new__"))
    (bCL : ∀ Y : String, zbmL.contains (.type Y) = aeTail.contains (.type Y))
    (iCL : PySem.W.findIn K (.ref eL) "__init__" = some (some (.ref iL)))
    (lIL : K.lookup iL = some ⟨zocL, zodL, .func (PySem.W.fnOf "__init__" "LimitExceeded.__init__" (defArgs sInitL) (defBody sInitL) (defScope sInitL) .none zkVL zdcL zpmL zanL zcdL zctL), zslL⟩)
    (cIL : PySem.W.codeIn K zcdL "LimitExceeded.__init__" = true)
    (kIL : PySem.W.keepIn K (.ref iL) = true)
    (fnL : PySem.W.typeIn K (.ref iL) = some (.type "function"))
    (exL : PySem.W.subIn K (.ref eL) (.type "BaseException") = some true)
    (tyL : PySem.W.typeIn K (.ref eL) = some (.type "type"))
    (kcL : PySem.W.keepIn K (.ref eL) = true)
    (xaL : PySem.W.findIn K (.ref eL) "__getattribute__" = some (some (.builtin "BaseException.__getattribute__")))
    (xbL : PySem.W.findIn K (.ref eL) "__getattr__" = some none)
    (xdL : PySem.W.hasDictIn K eL = true)
    (xcL : PySem.W.findIn K (.ref eL) "__class__" = some (some (.builtin "object.__class__")))
    (xmL : PySem.W.mroIn K eL (.type "object") = some true)
    (kEL : PySem.W.kitOne K (.ref eL) (.ref cCE) = some true)
    (ovL : PySem.W.excOver K eL aeTail = true)
    (stL : PySem.W.findIn K (.ref eL) "__setattr__" = some (some (.builtin "object.__setattr__")))
    (tkL : PySem.W.takerIn K eL "limit" = some none)
    (noL : PySem.W.findIn K (.ref eL) "limit" = some none)
    (sBB : PySem.W.exmOne K (.ref eB) (.ref eB) = some true)
    (sLB : PySem.W.exmOne K (.ref eL) (.ref eB) = some false)
    (sLL : PySem.W.exmOne K (.ref eL) (.ref eL) = some true)
    (hHdS : PySem.W.codeHdIn K cSa PSa = true)
    (hHdP : PySem.W.codeHdIn K cPa PPa = true)
    (nPS : K.lookup PSa = none)
    (nPP : K.lookup PPa = none)
    (neP : PSa ≠ PPa)
    (hTab1 : h.get? PSa = some (PySem.W.tabObj #[])) (hTab2 : h.get? PPa = some (PySem.W.tabObj #[]))
    : LawAtS l w K CX0 11 63 "_law_script" mg fa h := by
  have e := hfa.symm.trans (PySem.W.mg_of X G aL)
  cases e
  have FI := fun_mk (st := s_is_integer) lI cI kI
  have bI := FI.binds (ps := ["value"]) fun _ _ _ _ _ _ us hl => match us, hl with | [_], _ => rfl
  have gI := PySem.W.mg_of X G aI
  have FCn := fun_mk (st := s_check_number) lCn cCn kCn
  have bCn := FCn.binds (ps := ["value", "least", "name"]) fun _ _ _ _ _ _ us hl => match us, hl with | [_, _, _], _ => rfl
  have gCn := PySem.W.mg_of X G aCn
  have FCz := fun_mk (st := s_check_size) lCz cCz kCz
  have bCz := FCz.binds (ps := ["value", "least", "name"]) fun _ _ _ _ _ _ us hl => match us, hl with | [_, _, _], _ => rfl
  have gCz := PySem.W.mg_of X G aCz
  have FCe := fun_mk (st := s_check_ends) lCe cCe kCe
  have bCe := FCe.binds (ps := ["low", "high"]) fun _ _ _ _ _ _ us hl => match us, hl with | [_, _], _ => rfl
  have gCe := PySem.W.mg_of X G aCe
  have FCm := fun_mk (st := s_check_limits) lCm cCm kCm
  have bCm := FCm.binds (ps := ["many", "farthest"]) fun _ _ _ _ _ _ us hl => match us, hl with | [_, _], _ => rfl
  have gCm := PySem.W.mg_of X G aCm
  have FCt := fun_mk (st := s_check_two_rows) lCt cCt kCt
  have bCt := FCt.binds (ps := ["m", "n", "shift"]) fun _ _ _ _ _ _ us hl => match us, hl with | [_, _, _], _ => rfl
  have gCt := PySem.W.mg_of X G aCt
  have FGr := fun_mk (st := s_grid) lGr cGr kGr
  have bGr := FGr.binds (ps := ["m", "n"]) fun _ _ _ _ _ _ us hl => match us, hl with | [_, _], _ => rfl
  have gGr := PySem.W.mg_of X G aGr
  have FGc := fun_mk (st := s_grid_counts) lGc cGc kGc
  have bGc := FGc.binds (ps := ["m", "n"]) fun _ _ _ _ _ _ us hl => match us, hl with | [_, _], _ => rfl
  have gGc := PySem.W.mg_of X G aGc
  have FZc := fun_mk (st := s_zigzag_counts) lZc cZc kZc
  have bZc := FZc.binds (ps := ["m", "n"]) fun _ _ _ _ _ _ us hl => match us, hl with | [_, _], _ => rfl
  have gZc := PySem.W.mg_of X G aZc
  have FTc := fun_mk (st := s_two_rows_counts) lTc cTc kTc
  have bTc := FTc.binds (ps := ["m", "n", "shift"]) fun _ _ _ _ _ _ us hl => match us, hl with | [_, _, _], _ => rfl
  have gTc := PySem.W.mg_of X G aTc
  have FPc := fun_mk (st := s_parabola_counts) lPc cPc kPc
  have bPc := FPc.binds (ps := ["low", "high"]) fun _ _ _ _ _ _ us hl => match us, hl with | [_, _], _ => rfl
  have gPc := PySem.W.mg_of X G aPc
  have FPb := fun_mk (st := s_parabola) lPb cPb kPb
  have bPb := FPb.binds (ps := ["low", "high"]) fun _ _ _ _ _ _ us hl => match us, hl with | [_, _], _ => rfl
  have gPb := PySem.W.mg_of X G aPb
  have FTr := fun_mk (st := s_two_rows) lTr cTr kTr
  have bTr := FTr.binds (ps := ["m", "n", "shift", "height"]) fun _ _ _ _ _ _ us hl => match us, hl with | [_, _, _, _], _ => rfl
  have gTr := PySem.W.mg_of X G aTr
  have FZi := fun_mk (st := s_zigzag) lZi cZi kZi
  have bZi := FZi.binds (ps := ["m", "n", "height"]) fun _ _ _ _ _ _ us hl => match us, hl with | [_, _, _], _ => rfl
  have gZi := PySem.W.mg_of X G aZi
  have FPu := fun_mk (st := s__law_purse) lPu cPu kPu
  have bPu := FPu.binds (ps := ["_law_figure"]) fun _ _ _ _ _ _ us hl => match us, hl with | [_], _ => rfl
  have gPu := PySem.W.mg_of X G aPu
  have FCo := fun_mk (st := s__law_coin) lCo cCo kCo
  have bCo := FCo.binds (ps := ["_law_purse_here", "_law_many"]) fun _ _ _ _ _ _ us hl => match us, hl with | [_, _], _ => rfl
  have gCo := PySem.W.mg_of X G aCo
  have FPk := fun_mk (st := s__law_pick) lPk cPk kPk
  have bPk := FPk.binds (ps := ["_law_purse_here", "_law_some"]) fun _ _ _ _ _ _ us hl => match us, hl with | [_, _], _ => rfl
  have gPk := PySem.W.mg_of X G aPk
  have FSd := fun_mk (st := s__law_said) lSd cSd kSd
  have bSd := FSd.binds (ps := ["_law_ask"]) fun _ _ _ _ _ _ us hl => match us, hl with | [_], _ => rfl
  have gSd := PySem.W.mg_of X G aSd
  have FDe := fun_mk (st := s__law_deep) lDe cDe kDe
  have bDe := FDe.binds (ps := []) fun _ _ _ _ _ _ us hl => match us, hl with | [], _ => rfl
  have gDe := PySem.W.mg_of X G aDe
  have FAs := fun_mk (st := s__law_all_say) lAs cAs kAs
  have bAs := FAs.binds (ps := ["_law_calls"]) fun _ _ _ _ _ _ us hl => match us, hl with | [_], _ => rfl
  have gAs := PySem.W.mg_of X G aAs
  have FSi := fun_mk (st := s__law_words_right) lSi cSi kSi
  have bSi := FSi.binds (ps := ["_law_odd"]) fun _ _ _ _ _ _ us hl => match us, hl with | [_], _ => rfl
  have gSi := PySem.W.mg_of X G aSi
  have FPr := fun_mk (st := s__law_limits_right) lPr cPr kPr
  have bPr := FPr.binds (ps := ["_law_purse_here"]) fun _ _ _ _ _ _ us hl => match us, hl with | [_], _ => rfl
  have gPr := PySem.W.mg_of X G aPr
  have FL := fun_mk (st := s_law) lL cL kL
  have mint := PySem.W.mg_none_of X G zint
  have mbool := PySem.W.mg_none_of X G zbool
  have misinstance := PySem.W.mg_none_of X G zisinstance
  have mlen := PySem.W.mg_none_of X G zlen
  have mabs := PySem.W.mg_none_of X G zabs
  have mrange := PySem.W.mg_none_of X G zrange
  have mmax := PySem.W.mg_none_of X G zmax
  have msorted := PySem.W.mg_none_of X G zsorted
  have mLARGEST := PySem.W.mg_of X G gLARGEST
  have mMOST_SITES := PySem.W.mg_of X G gMOST_SITES
  have mCE := PySem.W.mg_of X G aCE
  have mcB := PySem.W.mg_of X G aCB
  have FIB := fun_mk (st := sInitB) lIB cIB kIB
  have bIB := FIB.binds (ps := ["self", "argument"]) fun _ _ _ _ _ _ us hl => match us, hl with | [_, _], _ => rfl
  have TCB : PassC K eB iB := ⟨⟨_, _, _, _, _, _, _, _, _, _, _, _, _, _, _, _, lCB, bCB⟩, iCB, fnB, exB, tyB, kcB⟩
  have ECB : ExcC K eB := ⟨xaB, xbB, exB, xdB, xcB, xsp, xtk, xmB⟩
  have XCB : XfC K eB := ⟨xaB, xbB, exB, xdB⟩
  have FCB : FieldC K eB := ⟨ovB, PySem.W.any_some xdB |>.elim fun cd h => ⟨cd, h.1, h.2⟩, stB⟩
  have mcL := PySem.W.mg_of X G aCL
  have FIL := fun_mk (st := sInitL) lIL cIL kIL
  have bIL := FIL.binds (ps := ["self", "limit"]) fun _ _ _ _ _ _ us hl => match us, hl with | [_, _], _ => rfl
  have TCL : PassC K eL iL := ⟨⟨_, _, _, _, _, _, _, _, _, _, _, _, _, _, _, _, lCL, bCL⟩, iCL, fnL, exL, tyL, kcL⟩
  have ECL : ExcC K eL := ⟨xaL, xbL, exL, xdL, xcL, xsp, xtk, xmL⟩
  have XCL : XfC K eL := ⟨xaL, xbL, exL, xdL⟩
  have FCL : FieldC K eL := ⟨ovL, PySem.W.any_some xdL |>.elim fun cd h => ⟨cd, h.1, h.2⟩, stL⟩
  have D_is_integer : Df K mg "is_integer" s_is_integer ["value"] := Df.mk' FI gI kI bI
  have D_check_number : Df K mg "check_number" s_check_number ["value", "least", "name"] := Df.mk' FCn gCn kCn bCn
  have D_check_size : Df K mg "check_size" s_check_size ["value", "least", "name"] := Df.mk' FCz gCz kCz bCz
  have D_check_ends : Df K mg "check_ends" s_check_ends ["low", "high"] := Df.mk' FCe gCe kCe bCe
  have D_check_limits : Df K mg "check_limits" s_check_limits ["many", "farthest"] := Df.mk' FCm gCm kCm bCm
  have D_check_two_rows : Df K mg "check_two_rows" s_check_two_rows ["m", "n", "shift"] := Df.mk' FCt gCt kCt bCt
  have D_grid : Df K mg "grid" s_grid ["m", "n"] := Df.mk' FGr gGr kGr bGr
  have D_grid_counts : Df K mg "grid_counts" s_grid_counts ["m", "n"] := Df.mk' FGc gGc kGc bGc
  have D_zigzag_counts : Df K mg "zigzag_counts" s_zigzag_counts ["m", "n"] := Df.mk' FZc gZc kZc bZc
  have D_two_rows_counts : Df K mg "two_rows_counts" s_two_rows_counts ["m", "n", "shift"] := Df.mk' FTc gTc kTc bTc
  have D_parabola_counts : Df K mg "parabola_counts" s_parabola_counts ["low", "high"] := Df.mk' FPc gPc kPc bPc
  have D_parabola : Df K mg "parabola" s_parabola ["low", "high"] := Df.mk' FPb gPb kPb bPb
  have D_two_rows : Df K mg "two_rows" s_two_rows ["m", "n", "shift", "height"] := Df.mk' FTr gTr kTr bTr
  have D_zigzag : Df K mg "zigzag" s_zigzag ["m", "n", "height"] := Df.mk' FZi gZi kZi bZi
  have D__law_purse : Df K mg "_law_purse" s__law_purse ["_law_figure"] := Df.mk' FPu gPu kPu bPu
  have D__law_coin : Df K mg "_law_coin" s__law_coin ["_law_purse_here", "_law_many"] := Df.mk' FCo gCo kCo bCo
  have D__law_pick : Df K mg "_law_pick" s__law_pick ["_law_purse_here", "_law_some"] := Df.mk' FPk gPk kPk bPk
  have D__law_said : Df K mg "_law_said" s__law_said ["_law_ask"] := Df.mk' FSd gSd kSd bSd
  have D__law_deep : Df K mg "_law_deep" s__law_deep [] := Df.mk' FDe gDe kDe bDe
  have D__law_all_say : Df K mg "_law_all_say" s__law_all_say ["_law_calls"] := Df.mk' FAs gAs kAs bAs
  have mem1 : (cSa, PSa) ∈ [(cSa, PSa), (cPa, PPa)] := List.mem_cons_self
  have mem2 : (cPa, PPa) ∈ [(cSa, PSa), (cPa, PPa)] := List.mem_cons_of_mem _ List.mem_cons_self
  refine ⟨PySem.W.fnOf "law" "law" (defArgs s_law) (defBody s_law) (defScope s_law) .none kVL dcL pmL anL cdL ctL, [(cSa, PSa), (cPa, PPa)], p_law K (tab72 cSa PSa cPa PPa), fun p hp => ?_, fun p hp => ?_, fun p hp => ?_, fun s v => .of_eq rfl, fun H a ns hl _ hH hS => ?_, fun base _ _ TB => ?_⟩
  · simp only [List.mem_cons, List.not_mem_nil, or_false] at hp
    rcases hp with rfl | rfl
    · exact hTab1
    · exact hTab2
  · simp only [List.mem_cons, List.not_mem_nil, or_false] at hp
    rcases hp with rfl | rfl
    · exact nPS
    · exact nPP
  · simp only [List.mem_cons, List.not_mem_nil, or_false] at hp
    rcases hp with rfl | rfl
    · exact PySem.W.codeHd_of_K X hHdS
    · exact PySem.W.codeHd_of_K X hHdP
  · refine ⟨a, ns, rfl, hS, hl, fun p hp => ?_, fun _ => rfl⟩
    simp only [tab72, List.mem_cons, List.not_mem_nil, or_false] at hp
    rcases hp with rfl | rfl
    · exact TabS.nil (hH _ mem1)
    · exact TabS.nil (hH _ mem2)
  have tb1 := TB _ mem1
  have tb2 := TB _ mem2
  have hu1 : ∀ p ∈ tab72 cSa PSa cPa PPa, p.1 = PSa → p.2 = (envOfC "_law_words_right" (defScope s__law_words_right) 0 0 (.ref cSa)).qual ++ "<lambda>" := fun p hp e => by
    simp only [tab72, List.mem_cons, List.not_mem_nil, or_false] at hp
    rcases hp with rfl | rfl
    · rfl
    · exact absurd e.symm neP
  have hu2 : ∀ p ∈ tab72 cSa PSa cPa PPa, p.1 = PPa → p.2 = (envOfC "_law_limits_right" (defScope s__law_limits_right) 0 0 (.ref cPa)).qual ++ "<lambda>" := fun p hp e => by
    simp only [tab72, List.mem_cons, List.not_mem_nil, or_false] at hp
    rcases hp with rfl | rfl
    · exact absurd e neP
    · rfl
  have Z_InvalidBound : Rz l.prog w K mg base eB "InvalidBound" "argument" := ⟨_, _, TCB, FCB, tkB, ok_initB (k := 0) FIB, bIB, mcB⟩
  have Z_LimitExceeded : Rz l.prog w K mg base eL "LimitExceeded" "limit" := ⟨_, _, TCL, FCL, tkL, ok_initL (k := 0) FIL, bIL, mcL⟩
  have C_is_integer := ok_is_integer (P := l.prog) (w := w) (base := base) D_is_integer mbool mint misinstance
  have C_check_number := ok_check_number D_check_number C_is_integer Z_InvalidBound
  have C_check_size := ok_check_size D_check_size C_check_number mLARGEST Z_InvalidBound
  have C_check_ends := ok_check_ends D_check_ends C_check_size mLARGEST Z_InvalidBound
  have C_check_limits := ok_check_limits D_check_limits mLARGEST mMOST_SITES Z_LimitExceeded
  have C_check_two_rows := ok_check_two_rows D_check_two_rows C_check_size mLARGEST
  have C_grid := ok_grid D_grid C_check_size C_check_limits mmax mrange
  have C_grid_counts := ok_grid_counts D_grid_counts C_check_size
  have C_zigzag_counts := ok_zigzag_counts D_zigzag_counts C_check_size
  have C_two_rows_counts := ok_two_rows_counts D_two_rows_counts C_check_two_rows
  have C_parabola_counts := ok_parabola_counts D_parabola_counts C_check_ends
  have C_parabola := ok_parabola D_parabola C_check_ends C_check_limits mmax mrange
  have C_two_rows := ok_two_rows D_two_rows C_check_number C_check_limits C_check_two_rows mmax mrange msorted
  have C_zigzag := ok_zigzag D_zigzag C_check_number C_check_size C_check_limits mmax mrange msorted
  have C_purse := ok__law_purse (P := l.prog) (w := w) (base := base) D__law_purse mabs mint
  have C_coin := ok__law_coin (P := l.prog) (w := w) (base := base) D__law_coin mint
  have C_pick := ok__law_pick D__law_pick C_coin mlen
  have A1 : Ask K eB cCE "argument" := ⟨XCB, noB, ECB, kEB⟩
  have A2 : Ask K eL cCE "limit" := ⟨XCL, noL, ECL, kEL⟩
  have GSd := ok__law_said (P := l.prog) (w := w) (base := base) (k := 7) FSd mcB mcL mCE misinstance A1 A2 sBB sLB sLL
  have C_said : Cl l.prog w K mg base CX0 "_law_said" 8 ["_law_ask"] (p__law_said l.prog w K mg base eB eL 7) := ⟨_, _, GSd, gSd, kSd, bSd⟩
  have C_deep := ok__law_deep (P := l.prog) (w := w) (K := K) (base := base) D__law_deep mrange
  have C_all := ok__law_all_say D__law_all_say C_said
  have GSi := ok__law_words_right (T := tab72 cSa PSa cPa PPa) lSi cSi tb1 List.mem_cons_self hu1 C_grid C_grid_counts C_parabola C_parabola_counts C_zigzag C_zigzag_counts C_two_rows C_two_rows_counts C_said
  have C_words : Cl l.prog w K mg base CX0 "_law_words_right" 9 ["_law_odd"] (p__law_words_right K (tab72 cSa PSa cPa PPa)) := ⟨_, _, GSi, gSi, kSi, bSi⟩
  have GPr := ok__law_limits_right (T := tab72 cSa PSa cPa PPa) lPr cPr tb2 (List.mem_cons_of_mem _ List.mem_cons_self) hu2 C_grid C_parabola C_zigzag C_two_rows C_all C_coin
  have C_limits : Cl l.prog w K mg base CX0 "_law_limits_right" 10 ["_law_purse_here"] (p__law_limits_right K (tab72 cSa PSa cPa PPa)) := ⟨_, _, GPr, gPr, kPr, bPr⟩
  exact ok_law FL C_parabola C_zigzag C_purse C_pick C_deep C_words C_limits mlen
end NcK
open PySem PySem.W PyProof.Rows
set_option maxHeartbeats 0 in
theorem PySem.Challenge.cw_nearcells_k72_what_shapes_refuse_holds : PySem.Challenge.rw_nearcells_k72_what_shapes_refuse.Holds := by
  w_on; o_law; k_head; (case hw => w_witness2)
  k_fill
  refine LamX.walk_ofTs (l := PySem.Challenge.rw_nearcells_k72_what_shapes_refuse) (n := 63) (k := 11) (x := "_law_script") (CX := fun _ => L2.CX0) rfl (by decide) rfl ⟨rfl, by decide, by decide⟩ (fun w h Y => PySem.W.km_in_of Y) ?F (fun _ _ _ _ _ h => h)
  case F =>
    intro w mg fa h Y KX G hmg
    have hT8 := PySem.W.km_tabs_of Y
    refine' NcK.all_mk KX G hmg ?aI ?lI ?cI ?kI ?aCn ?lCn ?cCn ?kCn ?aCz ?lCz ?cCz ?kCz ?aCe ?lCe ?cCe ?kCe ?aCm ?lCm ?cCm ?kCm ?aCt ?lCt ?cCt ?kCt ?aGr ?lGr ?cGr ?kGr ?aGc ?lGc ?cGc ?kGc ?aZc ?lZc ?cZc ?kZc ?aTc ?lTc ?cTc ?kTc ?aPc ?lPc ?cPc ?kPc ?aPb ?lPb ?cPb ?kPb ?aTr ?lTr ?cTr ?kTr ?aZi ?lZi ?cZi ?kZi ?aPu ?lPu ?cPu ?kPu ?aCo ?lCo ?cCo ?kCo ?aPk ?lPk ?cPk ?kPk ?aSd ?lSd ?cSd ?kSd ?aDe ?lDe ?cDe ?kDe ?aAs ?lAs ?cAs ?kAs ?aSi ?lSi ?cSi ?kSi ?aPr ?lPr ?cPr ?kPr ?aL ?lL ?cL ?kL ?zint ?zbool ?zisinstance ?zlen ?zabs ?zrange ?zmax ?zsorted ?gLARGEST ?gMOST_SITES ?aCE ?xsp ?xtk ?aCB ?lCB ?bCB ?iCB ?lIB ?cIB ?kIB ?fnB ?exB ?tyB ?kcB ?xaB ?xbB ?xdB ?xcB ?xmB ?kEB ?ovB ?stB ?tkB ?noB ?aCL ?lCL ?bCL ?iCL ?lIL ?cIL ?kIL ?fnL ?exL ?tyL ?kcL ?xaL ?xbL ?xdL ?xcL ?xmL ?kEL ?ovL ?stL ?tkL ?noL ?sBB ?sLB ?sLL ?hHdS ?hHdP ?nPS ?nPP ?neP ?hTab1 ?hTab2
    (case aI => k_is); (case lI => k_is); (case cI => k_is); (case kI => k_is); (case aCn => k_is); (case lCn => k_is); (case cCn => k_is); (case kCn => k_is); (case aCz => k_is); (case lCz => k_is); (case cCz => k_is); (case kCz => k_is); (case aCe => k_is); (case lCe => k_is); (case cCe => k_is); (case kCe => k_is); (case aCm => k_is); (case lCm => k_is); (case cCm => k_is); (case kCm => k_is); (case aCt => k_is); (case lCt => k_is); (case cCt => k_is); (case kCt => k_is); (case aGr => k_is); (case lGr => k_is); (case cGr => k_is); (case kGr => k_is); (case aGc => k_is); (case lGc => k_is); (case cGc => k_is); (case kGc => k_is); (case aZc => k_is); (case lZc => k_is); (case cZc => k_is); (case kZc => k_is); (case aTc => k_is); (case lTc => k_is); (case cTc => k_is); (case kTc => k_is); (case aPc => k_is); (case lPc => k_is); (case cPc => k_is); (case kPc => k_is); (case aPb => k_is); (case lPb => k_is); (case cPb => k_is); (case kPb => k_is); (case aTr => k_is); (case lTr => k_is); (case cTr => k_is); (case kTr => k_is); (case aZi => k_is); (case lZi => k_is); (case cZi => k_is); (case kZi => k_is); (case aPu => k_is); (case lPu => k_is); (case cPu => k_is); (case kPu => k_is); (case aCo => k_is); (case lCo => k_is); (case cCo => k_is); (case kCo => k_is); (case aPk => k_is); (case lPk => k_is); (case cPk => k_is); (case kPk => k_is); (case aSd => k_is); (case lSd => k_is); (case cSd => k_is); (case kSd => k_is); (case aDe => k_is); (case lDe => k_is); (case cDe => k_is); (case kDe => k_is); (case aAs => k_is); (case lAs => k_is); (case cAs => k_is); (case kAs => k_is); (case aSi => k_is); (case lSi => k_is); (case cSi => k_is); (case kSi => k_is); (case aPr => k_is); (case lPr => k_is); (case cPr => k_is); (case kPr => k_is); (case aL => k_is); (case lL => k_is); (case cL => k_is); (case kL => k_is); (case zint => k_is); (case zbool => k_is); (case zisinstance => k_is); (case zlen => k_is); (case zabs => k_is); (case zrange => k_is); (case zmax => k_is); (case zsorted => k_is); (case gLARGEST => k_is); (case gMOST_SITES => k_is); (case hTab2 => exact hT8 _ List.mem_cons_self); (case hTab1 => exact hT8 _ (List.mem_cons_of_mem _ List.mem_cons_self)); (case aCE => k_is); (case xsp => k_is); (case xtk => k_is); (case aCB => k_is); (case lCB => k_is); (case bCB => exact fun Y => by rw [List.contains_cons]; rfl); (case iCB => k_is); (case lIB => k_is); (case cIB => k_is); (case kIB => k_is); (case fnB => k_is); (case exB => k_is); (case tyB => k_is); (case kcB => k_is); (case xaB => k_is); (case xbB => k_is); (case xdB => k_is); (case xcB => k_is); (case xmB => k_is); (case kEB => kernel_rfl); (case ovB => kernel_rfl); (case stB => k_is); (case tkB => kernel_rfl); (case noB => k_is); (case aCL => k_is); (case lCL => k_is); (case bCL => exact fun Y => by rw [List.contains_cons]; rfl); (case iCL => k_is); (case lIL => k_is); (case cIL => k_is); (case kIL => k_is); (case fnL => k_is); (case exL => k_is); (case tyL => k_is); (case kcL => k_is); (case xaL => k_is); (case xbL => k_is); (case xdL => k_is); (case xcL => k_is); (case xmL => k_is); (case kEL => kernel_rfl); (case ovL => kernel_rfl); (case stL => k_is); (case tkL => kernel_rfl); (case noL => k_is); (case sBB => kernel_rfl); (case sLB => kernel_rfl); (case sLL => kernel_rfl); (case hHdS => kernel_rfl); (case hHdP => kernel_rfl); (case nPS => kernel_rfl); (case nPP => kernel_rfl); (case neP => decide)
