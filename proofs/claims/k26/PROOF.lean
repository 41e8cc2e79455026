import PyProof.Rows.All
import Wide.All
import OpenK.AllK
import Wide.FinOn
import HandS.ForMost
import HandS.TupLe
import HandS.IsInst
import HandS.Wide
import HandS.Walk
import HandS.Gcd
import HandS.Codes
import HandS.Style
import KE.KMathG
import HandS.NoneIn
import HandS.CallLocal
import HandS.IterVal
import HandS.TupSets
import HandS.Iter
import PyProof.MinMaxWalk
import HandS.SetKeys
import PyProof.DictMoreH
import HandS.SortRule
import HandS.Comp
import PyProof.Rows.TupDisplay
import KE.KRevSl
import KE.DataMinMax
import KE.SortData
import HandS.Deep
import HandS.TupLen
import PyProof.DictTruth
import KE.KNestM
import KE.KLam
import PySem.Challenge.RW_nearcells_k26_cells_along_a_way
set_option Elab.async false
set_option linter.all false
set_option maxRecDepth 100000
set_option maxHeartbeats 4000000
/-! Own rules: min and max of two things that are compared by the heap (pairs); a call by keywords alone. -/
namespace Nc
open PySem PySem.Spec PyProof.Rows L2
section
variable {prog : Program} {w : World} {A : Around} {E : Value → Shared → Prop} {s : Shared} {va vb : Value} {k : Bool}
/-- all that stood before stands -/
abbrev KeepH (h h' : Heap) : Prop := ∀ c o, h.get? c = some o → h'.get? c = some o


/-- the loop of min behind its first item: best so far vx (twice at S), one more item vy to come, or none -/
theorem min_round {R : Result → Shared → Prop} {I S T : Addr} {vx vy : Value} {its : Array Value} {b : Bool} {c i : Nat} {s : Shared} (hh : A.handled = none) (hIT : T ≠ I) (hIS : S ≠ I) (hST : S ≠ T)
    (hit : s.heap.IsTupleIter I T i ∧ s.heap.IsTuple T its) (hy : its[i]? = some vy) (hend : its.size = i + 1) (hS : s.heap.get? S = some { cls := .type "list", dict := none, data := .seq #[vx, vx] c, slots := #[] })
    (hc : ∀ h' tk, (∀ b o, b ≠ I → s.heap.get? b = some o → h'.get? b = some o) → Ob.RcOp .Lt A.in1 { s with heap := h', toks := tk } vy vx b)
    (hR : ∀ h' tk, (∀ b o, b ≠ I → b ≠ S → s.heap.get? b = some o → h'.get? b = some o) → R (.ok (.ret (if b = true then vy else vx))) { s with heap := h', toks := tk }) :
    codeAny (model prog w) A (.builtin "min.loop" ⟨[.ref I, .none, .ref S], []⟩) R s := by
  have nm : (toString "min" ++ toString ".loop" : String) = "min.loop" := by decide
  have W := Walks.tuple (prog := prog) (w := w) (A := A.in1) hh I T hIT its
  -- no item is left: vz is handed back
  have last : ∀ (vz : Value) (c' : Nat) (s1 : Shared), s1.heap.IsTupleIter I T (i + 1) ∧ s1.heap.IsTuple T its → s1.heap.get? S = some { cls := .type "list", dict := none, data := .seq #[vz, vz] c', slots := #[] } →
      (∀ h' tk, (∀ b o, b ≠ I → b ≠ S → s1.heap.get? b = some o → h'.get? b = some o) → R (.ok (.ret vz)) { s1 with heap := h', toks := tk }) → codeAny (model prog w) A (.builtin "min.loop" ⟨[.ref I, .none, .ref S], []⟩) R s1 := by
    intro vz c' s1 st1 g1 r1
    obtain ⟨hp, gg, dd, tt, os⟩ := s1
    refine codeAny_builtin PySem.F.entry_min_loop ?_
    rw [Around.under_plainId PySem.F.plain_min_loop _]
    refine wpAny_bind (wpAny_seqItems g1 rfl (wpAny_bind (wpAny_tryCatch (W.done _ _ _ (hend ▸ st1) fun hq tk hk => ?_))))
    have g2 := hk S _ (fun z => hIS (List.mem_singleton.mp z)) g1
    refine wpAny_bind (wpAny_updateSeq g2 rfl (wpAny_bind (wpAny_letGo (wpAny_pure ?_))))
    exact r1 _ tk fun d o n1 n2 e => (Heap.get?_update_other _ _ (Ne.symm n2)).trans (hk d o (fun z => n1 (List.mem_singleton.mp z)) e)
  obtain ⟨hp, gg, dd, tt, os⟩ := s
  refine codeAny_builtin PySem.F.entry_min_loop ?_
  rw [Around.under_plainId PySem.F.plain_min_loop _]
  refine wpAny_bind (wpAny_seqItems hS rfl (wpAny_bind (wpAny_tryCatch (W.item i _ _ _ (by omega) hit fun v hq tk hP st hk => ?_))))
  have ev : v = vy := Option.some.inj ((show its[i]? = some v from hP).symm.trans hy)
  subst ev
  have kk : ∀ d o, d ≠ I → hp.get? d = some o → hq.get? d = some o := fun d o n e => hk d o (fun z => n (List.mem_singleton.mp z)) e
  have g2 := kk S _ hIS hS
  refine wpAny_bind (wpAny_pure ?_)
  show wpAny _ _ (tryCatch (holding [v, v] (richCompare _ v vx >>= _)) _ >>= _) _ _ _
  refine wpAny_bind (wpAny_tryCatch (wpAny_holding (wpAny_bind ((hc hq tk kk) prog w _ _ ?_))))
  refine wpAny_bind (wpAny_holding (wpAny_truthy_bool (wpAny_bind (wpAny_letGo (wpAny_pure ?_)))))
  cases b with
  | true =>
    simp only [if_true]
    refine wpAny_bind (wpAny_updateSeq g2 rfl (wpAny_bind (wpAny_letGo ?_)))
    rw [nm]
    have fr : ∀ d o, d ≠ S → hq.get? d = some o → (hq.update S fun o => { o with data := .seq #[v, v] (c + 1) }).get? d = some o := fun d o n e => (Heap.get?_update_other _ _ (Ne.symm n)).trans e
    refine wpAny_pure ⟨plainId_quiet PySem.F.plain_min_loop _, last v _ _ (W.frame _ _ _ st fun d hd o e => ?_) (Heap.get?_update_self _ g2 rfl) fun h' tk' hk' => ?_⟩
    · refine (Heap.get?_update_other _ _ ?_).trans e
      intro z
      rcases List.mem_cons.mp hd with q | q
      · exact hIS (z.trans q)
      · exact hST (z.trans (List.mem_singleton.mp q))
    · exact hR h' tk' fun d o n1 n2 e => hk' d o n1 n2 ((Heap.get?_update_other _ _ (Ne.symm n2)).trans (kk d o n1 e))
  | false =>
    simp only [Bool.false_eq_true, if_false]
    refine wpAny_bind (wpAny_letGo ?_)
    rw [nm]
    refine wpAny_pure ⟨plainId_quiet PySem.F.plain_min_loop _, last vx _ _ st g2 fun h' tk' hk' => ?_⟩
    exact hR h' tk' fun d o n1 n2 e => hk' d o n1 n2 (kk d o n1 e)

theorem min2_by {Q : Value → Shared → Prop} (hh : A.handled = none)
    (hc : ∀ h' tk, KeepH s.heap h' → Ob.RcOp .Lt A.in1 { s with heap := h', toks := tk } vb va k)
    (hq : ∀ h' tk, KeepH s.heap h' → Q (if k = true then vb else va) { s with heap := h', toks := tk }) :
    wpAny (model prog w) A (call (.builtin "min") [va, vb]) Q E s := by
  have nm : (toString "min" ++ toString ".loop" : String) = "min.loop" := by decide
  obtain ⟨hp, gg, dd, tt, os⟩ := s
  refine call_function_tree PySem.F.kind_min PySem.F.plain_min PySem.F.entry_min (PySem.F.args_min2 _ _) ?_
  refine wpAny_bind (wpAny_of_eq (show Builtin.Builtins.bindParams "min" ["key", "default"] 0 ⟨[], []⟩ = pure [none, none] from rfl) ?_)
  show wpAny _ A.in1 (newTuple [va, vb] >>= _) _ _ _
  have hT : (hp.push { cls := .type "tuple", data := .seq #[va, vb] }).IsTuple hp.objs.size #[va, vb] := ⟨_, Heap.get?_push_size _ rfl, rfl, 0, rfl⟩
  have z1 : (hp.push { cls := .type "tuple", data := .seq #[va, vb] }).objs.size = hp.objs.size + 1 := Heap.size_push ..
  have k1 : KeepH hp (hp.push { cls := .type "tuple", data := .seq #[va, vb] }) := fun c o e => Heap.get?_push_of_some _ e
  refine wpAny_bind (wpAny_newObj_type (wpAny_bind (wpAny_pyIter_tuple hT (wpAny_bind (wpAny_newObj_type ?_)))))
  generalize hp.push { cls := .type "tuple", data := .seq #[va, vb] } = h1 at *
  generalize eT : hp.objs.size = T at *
  generalize eI : h1.objs.size = I at *
  have gI : (h1.push { cls := .type "tuple_iterator", data := .fields #[.ref T, .int 0 0] }).get? I = some { cls := .type "tuple_iterator", data := .fields #[.ref T, .int 0 0] } := by
    rw [← eI]
    exact Heap.get?_push_size _ rfl
  have k2 : KeepH h1 (h1.push { cls := .type "tuple_iterator", data := .fields #[.ref T, .int 0 0] }) := fun c o e => Heap.get?_push_of_some _ e
  have z2 : (h1.push { cls := .type "tuple_iterator", data := .fields #[.ref T, .int 0 0] }).objs.size = I + 1 := by
    rw [← eI]
    exact Heap.size_push ..
  have hIT : T ≠ I := by omega
  obtain ⟨oT, gT, cT, nT, dT⟩ := hT
  generalize h1.push { cls := .type "tuple_iterator", data := .fields #[.ref T, .int 0 0] } = h2 at *
  have gS : (h2.push { cls := .type "list", data := .seq #[] }).get? h2.objs.size = some { cls := .type "list", data := .seq #[] } := Heap.get?_push_size _ rfl
  have k3 : KeepH h2 (h2.push { cls := .type "list", data := .seq #[] }) := fun c o e => Heap.get?_push_of_some _ e
  show wpAny _ _ (pure (Fin.again (Code.builtin (toString "min" ++ toString ".loop") ⟨[.ref I, .none, .ref h2.objs.size], []⟩))) _ _ ⟨h2.push { cls := .type "list", data := .seq #[] }, gg, dd, tt, os⟩
  rw [nm]
  generalize eS : h2.objs.size = S at *
  generalize h2.push { cls := .type "list", data := .seq #[] } = h3 at *
  have hIS : S ≠ I := by
    omega
  have hST : S ≠ T := by omega
  have W := Walks.tuple (prog := prog) (w := w) (A := A.in1) hh I T hIT #[va, vb]
  refine wpAny_pure ⟨plainId_quiet PySem.F.plain_min_loop _, ?_⟩
  refine codeAny_builtin PySem.F.entry_min_loop ?_
  rw [Around.under_plainId PySem.F.plain_min_loop _]
  have st0 : h3.IsTupleIter I T 0 ∧ h3.IsTuple T #[va, vb] := ⟨⟨_, k3 _ _ gI, rfl, rfl⟩, ⟨oT, k3 _ _ (k2 _ _ gT), cT, nT, dT⟩⟩
  refine wpAny_bind (wpAny_seqItems gS rfl (wpAny_bind (wpAny_tryCatch (W.item 0 ⟨h3, gg, dd, tt, os⟩ _ _ (by show 0 < 2; decide) st0 fun v hq' tk hP st hk => ?_))))
  have ev : v = va := (Option.some.inj (show some va = some v from hP)).symm
  subst ev
  refine wpAny_bind (wpAny_pure ?_)
  have kk : ∀ d o, d ≠ I → h3.get? d = some o → hq'.get? d = some o := fun d o n e => hk d o (fun z => n (List.mem_singleton.mp z)) e
  have g2 := kk S _ hIS gS
  show wpAny _ _ (updateSeq S (fun _ => #[v, v]) >>= _) _ _ _
  refine wpAny_bind (wpAny_updateSeq g2 rfl ?_)
  rw [nm]
  have all : ∀ d o, hp.get? d = some o → d ≠ I ∧ d ≠ S ∧ hq'.get? d = some o := fun d o e => by
    have l : d < T := eT ▸ Heap.lt_size e
    have lI : T < I := by omega
    have lS : T < S := by omega
    have n1 : d ≠ I := Nat.ne_of_lt (Nat.lt_trans l lI)
    exact ⟨n1, Nat.ne_of_lt (Nat.lt_trans l lS), kk d o n1 (k3 _ _ (k2 _ _ (k1 _ _ e)))⟩
  refine wpAny_pure ⟨plainId_quiet PySem.F.plain_min_loop _, min_round (i := 1) (its := #[v, vb]) (vy := vb) (vx := v) (T := T) (b := k) hh hIT hIS hST ?_ rfl rfl (Heap.get?_update_self _ g2 rfl) (fun h' tk' kp => ?_) fun h' tk' kp => ?_⟩
  · refine W.frame _ _ _ st fun d hd o e => (Heap.get?_update_other _ _ ?_).trans e
    intro z
    rcases List.mem_cons.mp hd with q | q
    · exact hIS (z.trans q)
    · exact hST (z.trans (List.mem_singleton.mp q))
  · refine hc h' tk' fun d o e => ?_
    obtain ⟨n1, n2, e2⟩ := all d o e
    exact kp d o n1 ((Heap.get?_update_other _ _ (Ne.symm n2)).trans e2)
  · refine hq h' tk' fun d o e => ?_
    obtain ⟨n1, n2, e2⟩ := all d o e
    exact kp d o n1 n2 ((Heap.get?_update_other _ _ (Ne.symm n2)).trans e2)


/-- the loop of max behind its first item: best so far vx (twice at S), one more item vy to come, or none -/
theorem max_round {R : Result → Shared → Prop} {I S T : Addr} {vx vy : Value} {its : Array Value} {b : Bool} {c i : Nat} {s : Shared} (hh : A.handled = none) (hIT : T ≠ I) (hIS : S ≠ I) (hST : S ≠ T)
    (hit : s.heap.IsTupleIter I T i ∧ s.heap.IsTuple T its) (hy : its[i]? = some vy) (hend : its.size = i + 1) (hS : s.heap.get? S = some { cls := .type "list", dict := none, data := .seq #[vx, vx] c, slots := #[] })
    (hc : ∀ h' tk, (∀ b o, b ≠ I → s.heap.get? b = some o → h'.get? b = some o) → Ob.RcOp .Gt A.in1 { s with heap := h', toks := tk } vy vx b)
    (hR : ∀ h' tk, (∀ b o, b ≠ I → b ≠ S → s.heap.get? b = some o → h'.get? b = some o) → R (.ok (.ret (if b = true then vy else vx))) { s with heap := h', toks := tk }) :
    codeAny (model prog w) A (.builtin "max.loop" ⟨[.ref I, .none, .ref S], []⟩) R s := by
  have nm : (toString "max" ++ toString ".loop" : String) = "max.loop" := by decide
  have W := Walks.tuple (prog := prog) (w := w) (A := A.in1) hh I T hIT its
  -- no item is left: vz is handed back
  have last : ∀ (vz : Value) (c' : Nat) (s1 : Shared), s1.heap.IsTupleIter I T (i + 1) ∧ s1.heap.IsTuple T its → s1.heap.get? S = some { cls := .type "list", dict := none, data := .seq #[vz, vz] c', slots := #[] } →
      (∀ h' tk, (∀ b o, b ≠ I → b ≠ S → s1.heap.get? b = some o → h'.get? b = some o) → R (.ok (.ret vz)) { s1 with heap := h', toks := tk }) → codeAny (model prog w) A (.builtin "max.loop" ⟨[.ref I, .none, .ref S], []⟩) R s1 := by
    intro vz c' s1 st1 g1 r1
    obtain ⟨hp, gg, dd, tt, os⟩ := s1
    refine codeAny_builtin PySem.F.entry_max_loop ?_
    rw [Around.under_plainId PySem.F.plain_max_loop _]
    refine wpAny_bind (wpAny_seqItems g1 rfl (wpAny_bind (wpAny_tryCatch (W.done _ _ _ (hend ▸ st1) fun hq tk hk => ?_))))
    have g2 := hk S _ (fun z => hIS (List.mem_singleton.mp z)) g1
    refine wpAny_bind (wpAny_updateSeq g2 rfl (wpAny_bind (wpAny_letGo (wpAny_pure ?_))))
    exact r1 _ tk fun d o n1 n2 e => (Heap.get?_update_other _ _ (Ne.symm n2)).trans (hk d o (fun z => n1 (List.mem_singleton.mp z)) e)
  obtain ⟨hp, gg, dd, tt, os⟩ := s
  refine codeAny_builtin PySem.F.entry_max_loop ?_
  rw [Around.under_plainId PySem.F.plain_max_loop _]
  refine wpAny_bind (wpAny_seqItems hS rfl (wpAny_bind (wpAny_tryCatch (W.item i _ _ _ (by omega) hit fun v hq tk hP st hk => ?_))))
  have ev : v = vy := Option.some.inj ((show its[i]? = some v from hP).symm.trans hy)
  subst ev
  have kk : ∀ d o, d ≠ I → hp.get? d = some o → hq.get? d = some o := fun d o n e => hk d o (fun z => n (List.mem_singleton.mp z)) e
  have g2 := kk S _ hIS hS
  refine wpAny_bind (wpAny_pure ?_)
  show wpAny _ _ (tryCatch (holding [v, v] (richCompare _ v vx >>= _)) _ >>= _) _ _ _
  refine wpAny_bind (wpAny_tryCatch (wpAny_holding (wpAny_bind ((hc hq tk kk) prog w _ _ ?_))))
  refine wpAny_bind (wpAny_holding (wpAny_truthy_bool (wpAny_bind (wpAny_letGo (wpAny_pure ?_)))))
  cases b with
  | true =>
    simp only [if_true]
    refine wpAny_bind (wpAny_updateSeq g2 rfl (wpAny_bind (wpAny_letGo ?_)))
    rw [nm]
    have fr : ∀ d o, d ≠ S → hq.get? d = some o → (hq.update S fun o => { o with data := .seq #[v, v] (c + 1) }).get? d = some o := fun d o n e => (Heap.get?_update_other _ _ (Ne.symm n)).trans e
    refine wpAny_pure ⟨plainId_quiet PySem.F.plain_max_loop _, last v _ _ (W.frame _ _ _ st fun d hd o e => ?_) (Heap.get?_update_self _ g2 rfl) fun h' tk' hk' => ?_⟩
    · refine (Heap.get?_update_other _ _ ?_).trans e
      intro z
      rcases List.mem_cons.mp hd with q | q
      · exact hIS (z.trans q)
      · exact hST (z.trans (List.mem_singleton.mp q))
    · exact hR h' tk' fun d o n1 n2 e => hk' d o n1 n2 ((Heap.get?_update_other _ _ (Ne.symm n2)).trans (kk d o n1 e))
  | false =>
    simp only [Bool.false_eq_true, if_false]
    refine wpAny_bind (wpAny_letGo ?_)
    rw [nm]
    refine wpAny_pure ⟨plainId_quiet PySem.F.plain_max_loop _, last vx _ _ st g2 fun h' tk' hk' => ?_⟩
    exact hR h' tk' fun d o n1 n2 e => hk' d o n1 n2 (kk d o n1 e)

theorem max2_by {Q : Value → Shared → Prop} (hh : A.handled = none)
    (hc : ∀ h' tk, KeepH s.heap h' → Ob.RcOp .Gt A.in1 { s with heap := h', toks := tk } vb va k)
    (hq : ∀ h' tk, KeepH s.heap h' → Q (if k = true then vb else va) { s with heap := h', toks := tk }) :
    wpAny (model prog w) A (call (.builtin "max") [va, vb]) Q E s := by
  have nm : (toString "max" ++ toString ".loop" : String) = "max.loop" := by decide
  obtain ⟨hp, gg, dd, tt, os⟩ := s
  refine call_function_tree PySem.F.kind_max PySem.F.plain_max PySem.F.entry_max (PySem.F.args_max2 _ _) ?_
  refine wpAny_bind (wpAny_of_eq (show Builtin.Builtins.bindParams "max" ["key", "default"] 0 ⟨[], []⟩ = pure [none, none] from rfl) ?_)
  show wpAny _ A.in1 (newTuple [va, vb] >>= _) _ _ _
  have hT : (hp.push { cls := .type "tuple", data := .seq #[va, vb] }).IsTuple hp.objs.size #[va, vb] := ⟨_, Heap.get?_push_size _ rfl, rfl, 0, rfl⟩
  have z1 : (hp.push { cls := .type "tuple", data := .seq #[va, vb] }).objs.size = hp.objs.size + 1 := Heap.size_push ..
  have k1 : KeepH hp (hp.push { cls := .type "tuple", data := .seq #[va, vb] }) := fun c o e => Heap.get?_push_of_some _ e
  refine wpAny_bind (wpAny_newObj_type (wpAny_bind (wpAny_pyIter_tuple hT (wpAny_bind (wpAny_newObj_type ?_)))))
  generalize hp.push { cls := .type "tuple", data := .seq #[va, vb] } = h1 at *
  generalize eT : hp.objs.size = T at *
  generalize eI : h1.objs.size = I at *
  have gI : (h1.push { cls := .type "tuple_iterator", data := .fields #[.ref T, .int 0 0] }).get? I = some { cls := .type "tuple_iterator", data := .fields #[.ref T, .int 0 0] } := by
    rw [← eI]
    exact Heap.get?_push_size _ rfl
  have k2 : KeepH h1 (h1.push { cls := .type "tuple_iterator", data := .fields #[.ref T, .int 0 0] }) := fun c o e => Heap.get?_push_of_some _ e
  have z2 : (h1.push { cls := .type "tuple_iterator", data := .fields #[.ref T, .int 0 0] }).objs.size = I + 1 := by
    rw [← eI]
    exact Heap.size_push ..
  have hIT : T ≠ I := by omega
  obtain ⟨oT, gT, cT, nT, dT⟩ := hT
  generalize h1.push { cls := .type "tuple_iterator", data := .fields #[.ref T, .int 0 0] } = h2 at *
  have gS : (h2.push { cls := .type "list", data := .seq #[] }).get? h2.objs.size = some { cls := .type "list", data := .seq #[] } := Heap.get?_push_size _ rfl
  have k3 : KeepH h2 (h2.push { cls := .type "list", data := .seq #[] }) := fun c o e => Heap.get?_push_of_some _ e
  show wpAny _ _ (pure (Fin.again (Code.builtin (toString "max" ++ toString ".loop") ⟨[.ref I, .none, .ref h2.objs.size], []⟩))) _ _ ⟨h2.push { cls := .type "list", data := .seq #[] }, gg, dd, tt, os⟩
  rw [nm]
  generalize eS : h2.objs.size = S at *
  generalize h2.push { cls := .type "list", data := .seq #[] } = h3 at *
  have hIS : S ≠ I := by
    omega
  have hST : S ≠ T := by omega
  have W := Walks.tuple (prog := prog) (w := w) (A := A.in1) hh I T hIT #[va, vb]
  refine wpAny_pure ⟨plainId_quiet PySem.F.plain_max_loop _, ?_⟩
  refine codeAny_builtin PySem.F.entry_max_loop ?_
  rw [Around.under_plainId PySem.F.plain_max_loop _]
  have st0 : h3.IsTupleIter I T 0 ∧ h3.IsTuple T #[va, vb] := ⟨⟨_, k3 _ _ gI, rfl, rfl⟩, ⟨oT, k3 _ _ (k2 _ _ gT), cT, nT, dT⟩⟩
  refine wpAny_bind (wpAny_seqItems gS rfl (wpAny_bind (wpAny_tryCatch (W.item 0 ⟨h3, gg, dd, tt, os⟩ _ _ (by show 0 < 2; decide) st0 fun v hq' tk hP st hk => ?_))))
  have ev : v = va := (Option.some.inj (show some va = some v from hP)).symm
  subst ev
  refine wpAny_bind (wpAny_pure ?_)
  have kk : ∀ d o, d ≠ I → h3.get? d = some o → hq'.get? d = some o := fun d o n e => hk d o (fun z => n (List.mem_singleton.mp z)) e
  have g2 := kk S _ hIS gS
  show wpAny _ _ (updateSeq S (fun _ => #[v, v]) >>= _) _ _ _
  refine wpAny_bind (wpAny_updateSeq g2 rfl ?_)
  rw [nm]
  have all : ∀ d o, hp.get? d = some o → d ≠ I ∧ d ≠ S ∧ hq'.get? d = some o := fun d o e => by
    have l : d < T := eT ▸ Heap.lt_size e
    have lI : T < I := by omega
    have lS : T < S := by omega
    have n1 : d ≠ I := Nat.ne_of_lt (Nat.lt_trans l lI)
    exact ⟨n1, Nat.ne_of_lt (Nat.lt_trans l lS), kk d o n1 (k3 _ _ (k2 _ _ (k1 _ _ e)))⟩
  refine wpAny_pure ⟨plainId_quiet PySem.F.plain_max_loop _, max_round (i := 1) (its := #[v, vb]) (vy := vb) (vx := v) (T := T) (b := k) hh hIT hIS hST ?_ rfl rfl (Heap.get?_update_self _ g2 rfl) (fun h' tk' kp => ?_) fun h' tk' kp => ?_⟩
  · refine W.frame _ _ _ st fun d hd o e => (Heap.get?_update_other _ _ ?_).trans e
    intro z
    rcases List.mem_cons.mp hd with q | q
    · exact hIS (z.trans q)
    · exact hST (z.trans (List.mem_singleton.mp q))
  · refine hc h' tk' fun d o e => ?_
    obtain ⟨n1, n2, e2⟩ := all d o e
    exact kp d o n1 ((Heap.get?_update_other _ _ (Ne.symm n2)).trans e2)
  · refine hq h' tk' fun d o e => ?_
    obtain ⟨n1, n2, e2⟩ := all d o e
    exact kp d o n1 n2 ((Heap.get?_update_other _ _ (Ne.symm n2)).trans e2)

end
/-! ### min(t, u), max(t, u) of two tuples of ints -/
/-- t < u by the model's own look from place to place -/
def lexP (lt : Int → Int → Bool) (e : Bool) (ns ms : List Int) : Bool := Ob.lexAt (fun j => decide (ns.getD j 0 = ms.getD j 0)) (fun j => lt (ns.getD j 0) (ms.getD j 0)) e 0 (min ns.length ms.length)
section
variable {X : Cx}
theorem tup_ops {s : Shared} {pins : List (Addr × Obj)} {σ : L2.St} {H : Hp} {a b : Addr} {ns ms : List Int} (I : L2.Inv X pins σ H s) (ha : H a = some (.tup (ns.map V.int))) (hb : H b = some (.tup (ms.map V.int))) (hu : X.A.units + 1 < cLine) (h' : Heap) (tk : Nat) (kp : KeepH s.heap h') :
    Ob.RcOp .Lt X.A.in1 { s with heap := h', toks := tk } (.ref a) (.ref b) (lexP (fun x y => decide (x < y)) (decide (ns.length < ms.length)) ns ms) ∧
    Ob.RcOp .Gt X.A.in1 { s with heap := h', toks := tk } (.ref a) (.ref b) (lexP (fun x y => decide (x > y)) (decide (ns.length > ms.length)) ns ms) := by
  obtain ⟨its, r1, p1, _⟩ := I.tuple (SqT.of ha)
  obtain ⟨its2, r2, p2, _⟩ := I.tuple (SqT.of hb)
  have i1 : IntsAre its ns := Vals.ints r1
  have i2 : IntsAre its2 ms := Vals.ints r2
  have e1 : its.toArray.size = ns.length := by rw [List.size_toArray]; exact i1.length
  have e2 : its2.toArray.size = ms.length := by rw [List.size_toArray]; exact i2.length
  obtain ⟨o1, g1, c1, n1, d1⟩ := p1
  obtain ⟨o2, g2, c2, n2, d2⟩ := p2
  have q1 : Heap.IsTuple h' a its.toArray := ⟨o1, kp _ _ g1, c1, n1, d1⟩
  have q2 : Heap.IsTuple h' b its2.toArray := ⟨o2, kp _ _ g2, c2, n2, d2⟩
  have at1 : ∀ j (h1 : j < its.toArray.size), ∃ t, its.toArray[j] = .int (ns.getD j 0) t := fun j h1 => PyProof.Rows.IntsAre.int_at i1 _ _ (by simp at h1; simp [h1])
  have at2 : ∀ j (h1 : j < its2.toArray.size), ∃ t, its2.toArray[j] = .int (ms.getD j 0) t := fun j h1 => PyProof.Rows.IntsAre.int_at i2 _ _ (by simp at h1; simp [h1])
  have eqs : ∀ (B : Around) (s2 : Shared) j (h1 : j < its.toArray.size) (h2 : j < its2.toArray.size), SeqAt.EqAt B s2 its.toArray[j] its2.toArray[j] (decide (ns.getD j 0 = ms.getD j 0)) := fun B s2 j h1 h2 => by
    obtain ⟨t, et⟩ := at1 j h1
    obtain ⟨t', et'⟩ := at2 j h2
    rw [et, et', ← Bool.beq_eq_decide_eq]
    exact SeqAt.EqAt.int_int _ _ _ _
  constructor
  · have R := Ob.RcOp.tuples_lt (A := X.A.in1) (s := { s with heap := h', toks := tk }) (e := fun j => decide (ns.getD j 0 = ms.getD j 0)) (r := fun j => decide (ns.getD j 0 < ms.getD j 0)) q1 q2 hu (eqs _ _) (fun j h1 h2 _ => by
      obtain ⟨t, et⟩ := at1 j h1
      obtain ⟨t', et'⟩ := at2 j h2
      rw [et, et']
      exact Ob.RcOp.lt_int _ _ _ _)
    rw [e1, e2] at R
    exact R
  · have R := Ob.RcOp.tuples_gt (A := X.A.in1) (s := { s with heap := h', toks := tk }) (e := fun j => decide (ns.getD j 0 = ms.getD j 0)) (r := fun j => decide (ns.getD j 0 > ms.getD j 0)) q1 q2 hu (eqs _ _) (fun j h1 h2 _ => by
      obtain ⟨t, et⟩ := at1 j h1
      obtain ⟨t', et'⟩ := at2 j h2
      rw [et, et']
      exact Ob.RcOp.gt_int _ _ _ _)
    rw [e1, e2] at R
    exact R
/-- min(t, u), max(t, u), both tracked tuples of ints: one of the two themselves -/
def rBest (lt : List Int → List Int → Bool) : List V → Hp → VK → Prop := fun xs H Q => ∃ (a b : Addr) (ns ms : List Int), xs = [.ref a, .ref b] ∧ H a = some (.tup (ns.map V.int)) ∧ H b = some (.tup (ms.map V.int)) ∧ Q (.ref (if lt ms ns = true then b else a)) H
theorem call_minT (hc : X.calm = true) (hu : X.A.units + 1 < cLine) : CallR X (.builtin "min") (rBest fun ns ms => lexP (fun x y => decide (x < y)) (decide (ns.length < ms.length)) ns ms) := by
  intro pins s σ H xs us Q I r h
  obtain ⟨a, b, ns, ms, rfl, ha, hb, q⟩ := h
  obtain ⟨u, w', rfl, r1, r2⟩ := vals2 r
  cases r1
  cases r2
  refine min2_by (I.ok.hd hc) (fun h' tk kp => (tup_ops I hb ha hu h' tk kp).1) fun h' tk kp => ⟨_, H, I.kept kp, ?_, q⟩
  split <;> rfl
theorem call_maxT (hc : X.calm = true) (hu : X.A.units + 1 < cLine) : CallR X (.builtin "max") (rBest fun ns ms => lexP (fun x y => decide (x > y)) (decide (ns.length > ms.length)) ns ms) := by
  intro pins s σ H xs us Q I r h
  obtain ⟨a, b, ns, ms, rfl, ha, hb, q⟩ := h
  obtain ⟨u, w', rfl, r1, r2⟩ := vals2 r
  cases r1
  cases r2
  refine max2_by (I.ok.hd hc) (fun h' tk kp => (tup_ops I hb ha hu h' tk kp).2) fun h' tk kp => ⟨_, H, I.kept kp, ?_, q⟩
  split <;> rfl
end
/-! ### f(k = v, ..), keywords alone -/
section
variable {X : Cx} {CX : CXT} {k : Nat} {f : Addr} {fd : FuncData} {ps ks : List Str} {sp : Sp} {x : Str} {p pos : Pos} {E : XK} {tk : TA} {kws : List Keyword} {g : List Value → List Value → List Value} {gV : List V → List V → List V}
theorem pe_callKw (F : FnOk X.prog X.w X.K X.mg X.base CX k f fd ps sp) (hr : Room k X.A) (hg : Gl X x) (hm : X.mg x = some (.ref f)) (hk : PySem.W.keepIn X.K (.ref f) = true) (hb : KBinds X.K fd ps ks g gV) (hx : Passes CX X E)
    (hkw : PK X kws tk) (hall : (backToKw pos (keywordEach kws X.env)).all (·.1.isSome) = true := by rfl) (hks : (backToKw pos (keywordEach kws X.env)).filterMap (·.1) = ks := by rfl)
    (hdb : (x == ("__debug__" : Str)) = false := by decide) (hpl : ((backTo pos (starEach [] X.env)).any (·.1) || (backToKw pos (keywordEach kws X.env)).any (·.1.isNone)) = false := by rfl) :
    PE X (.Call (.Name x p) [] kws pos) (fun σ H Q => tk σ H fun zs H2 => sp (gV [] zs) H2 Q E) := by
  refine ⟨fun pins s σ H Q I h => ?_⟩
  refine wpAny_Call_Name_kw (ld_glob I hg hm ?_ hdb)
  refine PySem.W.callWith_KW0 (h₀ := X.base) I.ok.mod.kin hk hall (thn (hkw.run pos pins s σ H _ I h) fun ws s2 ⟨zs, H2, I2, rz, q2⟩ => ⟨I2.kIn, ?_⟩) hpl
  rw [hks]
  exact run_fnk (us := []) (vs := []) F hr hb hx I2 .nil rz q2
end
/-! ### what a source is, and what a step leaves -/
/-- a source at s: three ints -/
def Src (H : Hp) (s : Addr) : Prop := ∃ a b c : Int, H s = some (.lst [.int a, .int b, .int c])
theorem Src.ne {H : Hp} {s p : Addr} {o : HO} (h : Src H s) (e : H p = some o) (d : ∀ a b c : Int, o ≠ .lst [.int a, .int b, .int c]) : p ≠ s := by
  obtain ⟨a, b, c, q⟩ := h
  exact ne_of e q (d a b c)
theorem Src.nen {H : Hp} {s p : Addr} (h : Src H s) (e : H p = none) : p ≠ s := by
  obtain ⟨a, b, c, q⟩ := h
  exact (ne_of_none q e).symm
/-- from H to H' all stands but the source at s, which is still one -/
structure Stp (s : Addr) (H H' : Hp) : Prop where
  keep : ∀ b o, b ≠ s → H b = some o → H' b = some o
  src : Src H' s
theorem Stp.refl {s : Addr} {H : Hp} (h : Src H s) : Stp s H H := ⟨fun _ _ _ e => e, h⟩
theorem Stp.trans {s : Addr} {H H1 H2 : Hp} (a : Stp s H H1) (b : Stp s H1 H2) : Stp s H H2 := ⟨fun c o n e => b.keep c o n (a.keep c o n e), b.src⟩
theorem Stp.new {s : Addr} {H H' : Hp} {p : Addr} {o : HO} (a : Stp s H H') (n : H' p = none) : Stp s H (upd H' p o) := by
  obtain ⟨x, y, z, e⟩ := a.src
  refine ⟨fun b u nb eb => ?_, x, y, z, ?_⟩
  · have q := a.keep b u nb eb
    rw [upd_ne (ne_of_none q n)]
    exact q
  · rw [upd_ne (ne_of_none e n)]
    exact e
theorem Stp.turn {s : Addr} {H H' : Hp} (a : Stp s H H') (x y z : Int) : Stp s H (upd H' s (.lst [.int x, .int y, .int z])) :=
  ⟨fun b u nb eb => by rw [upd_ne nb]; exact a.keep b u nb eb, x, y, z, upd_same⟩
theorem Stp.free {s p : Addr} {H H' : Hp} (a : Stp s H H') (n : H' p = none) : H p = none := by
  cases q : H p with
  | none => rfl
  | some o =>
    have np : p ≠ s := a.src.nen n
    rw [a.keep _ _ np q] at n
    cases n
theorem Stp.set {s : Addr} {H H' : Hp} {p : Addr} {o : HO} (a : Stp s H H') (n : H p = none) (np : p ≠ s) : Stp s H (upd H' p o) := by
  obtain ⟨x, y, z, e⟩ := a.src
  refine ⟨fun b u nb eb => ?_, x, y, z, ?_⟩
  · rw [upd_ne (ne_of_none eb n)]
    exact a.keep b u nb eb
  · rw [upd_ne np.symm]
    exact e
/-- a site at t -/
def Sit (H : Hp) (t : Addr) (x y : Int) : Prop := H t = some (.tup [.int x, .int y])
theorem Sit.ne {H : Hp} {s t : Addr} {x y : Int} (h : Sit H t x y) (q : Src H s) : t ≠ s := q.ne h fun _ _ _ z => by cases z
theorem Sit.stp {H H' : Hp} {s t : Addr} {x y : Int} (h : Sit H t x y) (q : Src H s) (a : Stp s H H') : Sit H' t x y := a.keep _ _ (h.ne q) h
theorem Sit.same {H H' : Hp} {t : Addr} {x y : Int} (h : Sit H t x y) (a : Same H H') : Sit H' t x y := a _ _ h

theorem b2i_small (b : Bool) : -(2 ^ 64) < (if b = true then (1 : Int) else 0) ∧ (if b = true then (1 : Int) else 0) < 2 ^ 64 := by cases b <;> decide
theorem sm {m : Int} (h : m.natAbs < 2 ^ 64) : m.natAbs < 2 ^ 8000 := Nat.lt_of_lt_of_le h (Nat.pow_le_pow_right (by decide) (by decide))
theorem Same.upd {H : Hp} {p : Addr} {o : HO} (h : H p = none) : Same H (upd H p o) := fun b x e => by
  rw [upd_ne (ne_of_none e h)]
  exact e
theorem Stp.same {s : Addr} {H H1 H2 : Hp} (a : Stp s H H1) (b : Same H1 H2) : Stp s H H2 := by
  obtain ⟨x, y, z, e⟩ := a.src
  exact ⟨fun c o n q => b _ _ (a.keep c o n q), x, y, z, b _ _ e⟩
/-! ### ** 2 and // of great numbers, of either sign -/
def CSq (i j : Int) : Prop := j = 2 ∧ i.natAbs < 2 ^ 1000
theorem op_sq {X : Cx} : OpR X (binaryOp .Pow) (rI CSq fun i _ => .int (i * i)) := opI fun i j _ _ _ _ _ hc q => by
  obtain ⟨rfl, hb⟩ := hc
  refine pow_int (by decide) ?_ (by rw [show i ^ (2 : Int).toNat = i * i from Int.pow_succ i 1 ▸ by rw [Int.pow_one]]; exact q)
  have b : Builtin.Int.intBits i ≤ i.natAbs.log2 + 1 := by
    unfold Builtin.Int.intBits
    split <;> omega
  have l := PySem.Flt.log2_lt_of (by decide : 0 < 1000) hb
  omega
def CDivE (_ j : Int) : Prop := j ≠ 0 ∧ j.natAbs < 2 ^ 8000
theorem op_fdivE {X : Cx} : OpR X (binaryOp .FloorDiv) (rI CDivE fun i j => .int (i.fdiv j)) := opI fun i j _ _ _ _ _ hc q =>
  floordiv_int hc.1 q (.inl (PyProof.noPylong_of_log2 (Nat.lt_of_lt_of_le (PySem.Flt.log2_lt_of (by decide) hc.2) (by decide))))
/-! ### readings made weaker -/
theorem peOf {X : Cx} {e : Expr} {t t' : TE} (h : PE X e t) (m : ∀ σ H Q, t' σ H Q → t σ H Q) : PE X e t' := ⟨fun pins s σ H Q I hw => h.run pins s σ H Q I (m σ H Q hw)⟩
theorem paOf {X : Cx} {es : List Expr} {t t' : TA} (h : PA X es t) (m : ∀ σ H Q, t' σ H Q → t σ H Q) : PA X es t' := ⟨fun pos pins s σ H Q I hw => h.run pos pins s σ H Q I (m σ H Q hw)⟩
theorem psOf {X : Cx} {st : Stmt} {t t' : TS} (h : PS X st t) (m : ∀ D σ H, t' D σ H → t D σ H) : PS X st t' := ⟨fun pins s σ H D I hw => h.run pins s σ H D I (m D σ H hw)⟩
theorem pssOf {X : Cx} {st : List Stmt} {t t' : TS} (h : PSs X st t) (m : ∀ D σ H, t' D σ H → t D σ H) : PSs X st t' := ⟨fun pins s σ H D I hw => h.run pins s σ H D I (m D σ H hw)⟩
/-- a written number with a minus -/
theorem pe_neg {X : Cx} {i : Int} {j : Nat} {p p2 : Pos} : PE X (.UnaryOp .USub (.Constant (.int i) j p) p2) (tC (.int (-i))) := peOf (pe_un un_neg pe_int) fun _ _ _ h => ⟨_, rfl, h⟩
/-! ### displays of sites -/
def Bd (b x y : Int) : Prop := -b ≤ x ∧ x ≤ b ∧ -b ≤ y ∧ y ≤ b
theorem Bd.mono {b c x y : Int} (h : Bd b x y) (l : b ≤ c) : Bd c x y := by
  obtain ⟨h1, h2, h3, h4⟩ := h
  exact ⟨by omega, by omega, by omega, by omega⟩
/-- every address of ps a site within b -/
def Sits (b : Int) (H : Hp) (ps : List Addr) : Prop := ∀ p ∈ ps, ∃ x y, Sit H p x y ∧ Bd b x y
theorem Sits.same {b : Int} {H H' : Hp} {ps : List Addr} (h : Sits b H ps) (a : Same H H') : Sits b H' ps := fun p m => by
  obtain ⟨x, y, e, d⟩ := h p m
  exact ⟨x, y, a _ _ e, d⟩
theorem Sits.stp {b : Int} {s : Addr} {H H' : Hp} {ps : List Addr} (h : Sits b H ps) (q : Src H s) (a : Stp s H H') : Sits b H' ps := fun p m => by
  obtain ⟨x, y, e, d⟩ := h p m
  exact ⟨x, y, e.stp q a, d⟩
theorem Sits.put {b : Int} {H : Hp} {ps : List Addr} {p : Addr} {o : HO} (h : Sits b H ps) (n : ∀ x y, H p ≠ some (.tup [.int x, .int y])) : Sits b (upd H p o) ps := fun r m => by
  obtain ⟨x, y, e, d⟩ := h r m
  refine ⟨x, y, ?_, d⟩
  show upd H p o r = _
  rw [upd_ne (fun z => n x y (by rw [← z]; exact e))]
  exact e
def tSit (b : Int) : TE := fun _ H Q => ∀ (p : Addr) H' (x y : Int), Same H H' → H p = none → Sit H' p x y → Bd b x y → Q (.ref p) H'
def tSits (b : Int) (n : Nat) : TA := fun _ H Q => ∀ (ps : List Addr) H', Same H H' → ps.length = n → Sits b H' ps → Q (ps.map V.ref) H'
theorem two_line : 2 ≤ sizeLine := by decide
theorem pe_sit {X : Cx} {e1 e2 : Expr} {k : Nat} {pos : Pos} {x y b : Int} (h : PA X [e1, e2] (tCons (tC (.int x)) (tCons (tC (.int y)) tNil))) (hb : Bd b x y) : PE X (.Tuple [e1, e2] k pos) (tSit b) :=
  peOf (pe_tup h) fun _ H Q q => ⟨two_line, fun p np => q p _ x y (Same.upd np) np upd_same hb⟩
theorem sits_nil {b : Int} : ∀ σ H Q, tSits b 0 σ H Q → tNil σ H Q := fun _ H Q q => q [] H (Same.refl _) rfl (fun _ m => nomatch m)
theorem sits_cons {b : Int} {n : Nat} : ∀ σ H Q, tSits b (n + 1) σ H Q → tCons (tSit b) (tSits b n) σ H Q := fun _ H Q q p H1 x y s1 _ e d ps H2 s2 l h => by
  refine q (p :: ps) H2 (s1.trans s2) (by rw [List.length_cons, l]) fun r m => ?_
  rcases List.mem_cons.mp m with rfl | m
  · exact ⟨x, y, s2 _ _ e, d⟩
  · exact h r m
theorem pa_sits0 {X : Cx} {b : Int} : PA X [] (tSits b 0) := paOf pa_nil sits_nil
theorem pa_sits {X : Cx} {e : Expr} {es : List Expr} {b : Int} {n : Nat} (h : PE X e (tSit b)) (hs : PA X es (tSits b n)) (st : starEach (e :: es) X.env = (false, eval e X.env) :: starEach es X.env := by rfl) : PA X (e :: es) (tSits b (n + 1)) := paOf (pa_cons h hs st) sits_cons
end Nc


/-! Own rules: math.gcd of three ints. -/
namespace Nc
open PySem PySem.Spec PyProof.Rows L2
section
open PySem.Calls
theorem gcd3_run (a : Int) (t : Tok) (b : Int) (u : Tok) (c : Int) (v : Tok) :
    Gives (Builtin.«math.gcd» ⟨[.int a t, .int b u, .int c v], []⟩) (.int (((((Nat.gcd 0 a.natAbs).gcd b.natAbs).gcd c.natAbs : Nat) : Int))) :=
  .of_wp fun M A E s Q h => by obtain ⟨hp, g, d, tk, os⟩ := s; wp_walk; exact ⟨_, rfl, h⟩
theorem gcd3_args (a b c : Value) : argsOk "math.gcd" ⟨[a, b, c], []⟩ := by unfold argsOk; kernel_rfl
end
section
variable {X : Cx}
def rGcd3 : List V → Hp → VK → Prop := fun vs H Q => ∃ a b c : Int, vs = [.int a, .int b, .int c] ∧ Q (.int ((Nat.gcd (Nat.gcd a.natAbs b.natAbs) c.natAbs : Nat) : Int)) H
theorem cr_gcd3 : CallR X (.builtin "math.gcd") rGcd3 := by
  intro pins s σ H vs us Q I r h
  obtain ⟨a, b, c, rfl, q⟩ := h
  cases r with
  | cons r1 r => cases r with
    | cons r2 r => cases r with
      | cons r3 r =>
        cases r
        obtain ⟨t1, rfl⟩ := r1
        obtain ⟨t2, rfl⟩ := r2
        obtain ⟨t3, rfl⟩ := r3
        have g := gcd3_run a t1 b t2 c t3
        rw [Nat.gcd_zero_left] at g
        exact call_function_meets PySem.W.MGF.kind_gcd PySem.W.MGF.plain_gcd PySem.W.MGF.entry_gcd (gcd3_args _ _ _) g.meets ⟨.int _, H, I.tok _, ⟨_, rfl⟩, q⟩
end
end Nc

/-! Own rules: small steps that answer what a term asks: used by the local macros of walk.txt. -/
namespace Nc
open PySem PySem.Spec PyProof.Rows L2
section
variable {K : PySem.W.Frag} {H : Hp} {Q : VK} {p q : Addr} {xs ys : List V} {i j : Int} {v x y : V}
theorem w_ixT (h : H p = some (.tup xs)) (e : atI xs i = some v) (z : Q v H) : rIxT K (.ref p) (.int i) H Q := ⟨_, _, _, _, rfl, rfl, SqT.of h, e, z⟩
theorem w_ixL (h : H p = some (.lst xs)) (e : atI xs i = some v) (z : Q v H) : rIxL K (.ref p) (.int i) H Q := ⟨_, _, _, _, rfl, rfl, SqL.of h, e, z⟩
theorem w_gtup {n : Nat} {t : TGs} {σ : L2.St} {Qs : L2.St → Hp → Prop} (h : H p = some (.tup xs)) (e : xs.length = n) (z : t xs σ H Qs) : gTup K n t (.ref p) σ H Qs := ⟨_, _, rfl, SqT.of h, e, z⟩
theorem w_itt {p A B : Prop} [Decidable p] (h : p) (a : A) : if decide p = true then A else B := by
  rw [decide_eq_true h, if_pos rfl]
  exact a
theorem w_itf {p A B : Prop} [Decidable p] (h : ¬ p) (b : B) : if decide p = true then A else B := by
  rw [decide_eq_false h, if_neg (by decide)]
  exact b
theorem w_ntt {p A B : Prop} [Decidable p] (h : p) (b : B) : if (!decide p) = true then A else B := by
  rw [decide_eq_true h, if_neg (by decide)]
  exact b
theorem w_ntf {p A B : Prop} [Decidable p] (h : ¬ p) (a : A) : if (!decide p) = true then A else B := by
  rw [decide_eq_false h, if_pos (by decide)]
  exact a
theorem w_ifd {p A B : Prop} [Decidable p] (h1 : p → A) (h2 : ¬ p → B) : if decide p = true then A else B := by
  by_cases h : p
  · exact w_itt h (h1 h)
  · exact w_itf h (h2 h)
theorem w_ifnd {p A B : Prop} [Decidable p] (h1 : p → B) (h2 : ¬ p → A) : if (!decide p) = true then A else B := by
  by_cases h : p
  · exact w_ntt h (h1 h)
  · exact w_ntf h (h2 h)
theorem w_if {c : Bool} {A B : Prop} (h1 : c = true → A) (h2 : c = false → B) : if c = true then A else B := by
  cases c
  · exact h2 rfl
  · exact h1 rfl
end
/-! bits -/
theorem nbm {a b : Int} {k : Nat} (ha : a.natAbs < 2 ^ (k / 2)) (hb : b.natAbs < 2 ^ (k / 2)) : (a * b).natAbs < 2 ^ k := by
  have h : a.natAbs * b.natAbs < 2 ^ (k / 2) * 2 ^ (k / 2) := Nat.mul_lt_mul'' ha hb
  rw [Int.natAbs_mul]
  rw [← Nat.pow_add] at h
  exact Nat.lt_of_lt_of_le h (Nat.pow_le_pow_right (by decide) (by omega))
theorem nba {a b : Int} {k : Nat} (h : 0 < k) (ha : a.natAbs < 2 ^ (k - 1)) (hb : b.natAbs < 2 ^ (k - 1)) : (a + b).natAbs < 2 ^ k := by
  obtain ⟨m, rfl⟩ : ∃ m, k = m + 1 := ⟨k - 1, by omega⟩
  rw [Nat.add_sub_cancel] at ha hb
  rw [Nat.pow_succ]
  omega
theorem nbs {a b : Int} {k : Nat} (h : 0 < k) (ha : a.natAbs < 2 ^ (k - 1)) (hb : b.natAbs < 2 ^ (k - 1)) : (a - b).natAbs < 2 ^ k := by
  obtain ⟨m, rfl⟩ : ∃ m, k = m + 1 := ⟨k - 1, by omega⟩
  rw [Nat.add_sub_cancel] at ha hb
  rw [Nat.pow_succ]
  omega
theorem nbn {a : Int} {k : Nat} (ha : a.natAbs < 2 ^ k) : (-a).natAbs < 2 ^ k := by rwa [Int.natAbs_neg]
theorem nbu {a : Int} {j k : Nat} (ha : a.natAbs < 2 ^ j) (h : j ≤ k) : a.natAbs < 2 ^ k := Nat.lt_of_lt_of_le ha (Nat.pow_le_pow_right (by decide) h)
theorem nbd {a b : Int} {k : Nat} (ha : a.natAbs < 2 ^ k) : (a.fdiv b).natAbs < 2 ^ (k + 1) := by
  rw [Nat.pow_succ]
  have h := ha
  rcases Int.lt_trichotomy b 0 with hb | hb | hb
  · have e : a.fdiv b = (-a).fdiv (-b) := (Int.neg_fdiv_neg a b).symm
    rw [e, Int.fdiv_eq_ediv_of_nonneg _ (by omega)]
    have := Int.natAbs_ediv_le_natAbs (-a) (-b)
    omega
  · subst hb
    rw [Int.fdiv_zero]
    omega
  · rw [Int.fdiv_eq_ediv_of_nonneg _ (by omega)]
    have := Int.natAbs_ediv_le_natAbs a b
    omega
theorem cmw {a b : Int} (ha : a.natAbs < 2 ^ 8000) (hb : b.natAbs < 2 ^ 8000) : CMulW a b := wide_mul ha hb (by decide) (by decide) (by decide)
end Nc

/-! Own rules: a def of the text with all that a caller needs, in one. -/
namespace Nc
open PySem PySem.Spec PyProof.Rows L2
/-- the def x as it stands behind the top -/
structure Df (K : PySem.W.Frag) (mg : Str → Option Value) (x : Str) (st : Stmt) (ps : List Str) : Prop where
  ex : ∃ (f : Addr) (fd : FuncData), Fun K x x st f fd ∧ mg x = some (.ref f) ∧ PySem.W.keepIn K (.ref f) = true ∧ Binds K fd ps []
/-- the def x keeps its promise -/
structure Cl (P : Program) (w : World) (K : PySem.W.Frag) (mg : Str → Option Value) (base : Heap) (CX : CXT) (x : Str) (k : Nat) (ps : List Str) (sp : Sp) : Prop where
  ex : ∃ (f : Addr) (fd : FuncData), FnOk P w K mg base CX k f fd ps sp ∧ mg x = some (.ref f) ∧ PySem.W.keepIn K (.ref f) = true ∧ Binds K fd ps []
section
variable {P : Program} {w : World} {K : PySem.W.Frag} {mg : Str → Option Value} {base : Heap} {CX : CXT} {x : Str} {k : Nat} {ps : List Str} {sp : Sp} {st : Stmt}
theorem Df.mk' {f : Addr} {fd : FuncData} (F : Fun K x x st f fd) (g : mg x = some (.ref f)) (k : PySem.W.keepIn K (.ref f) = true) (b : Binds K fd ps []) : Df K mg x st ps := ⟨f, fd, F, g, k, b⟩
theorem Df.cl (D : Df K mg x st ps) (h : ∀ f fd, Fun K x x st f fd → FnOk P w K mg base CX k f fd ps sp) : Cl P w K mg base CX x k ps sp := by
  obtain ⟨f, fd, F, g, kk, b⟩ := D.ex
  exact ⟨f, fd, h f fd F, g, kk, b⟩
theorem Cl.imp {sp' : Sp} (C : Cl P w K mg base CX x k ps sp) (h : ∀ vs H Q E, sp' vs H Q E → sp vs H Q E) : Cl P w K mg base CX x k ps sp' := by
  obtain ⟨f, fd, F, g, kk, b⟩ := C.ex
  exact ⟨f, fd, F.imp h, g, kk, b⟩
theorem Cl.up {j : Nat} (C : Cl P w K mg base CX x j ps sp) (h : j ≤ k) : Cl P w K mg base CX x k ps sp := by
  obtain ⟨f, fd, F, g, kk, b⟩ := C.ex
  exact ⟨f, fd, F.mono h, g, kk, b⟩
end
section
variable {X : Cx} {CX : CXT} {k : Nat} {ps : List Str} {sp : Sp} {E : XK} {x : Str} {p pos : Pos} {e : Expr} {es : List Expr} {t : TA}
theorem pe_cl (C : Cl X.prog X.w X.K X.mg X.base CX x k ps sp) (hr : Room k X.A) (hg : Gl X x) (hx : Passes CX X E) (ha : PA X (e :: es) t) (hdb : (x == ("__debug__" : Str)) = false := by decide) (he : starEach (e :: es) X.env = (false, eval e X.env) :: starEach es X.env := by rfl) (hpl : (backTo pos (starEach es X.env)).any (·.1) = false := by rfl) :
    PE X (.Call (.Name x p) (e :: es) [] pos) (tCall sp [] E t) := by
  obtain ⟨f, fd, F, g, kk, b⟩ := C.ex
  exact pe_call F hr hg g kk b .nil hx ha hdb he hpl
theorem pe_cl0 (C : Cl X.prog X.w X.K X.mg X.base CX x k ps sp) (hr : Room k X.A) (hg : Gl X x) (hx : Passes CX X E) (hdb : (x == ("__debug__" : Str)) = false := by decide) : PE X (.Call (.Name x p) [] [] pos) (tCall sp [] E tNil) := by
  obtain ⟨f, fd, F, g, kk, b⟩ := C.ex
  exact pe_call0 F hr hg g kk b .nil hx hdb
end
/-! ### tuples of ints that are compared -/
section
variable {K : PySem.W.Frag} {H : Hp} {Q : VK} {p q : Addr} {ns ms : List Int}
theorem dpa_ints : ∀ (ns : List Int), DpAll K H (ns.map V.int) (ns.map PyData.int)
  | [] => .nil
  | n :: ns => .cons (.int n) (dpa_ints ns)
theorem dp_ints (h : H p = some (.tup (ns.map V.int))) : Dp K H (.ref p) (.tuple (ns.map PyData.int)) := .tup (SqT.of h) (dpa_ints ns)
theorem dpl_ints (h : H p = some (.lst (ns.map V.int))) : Dp K H (.ref p) (.list (ns.map PyData.int)) := .lst (SqL.of h) (dpa_ints ns)
theorem eqva_ints : ∀ (ns ms : List Int), PyData.eqvAll (ns.map PyData.int) (ms.map PyData.int) = decide (ns = ms)
  | [], [] => rfl
  | [], m :: ms => rfl
  | n :: ns, [] => rfl
  | n :: ns, m :: ms => by
    have ih := eqva_ints ns ms
    simp only [List.map_cons, PyData.eqvAll, PyData.eqv]
    rw [ih]
    by_cases e : n = m
    · subst e
      simp
    · simp [e]
theorem eqv_ints (ns ms : List Int) : PyData.eqv (.tuple (ns.map PyData.int)) (.tuple (ms.map PyData.int)) = decide (ns = ms) := by
  rw [← eqva_ints ns ms]
  simp only [PyData.eqv]
theorem shaped_all : ∀ ns : List Int, PyData.canLayAll0 (ns.map PyData.int) = true ∧ PyData.depthAll (ns.map PyData.int) = 0
  | [] => ⟨rfl, rfl⟩
  | n :: ns => by
    obtain ⟨h1, h2⟩ := shaped_all ns
    simp only [List.map_cons, PyData.canLayAll0, PyData.canLay0, PyData.depthAll, PyData.depth, h1, h2]
    exact ⟨rfl, rfl⟩
theorem shaped_ints (ns : List Int) : SeqAt.shaped (.tuple (ns.map PyData.int)) = true := by
  obtain ⟨h1, h2⟩ := shaped_all ns
  simp only [SeqAt.shaped, PyData.canLay0, PyData.depth, h1, h2]
  rfl
theorem shapedl_ints (ns : List Int) : SeqAt.shaped (.list (ns.map PyData.int)) = true := by
  obtain ⟨h1, h2⟩ := shaped_all ns
  simp only [SeqAt.shaped, PyData.canLay0, PyData.depth, h1, h2]
  rfl
/-- two tuples of ints, a != b, a == b -/
theorem w_neT (h : H p = some (.tup (ns.map V.int))) (h2 : H q = some (.tup (ms.map V.int))) (z : Q (.bl (!decide (ns = ms))) H) : rNeD K (.ref p) (.ref q) H Q := ⟨_, _, dp_ints h, dp_ints h2, shaped_ints _, shaped_ints _, by rw [eqv_ints]; exact z⟩
theorem w_eqT (h : H p = some (.tup (ns.map V.int))) (h2 : H q = some (.tup (ms.map V.int))) (z : Q (.bl (decide (ns = ms))) H) : rEqD K (.ref p) (.ref q) H Q := ⟨_, _, dp_ints h, dp_ints h2, shaped_ints _, shaped_ints _, by rw [eqv_ints]; exact z⟩
theorem w_neT' (h : H p = some (.tup (ns.map V.int))) (h2 : H q = some (.tup (ms.map V.int))) (e : ns = ms) (z : Q (.bl false) H) : rNeD K (.ref p) (.ref q) H Q := w_neT h h2 (by rw [decide_eq_true e]; exact z)
theorem w_eqT' (h : H p = some (.tup (ns.map V.int))) (h2 : H q = some (.tup (ms.map V.int))) (e : ns = ms) (z : Q (.bl true) H) : rEqD K (.ref p) (.ref q) H Q := w_eqT h h2 (by rw [decide_eq_true e]; exact z)
theorem eqvl_ints (ns ms : List Int) : PyData.eqv (.list (ns.map PyData.int)) (.list (ms.map PyData.int)) = decide (ns = ms) := by
  rw [← eqva_ints ns ms]
  simp only [PyData.eqv]
end
section
theorem all_flat (zs : List Int) : (zs.map V.int).all flatV = true := by
  induction zs with
  | nil => rfl
  | cons z zs ih => simpa [flatV] using ih
theorem inV_ints (z : Int) (zs : List Int) : inV (V.int z) (zs.map V.int) = decide (z ∈ zs) := by
  induction zs with
  | nil => rfl
  | cons y zs ih =>
    unfold inV at *
    rw [List.map_cons, List.any_cons, ih]
    simp [eqV]
    by_cases h : y = z
    · subst h; simp
    · have : ¬ z = y := fun e => h e.symm
      simp [h, this]
theorem int_at {zs : List Int} {i : Nat} {x : V} (h : (zs.map V.int)[i]? = some x) : ∃ z, zs[i]? = some z ∧ x = .int z := by
  rw [List.getElem?_map] at h
  obtain ⟨z, e, e2⟩ := Option.map_eq_some_iff.mp h
  exact ⟨z, e, e2.symm⟩
end
end Nc

/-! Own rules: sets of tuples of ints: set(), t in s (not there), s.add(t), len(s). -/
namespace Nc
open PySem PySem.Spec PyProof.Rows L2
def run0 (m : Nat) (h : Int) : SetTable.Probe := runAt m (SetTable.bits h % (m + 1)) (SetTable.bits h)
theorem dummy_nth (m : Nat) : ∀ (n : Nat) (p : SetTable.Probe), p.dummy = none → (nth m p n).dummy = none
  | 0, _, e => e
  | n + 1, p, e => dummy_nth m n (adv m p) (by unfold adv; split <;> exact e)
section
variable {P : Program} {w : World} {A : Around} {E : Value → Shared → Prop} {s : Shared} {a : Addr} {L : List (Addr × List Int)} {es : Array (Int × Value)} {ep : Nat} {t : SetTable}
abbrev hashOf (es : Array (Int × Value)) : Nat → Int := fun i => (es[i]?.map (·.1)).getD 0
/-- from the c-th place of the way on, of a key that isn't there -/
theorem probe_free (R : SetTR P w s.heap a L es ep t) {h : Int} {K c : Nat} (far : K < 10 * SetTable.turns t.mask) (free : way t.mask h K ∉ t.place.toList) (full : ∀ d, d < K → way t.mask h d ∈ t.place.toList) (le : c ≤ K) :
    (∃ q i p, c + q < K ∧ L[i]? = some p ∧ t.place.toList[i]? = some (way t.mask h (c + q)) ∧ t.probe (hashOf es) h (nth t.mask (run0 t.mask h) c) = some (.candidate (way t.mask h (c + q)) i (nth t.mask (run0 t.mask h) (c + q + 1)))) ∨
    t.probe (hashOf es) h (nth t.mask (run0 t.mask h) c) = some (.empty (way t.mask h K) none) := by
  have sh : ∀ q, nth t.mask (nth t.mask (run0 t.mask h) c) q = nth t.mask (run0 t.mask h) (c + q) := fun q => (nth_add t.mask c _ q).symm
  have wj : ∀ q, (nth t.mask (nth t.mask (run0 t.mask h) c) q).j = way t.mask h (c + q) := fun q => congrArg SetTable.Probe.j (sh q)
  have back : c + (K - c) = K := by omega
  rcases go_spec t R.tab.ris R.tab.dm (hashOf es) h (10 * SetTable.turns t.mask) (K - c) (nth t.mask (run0 t.mask h) c) (dummy_nth _ _ _ rfl) (by omega) (fun q hq => by rw [wj]; exact full _ (by omega)) (by rw [wj, back]; exact free) with ⟨q, i, hq, hi, _, _, e⟩ | ⟨_, e⟩
  · rw [wj] at hi
    have il : i < L.length := by
      have l1 : i < t.place.toList.length := (List.getElem?_eq_some_iff.mp hi).1
      have l2 := R.tab.sz
      rw [List.length_map] at l2
      rw [Array.length_toList, l2] at l1
      exact l1
    refine .inl ⟨q, i, L[i], by omega, List.getElem?_eq_getElem il, hi, ?_⟩
    rw [wj, sh] at e
    exact e
  · rw [wj, back] at e
    exact .inr e
theorem mem_at {α : Type} {l : List α} {i : Nat} {p : α} (e : l[i]? = some p) : p ∈ l := List.mem_of_getElem? e
/-- a search for what isn't there ends at the free place -/
theorem search_free (R : SetTR P w s.heap a L es ep t) {x : Addr} {k : List Int} (hx : IsT P w s.heap k x) (room : A.units < cLine) (out : k ∉ L.map (·.2)) {K : Nat} (far : K < 10 * SetTable.turns t.mask)
    (free : way t.mask (thash P w k) K ∉ t.place.toList) (full : ∀ d, d < K → way t.mask (thash P w k) d ∈ t.place.toList) {Q : SetFound → Shared → Prop} (q : ∀ j, Q (.free j false) s) :
    ∀ (f c : Nat) (stand : Option SetTable.Probe), stand.getD (t.probeStart (thash P w k)) = nth t.mask (run0 t.mask (thash P w k)) c → c ≤ K → K < c + f →
      wpAny (model P w) A (setSearchFrom a (.ref x) (thash P w k) false f stand) Q E s := by
  obtain ⟨o, ho, _, hd⟩ := R.ob
  intro f
  induction f with
  | zero =>
    intro c stand _ le lt
    exact absurd lt (by omega)
  | succ f ih =>
    intro c stand e le lt
    rw [setSearchFrom_succ]
    refine wpAny_bind (wpAny_setState_of ho hd R.fits ?_)
    dsimp only
    refine wp_if_neg R.gw ?_
    try refine wpAny_bind (wpAny_pure ?_)
    rw [e]
    rcases probe_free R far free full le with ⟨m, i, p, lt2, at_, pl, z⟩ | z
    · rw [z]
      dsimp only
      have hp := R.tup p (mem_at at_)
      have ne : p.2 ≠ k := fun b => out (List.mem_map.mpr ⟨p, mem_at at_, b⟩)
      have go : wpAny (model P w) A (searchRest a (.ref x) (thash P w k) false f es t (way t.mask (thash P w k) (c + m)) i (nth t.mask (run0 t.mask (thash P w k)) (c + m + 1))) Q E s := by
        unfold searchRest
        rw [R.entry at_]
        dsimp only
        refine wpAny_bind (wpAny_holding (wpAny_eqBool_tuple room hp hx ?_))
        refine wpAny_bind (wpAny_setState_of ho hd R.fits ?_)
        dsimp only
        refine wp_if_neg Bool.false_ne_true ?_
        try refine wpAny_bind (wpAny_pure ?_)
        rw [sameMem]
        dsimp only
        simp only [if_true, slot_live R.tab.ris pl, R.entry at_]
        refine wpAny_bind (wpAny_isSame_ref_self (wpAny_bind (wpAny_pure ?_)))
        simp only [if_true]
        refine wp_if_neg (by simp [ne]) ?_
        exact ih (c + m + 1) _ rfl (by omega) (by omega)
      by_cases led : t.led = true
      · refine wp_if_neg (by simp [led]) ?_
        try refine wpAny_bind (wpAny_pure ?_)
        exact go
      · refine wp_if_pos (by simp [led]) ?_
        refine wpAny_bind (seen_tup hx (fun y my => ?_) ?_)
        · obtain ⟨r, mr, er⟩ := List.mem_map.mp my
          have m1 : r ∈ es ∧ r.1 = thash P w k := by simpa using mr
          have m2 : r ∈ es.toList := by simpa using m1.1
          rw [R.rows] at m2
          obtain ⟨u, mu, eu⟩ := List.mem_map.mp m2
          exact ⟨u.2, u.1, by rw [← er, ← eu], R.tup u mu⟩
        · refine wp_if_neg (by decide) ?_
          try refine wpAny_bind (wpAny_pure ?_)
          exact go
    · rw [z]
      dsimp only
      exact wpAny_pure (q _)
/-- the search that a membership asks for: nothing -/
theorem find_free (R : SetTR P w s.heap a L es ep t) {x : Addr} {k : List Int} (hx : IsT P w s.heap k x) (room : A.units < cLine) (out : k ∉ L.map (·.2)) {Q : Option Nat → Shared → Prop} (q : Q none s) :
    wpAny (model P w) A (setFind a (.ref x) (thash P w k)) Q E s := by
  obtain ⟨o, ho, _, hd⟩ := R.ob
  have far := R.room
  obtain ⟨K, k1, k2, k3⟩ := R.tab.first (by rw [List.length_map]; omega) (thash P w k)
  have big : 10 * SetTable.turns t.mask ≤ 1420 := by
    unfold SetTable.turns
    rcases R.tab.mok with e | e | e <;> omega
  unfold setFind; rw [show (100000 : Nat) = 99999 + 1 from rfl]; unfold setFindIn
  refine wpAny_bind (wpAny_setState_of ho hd R.fits ?_)
  dsimp only
  refine wp_if_neg (by simp [byScan, Value.scannable]) ?_
  try refine wpAny_bind (wpAny_pure ?_)
  unfold setSearch
  refine wpAny_bind (search_free R hx room out k1 k2 k3 (fun j => ?_) 100000 0 none rfl (Nat.zero_le _) (by omega))
  dsimp only
  exact wpAny_pure q
/-- t in s, t not there -/
theorem contains_free (R : SetTR P w s.heap a L es ep t) {x : Addr} {k : List Int} (hx : IsT P w s.heap k x) (room : A.units + 1 < cLine) (out : k ∉ L.map (·.2)) {Q : Value → Shared → Prop} (q : ∀ tk, Q (.bool false) { s with toks := tk }) :
    wpAny (model P w) A (compareOp .In (.ref x) (.ref a)) Q E s := by
  have ty : s.TypeIs (.ref a) "set" := let ⟨o, ho, hc, _⟩ := R.ob; ⟨o, ho, hc.1⟩
  show wpAny _ _ (do return .bool (← contains (.ref a) (.ref x))) Q E s
  refine wpAny_bind ?_; unfold contains; (try with_reducible refine wpAny_holding ?_); refine wpAny_bind (wpAny_specialOf ty F.slot_set_contains.lookup ?_)
  show wpAny _ _ (if (some (Value.builtin "set.__contains__") == some Value.none) = true then _ else _) _ E s
  rw [if_neg (by rw [beq_builtin_none]; decide)]
  refine wpAny_bind (wpAny_callSpecialUnlessNone?_slot (name := Str.ofString "__contains__") ty F.slot_set_contains (wpAny_call_entry F.slot_set_contains ty entry_set_contains ?_ (F.args_set_contains_2 _ _)))
  unfold Builtin.«frozenset.__contains__» Builtin.Frozenset.oneOther; simp only [List.isEmpty_nil, bind_assoc]; unfold Builtin.Frozenset.addrOf Builtin.Frozenset.withSetAsKey setContains
  refine wpAny_bind (wpAny_pure ?_); (try dsimp only); refine wpAny_bind (wpAny_pure ?_); (try dsimp only); refine wpAny_bind (wpAny_tryCatch (wpAny_holding ?_))
  refine wpAny_bind (wpAny_pyHash_tuple (by exact room) hx (wpAny_bind (find_free (s := { s with toks := s.toks + (k.length + 1) }) ⟨R.ob, R.rows, R.tab, R.nd, R.tup, R.plain, R.led, R.room, R.few⟩ hx (by exact room) out (wpAny_pure ?_))))
  show wpAny _ _ (ret (Value.bool false)) _ _ _
  exact wpAny_pure ⟨_, rfl, wpAny_truthy_bool (wpAny_pure (q _))⟩
/-- s.add(t) -/
theorem adds (R : SetTR P w s.heap a L es ep t) {x : Addr} {k : List Int} (hx : IsT P w s.heap k x) (room : A.units + 1 < cLine) (few : L.length + 1 < 64) {Q : Value → Shared → Prop}
    (q : ∀ h' L' es' ep' t' tk, Heap.SameBut a s.heap h' → SetTR P w h' a L' es' ep' t' → (k ∈ L.map (·.2) → L' = L) → (k ∉ L.map (·.2) → L'.Perm ((x, k) :: L)) → Q .none { s with heap := h', toks := tk }) :
    wpAny (model P w) A (call (.builtin "set.add") [.ref a, .ref x]) Q E s := by
  have ty : s.TypeIs (.ref a) "set" := let ⟨o, ho, hc, _⟩ := R.ob; ⟨o, ho, hc.1⟩
  refine wpAny_call_entry F.slot_set_add ty F.entry_set_add ?_ (F.args_set_add_2 _ _)
  unfold Builtin.«set.add» Builtin.Frozenset.oneOther; simp only [List.isEmpty_nil, bind_assoc]; unfold Builtin.Frozenset.addrOf setAdd
  refine wpAny_bind (wpAny_pure ?_); (try dsimp only); refine wpAny_bind (wpAny_pure ?_); (try dsimp only); refine wpAny_bind (wpAny_holding ?_)
  refine wpAny_bind (wpAny_pyHash_tuple (by exact room) hx ?_)
  refine add_at (s := { s with toks := s.toks + (k.length + 1) }) ⟨R.ob, R.rows, R.tab, R.nd, R.tup, R.plain, R.led, R.room, R.few⟩ hx (by exact room) few fun b h' L' es' ep' t' sb R' c1 c2 => ?_
  show wpAny _ _ (ret Value.none) _ _ _
  exact wpAny_pure ⟨_, rfl, q h' L' es' ep' t' _ sb R' c1 c2⟩
end
section
variable {X : Cx}
/-- set() -/
def rSet0T (P : Program) (w : World) : List V → Hp → VK → Prop := fun xs H Q => xs = [] ∧ ∀ p, H p = none → Q (.ref p) (upd H p (SetTO P w p []))
theorem cr_set0T : CallR X (.type "set") (rSet0T X.prog X.w) := by
  intro pins s σ H xs us Q I r h
  obtain ⟨rfl, q⟩ := h
  cases r
  refine setR_new fun _ => ?_
  have new : SetT0 X.prog X.w (s.heap.push { cls := .type "set", dict := none, data := .set #[] 0 (.fresh 0 0 (!X.w.params.followText "set-order")) }) s.heap.objs.size [] := (setTR_fresh (Heap.get?_push_size _ rfl)).t0
  exact ⟨.ref _, upd H s.heap.objs.size (SetTO X.prog X.w s.heap.objs.size []), I.laid (t' := s.toks) (fun b u e => Heap.get?_push_of_some _ e) (Nat.le_refl _) (setTO_new new), rfl, q _ (I.hok.fresh (Nat.le_refl _))⟩
/-- t in s, t a tuple of ints that isn't there -/
def rNotIn (K : PySem.W.Frag) (P : Program) (w : World) : V → V → Hp → VK → Prop := fun x y H Q => ∃ (b a : Addr) (k : List Int) (L : List (Addr × List Int)), x = .ref b ∧ y = .ref a ∧ SqT K H b (k.map V.int) ∧ H a = some (SetTO P w a L) ∧ (∀ p ∈ L, SqT K H p.1 (p.2.map V.int)) ∧ k ∉ L.map (·.2) ∧ Q (.bl false) H
theorem op_notIn (hu : X.A.units + 1 < cLine) : OpR X (compareOp .In) (rNotIn X.K X.prog X.w) := by
  intro pins s σ H x y v u Q I rx ry h
  obtain ⟨b, a, k, L, rfl, rfl, hb, ha, hL, out, q⟩ := h
  cases rx
  cases ry
  have R0 : SetT0 X.prog X.w s.heap a L := (I.hok a _ ha).1
  obtain ⟨es, ep, t, R⟩ := R0.full fun p hp => I.isT (hL p hp)
  exact contains_free R (I.isT hb) hu out fun tk => ⟨.bl false, H, I.tok _, rfl, q⟩
/-- s.add(t), t a tuple of ints that isn't there -/
def tSAddT (K : PySem.W.Frag) (P : Program) (w : World) (to : TE) (t : TA) : TE := fun σ H Q => to σ H fun x H1 => (∃ a L, x = V.ref a ∧ H1 a = some (SetTO P w a L) ∧ ∀ p ∈ L, SqT K H1 p.1 (p.2.map V.int)) ∧ t σ H1 fun xs H2 => ∃ (a b : Addr) (k : List Int) (L : List (Addr × List Int)), x = .ref a ∧ xs = [.ref b] ∧ SqT K H2 b (k.map V.int) ∧ H2 a = some (SetTO P w a L) ∧ (∀ p ∈ L, SqT K H2 p.1 (p.2.map V.int)) ∧ k ∉ L.map (·.2) ∧ L.length + 1 < 64 ∧
  ∀ L', L'.Perm ((b, k) :: L) → Q .non (upd H2 a (SetTO P w a L'))
variable {o e : Expr} {es : List Expr} {to : TE} {t : TA} {apos cpos : Pos}
theorem pe_saddT (hu : X.A.units + 1 < cLine) (ho : PE X o to) (ha : PA X (e :: es) t)
    (hbase : attributeBase o "add" X.env (eval o X.env) = eval o X.env := by rfl)
    (hfew : ((backTo cpos (starEach (e :: es) X.env)).all (fun x => !x.1) && (backToKw cpos (keywordEach [] X.env)).all (fun x => x.1.isSome) && decide ((e :: es).length + ([] : List Keyword).length + (if ([] : List Keyword).isEmpty then 0 else 1) < 30)) = true := by rfl)
    (hline : (apos.endLine == cpos.line) = true := by rfl) (hs : starEach (e :: es) X.env = (false, eval e X.env) :: starEach es X.env := by rfl) (hplain : (backTo cpos (starEach es X.env)).any (·.1) = false := by rfl) :
    PE X (.Call (.Attribute o "add" apos) (e :: es) [] cpos) (tSAddT X.K X.prog X.w to t) := by
  refine ⟨fun pins s σ H Q I h => wpAny_Call_method_late hbase hfew hline rfl (thn (ho.run pins s σ H _ I h) fun v s1 ⟨x, H1, I1, r1, ⟨a, L, ex, hL, hT⟩, q1⟩ => ?_)⟩
  subst ex
  cases r1
  have R1 : SetT0 X.prog X.w s1.heap a L := (I1.hok a _ hL).1
  have ty : s1.TypeIs (.ref a) "set" := let ⟨_, _, _, ⟨o, ho, hc, _⟩, _⟩ := R1.ex; ⟨o, ho, hc.1⟩
  refine ⟨"set", "set.add", F.plainAttrs_set, F.slot_set_add, F.type_set_add, ty, ?_, ?_⟩
  · rintro b eb; cases eb; obtain ⟨_, _, _, ⟨o, ho, hc, _⟩, _⟩ := R1.ex; exact ⟨o, ho, hc.2.1⟩
  have hA := ha.run cpos pins s1 σ H1 _ I1 q1
  rw [hs] at hA ⊢
  refine Calls.callWith_builtin (by show (false || (backTo cpos (starEach es X.env)).any (·.1)) = false; rw [hplain]; rfl) (Calls.evalArgs_plain ?_)
  refine thn hA fun us s2 ⟨vs, H2, I2, r2, a', b, k, L2, e1, e2, hb, hL2, hT2, out, few, q2⟩ => ?_
  cases e1
  subst e2
  rw [Vals.ref1 r2]
  have R0 : SetT0 X.prog X.w s2.heap a L2 := (I2.hok a _ hL2).1
  obtain ⟨es, ep, tt, R⟩ := R0.full fun p hp => I2.isT (hT2 p hp)
  refine adds R (I2.isT hb) hu few fun h' L' es' ep' t' tk sb R' _ c2 => ?_
  have he : ∃ u, h'.get? a = some u := let ⟨o, ho, _⟩ := R'.ob; ⟨o, ho⟩
  exact ⟨.non, upd H2 a (SetTO X.prog X.w a L'), I2.write (e := a) (t' := tk) (by rw [hL2]; trivial) (.inl rfl) (fun c u hc hu => (sb.2 c hc).trans hu) he (setTO_new R'.t0), rfl, q2 L' (c2 out)⟩
end
end Nc

/-! Own rules: min(d), d a dict with pairs of ints as keys; d.setdefault(t, x) of such. -/
namespace Nc
open PySem PySem.Spec PyProof.Rows L2
section
variable {prog : Program} {w : World} {A : Around} {R : Result → Shared → Prop} {I S : Addr} {fp wr : List Addr} {n : Nat} {P : Nat → Value → Prop} {St : Nat → Heap → Prop} {h0 : Heap} {bt : Nat → Nat → Bool}
/-- a walk's steps leave an older heap as it was -/
theorem keep_walk {h h' : Heap} (old : ∀ b ∈ wr, h0.get? b = none) (k : KeepH h0 h) (k' : ∀ b o, b ∉ wr → h.get? b = some o → h'.get? b = some o) : KeepH h0 h' := fun c o e =>
  k' c o (fun m => by rw [old c m] at e; cases e) (k c o e)
theorem keep_at {h : Heap} {g : Obj → Obj} (old : h0.get? S = none) (k : KeepH h0 h) : KeepH h0 (h.update S g) := fun c o e =>
  (Heap.get?_update_other _ _ (fun z => by rw [← z, old] at e; cases e)).trans (k c o e)
/-- min's loop from its (j + 1)-th item on: what is compared may stand in the heap -/
theorem min_rounds (W : Walks prog w A.in1 I fp wr n P St) (cmp : ∀ i j vi vj (s : Shared), KeepH h0 s.heap → P i vi → P j vj → Ob.RcOp .Lt A.in1 s vi vj (bt i j)) (out : S ∉ fp) (old : ∀ b ∈ wr, h0.get? b = none) (oldS : h0.get? S = none) :
    ∀ (k j : Nat) (s : Shared) (best : Value) (c : Nat), k + (j + 1) = n → St (j + 1) s.heap → KeepH h0 s.heap → P (argBest bt j) best → s.heap.get? S = some { cls := .type "list", dict := none, data := .seq #[best, best] c, slots := #[] } →
      (∀ v h' tk, P (argBest bt (n - 1)) v → KeepH h0 h' → R (.ok (.ret v)) { s with heap := h', toks := tk }) → codeAny (model prog w) A (.builtin "min.loop" ⟨[.ref I, .none, .ref S], []⟩) R s := by
  have outW : S ∉ wr := fun m => out (W.sub _ m)
  have nm : (toString "min" ++ toString ".loop" : String) = "min.loop" := by decide
  intro k
  induction k with
  | zero =>
    intro j s best c e st kp pb hS fin
    have jn : j + 1 = n := by omega
    subst jn
    refine codeAny_builtin F.entry_min_loop ?_; rw [Around.under_plainId F.plain_min_loop _]
    refine wpAny_bind (wpAny_seqItems hS rfl (wpAny_bind (wpAny_tryCatch (W.done s _ _ st fun h' tk k' => ?_))))
    refine wpAny_bind (wpAny_updateSeq (k' S _ outW hS) rfl (wpAny_bind (wpAny_letGo (wpAny_pure ?_))))
    exact fin best _ tk pb (keep_at oldS (keep_walk old kp k'))
  | succ k ih =>
    intro j s best c e st kp pb hS fin
    refine codeAny_builtin F.entry_min_loop ?_; rw [Around.under_plainId F.plain_min_loop _]
    refine wpAny_bind (wpAny_seqItems hS rfl (wpAny_bind (wpAny_tryCatch (W.item (j + 1) s _ _ (by omega) st fun v h' tk pv st' k' => ?_))))
    have hS' := k' S _ outW hS
    have kp' := keep_walk old kp k'
    refine wpAny_bind (wpAny_pure ?_)
    show wpAny _ _ (tryCatch (holding [v, v] (richCompare _ v best >>= _)) _ >>= _) _ _ _
    refine wpAny_bind (wpAny_tryCatch (wpAny_holding (wpAny_bind ((cmp (j + 1) (argBest bt j) v best _ kp' pv pb) prog w _ _ ?_))))
    refine wpAny_bind (wpAny_holding (wpAny_truthy_bool (wpAny_bind (wpAny_letGo (wpAny_pure ?_)))))
    cases hb : bt (j + 1) (argBest bt j) with
    | true =>
      simp only [if_true]
      refine wpAny_bind (wpAny_updateSeq hS' rfl (wpAny_bind (wpAny_letGo ?_))); rw [nm]
      refine wpAny_pure ⟨plainId_quiet F.plain_min_loop _, ih (j + 1) _ v _ (by omega) (W.frame _ _ _ st' fun b m o eb => (Heap.get?_update_other _ _ (fun z : S = b => out (by rw [z]; exact m))).trans eb) (keep_at oldS kp') (by unfold argBest; rw [hb]; exact pv) (Heap.get?_update_self _ hS' rfl) fun u h2 tk2 pu k2 => fin u h2 tk2 pu k2⟩
    | false =>
      simp only [Bool.false_eq_true, if_false]
      refine wpAny_bind (wpAny_letGo ?_); rw [nm]
      refine wpAny_pure ⟨plainId_quiet F.plain_min_loop _, ih (j + 1) _ best c (by omega) st' kp' (by unfold argBest; rw [hb]; exact pb) hS' fun u h2 tk2 pu k2 => fin u h2 tk2 pu k2⟩
end
section
variable {prog : Program} {w : World} {A : Around} {E : Value → Shared → Prop} {s : Shared}
/-- min of a walk -/
theorem min_over {x : Value} {Q : Value → Shared → Prop} {n : Nat} {P : Nat → Value → Prop} {bt : Nat → Nat → Bool} (n0 : 0 < n) (cmp : ∀ i j vi vj (s2 : Shared), KeepH s.heap s2.heap → P i vi → P j vj → Ob.RcOp .Lt A.in1 s2 vi vj (bt i j))
    (h : wpAny (model prog w) A.in1 (pyIter x) (fun it s2 => ∃ I fp wr St, it = .ref I ∧ Walks prog w A.in1 I fp wr n P St ∧ St 0 s2.heap ∧ (∀ b ∈ fp, b < s2.heap.objs.size) ∧ (∀ b ∈ wr, s.heap.get? b = none) ∧ KeepH s.heap s2.heap ∧ s.heap.objs.size ≤ s2.heap.objs.size ∧
      ∀ v h' tk, P (argBest bt (n - 1)) v → KeepH s.heap h' → Q v { s2 with heap := h', toks := tk }) E s) : wpAny (model prog w) A (call (.builtin "min") [x]) Q E s := by
  have nm : (toString "min" ++ toString ".loop" : String) = "min.loop" := by decide
  refine call_function_tree F.kind_min F.plain_min F.entry_min (F.args_min1 _) ?_
  refine wpAny_bind (wpAny_of_eq (show Builtin.Builtins.bindParams "min" ["key", "default"] 0 ⟨[], []⟩ = pure [none, none] from rfl) (wpAny_bind (wpAny_pure (wpAny_bind (wpAny_mono h (fun it s2 q => ?_) fun _ _ e => e)))))
  obtain ⟨I, fp, wr, St, rfl, W, st, inF, old, kp, sz, fin⟩ := q
  refine wpAny_bind (wpAny_newObj_type ?_); rw [nm]
  have out : s2.heap.objs.size ∉ fp := fun m => Nat.lt_irrefl _ (inF _ m)
  have outW : s2.heap.objs.size ∉ wr := fun m => out (W.sub _ m)
  have oldS : s.heap.get? s2.heap.objs.size = none := by
    cases z : s.heap.get? s2.heap.objs.size with
    | none => rfl
    | some o => exact absurd (Nat.lt_of_lt_of_le (Heap.lt_size z) sz) (Nat.lt_irrefl _)
  refine wpAny_pure ⟨plainId_quiet F.plain_min_loop _, ?_⟩
  refine codeAny_builtin F.entry_min_loop ?_; rw [Around.under_plainId F.plain_min_loop _]
  have hS : (s2.heap.push { cls := .type "list", data := .seq #[] }).get? s2.heap.objs.size = some { cls := .type "list", data := .seq #[] } := Heap.get?_push_size _ rfl
  have kp1 : KeepH s.heap (s2.heap.push { cls := .type "list", data := .seq #[] }) := fun c o e => Heap.get?_push_of_some _ (kp c o e)
  refine wpAny_bind (wpAny_seqItems hS rfl (wpAny_bind (wpAny_tryCatch (W.item 0 { s2 with heap := s2.heap.push { cls := .type "list", data := .seq #[] } } _ _ n0 (W.frame _ _ _ st fun b _ o e => Heap.get?_push_of_some _ e) fun v h' tk pv st' k' => ?_))))
  have hS' := k' _ _ outW hS
  refine wpAny_bind (wpAny_pure ?_)
  show wpAny _ _ (updateSeq s2.heap.objs.size (fun _ => #[v, v]) >>= _) _ _ _
  refine wpAny_bind (wpAny_updateSeq hS' rfl ?_); rw [nm]
  refine wpAny_pure ⟨plainId_quiet F.plain_min_loop _, min_rounds (h0 := s.heap) W cmp out old oldS (n - 1) 0 _ v _ (by omega) (W.frame _ _ _ st' fun b m o e => (Heap.get?_update_other _ _ (fun z => out (by rw [z]; exact m))).trans e) (keep_at oldS (keep_walk old kp1 k')) pv (Heap.get?_update_self _ hS' rfl) fun u h2 tk2 pu k2 => fin u h2 tk2 pu k2⟩
/-- the walk over a dict's keys, as they stand -/
theorem walks_keys (hh : A.handled = none) {I d : Addr} (ne : d ≠ I) {od : Obj} {es : Array DictEntry} {ep : Nat} (hd : od.data = .dict es ep) :
    Walks prog w A I [I, d] [I] es.size (fun i v => ∃ en, es[i]? = some en ∧ v = en.key) (fun i h => h.IsKeyIter I d i es.size ep ∧ h.get? d = some od) where
  sub := fun b m => by rw [List.mem_singleton.mp m]; exact List.mem_cons_self
  frame := fun i h h' st k => ⟨st.1.at fun o e => k I List.mem_cons_self o e, k d (List.mem_cons_of_mem _ List.mem_cons_self) _ st.2⟩
  item := fun i s Q E lt st q => next_key_item st.1 st.2 hd rfl (Array.getElem?_eq_getElem lt) fun h' st' sb => q _ h' s.toks ⟨_, Array.getElem?_eq_getElem lt, rfl⟩ ⟨st', (sb.2 d ne).trans st.2⟩ fun b o m e => (sb.2 b fun z => m (by rw [z]; exact List.mem_cons_self)).trans e
  done := fun s Q E st q => next_key_end hh st.1 st.2 hd rfl (Nat.le_refl _) fun h' x => q h' s.toks fun b o m e => x b o (fun z => m (by rw [z]; exact List.mem_cons_self)) e
  self := fun i s Q E st q => wpAny_pyIter_keyiter st.1 q
end
/-- t < u of two tracked tuples, in any state that keeps what stood -/
theorem tup_less {X : Cx} {s s2 : Shared} {pins : List (Addr × Obj)} {σ : L2.St} {H : Hp} {a b : Addr} {ns ms : List Int} (I : L2.Inv X pins σ H s) (ha : H a = some (.tup (ns.map V.int))) (hb : H b = some (.tup (ms.map V.int))) (hu : X.A.units + 1 < cLine) (kp : KeepH s.heap s2.heap) :
    Ob.RcOp .Lt X.A.in1 s2 (.ref a) (.ref b) (lexP (fun x y => decide (x < y)) (decide (ns.length < ms.length)) ns ms) := by
  obtain ⟨us, r1, ⟨o1, g1, c1, n1, d1⟩, _⟩ := I.tuple (SqT.of ha)
  obtain ⟨vs, r2, ⟨o2, g2, c2, n2, d2⟩, _⟩ := I.tuple (SqT.of hb)
  have i1 : IntsAre us ns := Vals.ints r1
  have i2 : IntsAre vs ms := Vals.ints r2
  have at1 : ∀ j (h1 : j < us.toArray.size), ∃ t, us.toArray[j] = .int (ns.getD j 0) t := fun j h1 => IntsAre.int_at i1 _ _ (by simp at h1; simp [h1])
  have at2 : ∀ j (h1 : j < vs.toArray.size), ∃ t, vs.toArray[j] = .int (ms.getD j 0) t := fun j h1 => IntsAre.int_at i2 _ _ (by simp at h1; simp [h1])
  have R := Ob.RcOp.tuples_lt (A := X.A.in1) (s := s2) (e := fun j => decide (ns.getD j 0 = ms.getD j 0)) (r := fun j => decide (ns.getD j 0 < ms.getD j 0)) ⟨o1, kp _ _ g1, c1, n1, d1⟩ ⟨o2, kp _ _ g2, c2, n2, d2⟩ hu (fun j h1 h2 => by
    obtain ⟨t, et⟩ := at1 j h1
    obtain ⟨u, eu⟩ := at2 j h2
    rw [et, eu, ← Bool.beq_eq_decide_eq]
    exact SeqAt.EqAt.int_int _ _ _ _) (fun j h1 h2 _ => by
    obtain ⟨t, et⟩ := at1 j h1
    obtain ⟨u, eu⟩ := at2 j h2
    rw [et, eu]
    exact Ob.RcOp.lt_int _ _ _ _)
  rw [List.size_toArray, List.size_toArray, i1.length, i2.length] at R
  exact R
/-! the order of pairs -/
def lexLe (p q : Int × Int) : Prop := p.1 < q.1 ∨ (p.1 = q.1 ∧ p.2 ≤ q.2)
instance (p q : Int × Int) : Decidable (lexLe p q) := by unfold lexLe; infer_instance
theorem lexLe.trans {p q r : Int × Int} (a : lexLe p q) (b : lexLe q r) : lexLe p r := by unfold lexLe at *; omega
theorem lexLe.refl (p : Int × Int) : lexLe p p := .inr ⟨rfl, Int.le_refl _⟩
theorem lexLe.total (p q : Int × Int) : lexLe p q ∨ lexLe q p := by unfold lexLe; omega
theorem lexLe.anti {p q : Int × Int} (a : lexLe p q) (b : lexLe q p) : p = q := by
  unfold lexLe at *
  exact Prod.ext (by omega) (by omega)
theorem lexP_pair (p q : Int × Int) : lexP (fun x y => decide (x < y)) (decide ((2 : Nat) < 2)) [p.1, p.2] [q.1, q.2] = decide (¬ lexLe q p) := by
  show (if decide (p.1 = q.1) = true then (if decide (p.2 = q.2) = true then decide ((2 : Nat) < 2) else decide (p.2 < q.2)) else decide (p.1 < q.1)) = _
  unfold lexLe
  by_cases a : p.1 = q.1
  · rw [if_pos (decide_eq_true a)]
    by_cases b : p.2 = q.2
    · rw [if_pos (decide_eq_true b), decide_eq_false (by omega), decide_eq_false (by omega)]
    · rw [if_neg (by simpa using b)]
      by_cases c : p.2 < q.2
      · rw [decide_eq_true c, decide_eq_true (by omega)]
      · rw [decide_eq_false c, decide_eq_false (by omega)]
  · rw [if_neg (by simpa using a)]
    by_cases c : p.1 < q.1
    · rw [decide_eq_true c, decide_eq_true (by omega)]
    · rw [decide_eq_false c, decide_eq_false (by omega)]
theorem argBest_le (f : Nat → Int × Int) : ∀ k, argBest (fun i j => decide (¬ lexLe (f j) (f i))) k ≤ k ∧ ∀ i, i ≤ k → lexLe (f (argBest (fun i j => decide (¬ lexLe (f j) (f i))) k)) (f i)
  | 0 => ⟨Nat.le_refl _, fun i h => by rw [Nat.le_zero.mp h]; exact lexLe.refl _⟩
  | k + 1 => by
    obtain ⟨h1, h2⟩ := argBest_le f k
    unfold argBest
    by_cases c : lexLe (f (argBest (fun i j => decide (¬ lexLe (f j) (f i))) k)) (f (k + 1))
    · rw [if_neg (by simpa using c)]
      refine ⟨by omega, fun i hi => ?_⟩
      by_cases e : i = k + 1
      · rw [e]; exact c
      · exact h2 i (by omega)
    · rw [if_pos (by simpa using c)]
      refine ⟨Nat.le_refl _, fun i hi => ?_⟩
      by_cases e : i = k + 1
      · rw [e]; exact lexLe.refl _
      · rcases lexLe.total (f (argBest (fun i j => decide (¬ lexLe (f j) (f i))) k)) (f (k + 1)) with z | z
        · exact absurd z c
        · exact z.trans (h2 i (by omega))
section
variable {X : Cx}
/-- a key of two ints -/
def k2 (p : Int × Int) : List L2.Key := [Sum.inl p.1, Sum.inl p.2]
def rMinT : List V → Hp → VK → Prop := fun vs H Q => ∃ (a : Addr) (kvs : List (List L2.Key × V)) (ps : List (Int × Int)), vs = [V.ref a] ∧ H a = some (.dT kvs) ∧ kvs.map (·.1) = ps.map k2 ∧ ps ≠ [] ∧
  ∀ (q : Addr) (p : Int × Int), p ∈ ps → (∀ p' ∈ ps, lexLe p p') → H q = some (.tup [.int p.1, .int p.2]) → Q (.ref q) H
theorem cr_minT (hc : X.calm = true) (hu : X.A.units + 1 < cLine) : CallR X (.builtin "min") rMinT := by
  intro pins s σ H vs us Q I r h
  obtain ⟨a, kvs, ps, rfl, ha, hk, hne, q⟩ := h
  rw [Vals.ref1 r]
  obtain ⟨_, hsys, xs, rel, o, es, ep, ho, hx, hd, he, _⟩ := dt_of I.hok ha
  have hes : es.size = ps.length := by
    have e1 := congrArg List.length he
    have e2 := Paired.length rel
    have e3 := congrArg List.length hk
    rw [List.length_map] at e1
    rw [List.length_map, List.length_map] at e3
    rw [Array.length_toList] at e1
    omega
  have ent : ∀ (i : Nat) (v : Value), (∃ en, es[i]? = some en ∧ v = en.key) → ∃ b, v = .ref b ∧ i < ps.length ∧ H b = some (.tup [.int (ps.getD i (0, 0)).1, .int (ps.getD i (0, 0)).2]) := by
    rintro i v ⟨en, e1, rfl⟩
    have lt : i < ps.length := by
      rw [← hes]
      exact (Array.getElem?_eq_some_iff.mp e1).1
    have lk : i < kvs.length := by
      have e3 := congrArg List.length hk
      rw [List.length_map, List.length_map] at e3
      omega
    obtain ⟨b, hb, e4, e5, _⟩ := paired_get rel (List.getElem?_eq_getElem lk)
    have z := entry_at he i
    rw [hb] at z
    have z2 : es[i]? = some (entryOfKey (tupleKind (mixKind X.prog X.w)) b) := z
    rw [e1] at z2
    have z3 := Option.some.inj z2
    have ek : kvs[i].1 = k2 (ps.getD i (0, 0)) := by
      have w := congrArg (fun l => l[i]?) hk
      simp only [List.getElem?_map, List.getElem?_eq_getElem lk, List.getElem?_eq_getElem lt, Option.map_some] at w
      rw [Option.some.inj w, List.getD_eq_getElem?_getD, List.getElem?_eq_getElem lt]
      rfl
    refine ⟨b.2.1, by rw [z3]; rfl, lt, ?_⟩
    rw [e5, ek]
    rfl
  have n0 : 0 < es.size := by
    rw [hes]
    exact List.length_pos_iff.mpr hne
  refine min_over (n := es.size) (P := fun i v => ∃ en, es[i]? = some en ∧ v = en.key) (bt := fun i j => decide (¬ lexLe (ps.getD j (0, 0)) (ps.getD i (0, 0)))) n0 (fun i j vi vj s2 kp pi pj => ?_) (iter_keys hsys ho hx hd ?_)
  · obtain ⟨b, rfl, _, hb⟩ := ent i vi pi
    obtain ⟨c, rfl, _, hc'⟩ := ent j vj pj
    have z := (tup_less (ns := [(ps.getD i (0, 0)).1, (ps.getD i (0, 0)).2]) (ms := [(ps.getD j (0, 0)).1, (ps.getD j (0, 0)).2]) I hb hc' hu kp)
    have e2 : lexP (fun x y => decide (x < y)) (decide ([(ps.getD i (0, 0)).1, (ps.getD i (0, 0)).2].length < [(ps.getD j (0, 0)).1, (ps.getD j (0, 0)).2].length)) [(ps.getD i (0, 0)).1, (ps.getD i (0, 0)).2] [(ps.getD j (0, 0)).1, (ps.getD j (0, 0)).2] = decide (¬ lexLe (ps.getD j (0, 0)) (ps.getD i (0, 0))) := lexP_pair _ _
    rw [e2] at z
    exact z
  · have lt := Heap.lt_size ho
    refine ⟨s.heap.objs.size, _, _, _, rfl, walks_keys (prog := X.prog) (w := X.w) (A := X.A.in1) (I.ok.hd hc) (Nat.ne_of_lt lt) hd, ⟨⟨_, Heap.get?_push_size _ rfl, rfl, rfl⟩, Heap.get?_push_of_some _ ho⟩, fun b m => ?_, fun b m => ?_, fun c o e => Heap.get?_push_of_some _ e, ?_, fun v h' tk pv kp => ?_⟩
    · show b < (s.heap.push _).objs.size
      rw [Heap.size_push]
      rcases List.mem_cons.mp m with e | m
      · rw [e]; exact Nat.lt_succ_self _
      · rw [List.mem_singleton.mp m]; exact Nat.lt_succ_of_lt lt
    · rw [List.mem_singleton.mp m]
      cases z : s.heap.get? s.heap.objs.size with
      | none => rfl
      | some o => exact absurd (Heap.lt_size z) (Nat.lt_irrefl _)
    · show _ ≤ (s.heap.push _).objs.size
      rw [Heap.size_push]
      omega
    · obtain ⟨b, rfl, lt2, hb⟩ := ent _ v pv
      obtain ⟨b1, b2⟩ := argBest_le (fun i => ps.getD i (0, 0)) (es.size - 1)
      have at_ : ∀ i, i < ps.length → ps.getD i (0, 0) ∈ ps := fun i hi => by
        rw [List.getD_eq_getElem?_getD, List.getElem?_eq_getElem hi]
        exact List.getElem_mem hi
      refine ⟨.ref b, H, I.kept (t' := tk) fun c o e => kp c o e, rfl, q b _ (at_ _ lt2) (fun p' m => ?_) hb⟩
      obtain ⟨i, hi, e⟩ := List.mem_iff_getElem.mp m
      have e2 : ps.getD i (0, 0) = p' := by rw [List.getD_eq_getElem?_getD, List.getElem?_eq_getElem hi, ← e]; rfl
      rw [← e2]
      exact b2 i (by omega)
end
end Nc

/-! Own rules: d.setdefault(t, x) of a dict with tuples as keys; len(s) of a set of tuples. -/
namespace Nc
open PySem PySem.Spec PyProof.Rows L2
section
variable {X : Cx} {pins : List (Addr × Obj)} {σ : L2.St} {H : Hp} {s : Shared} {a b : Addr} {r : Value} {z : V} {ks : List L2.Key} {A : Around} {E : Value → Shared → Prop}
theorem setd_tup {kvs : List (List L2.Key × V)} {Q : Value → Shared → Prop} (hu : A.units + 1 < cLine) (I : L2.Inv X pins σ H s) (e : H a = some (.dT kvs)) (eb : H b = some (.tup (ks.map kV))) (rz : RelV z r) (room : kvs.length < sizeLine)
    (old : ∀ v, valV kvs ks = some v → ∀ w' s', L2.Inv X pins σ H s' → RelV v w' → Q w' s') (new : valV kvs ks = none → ∀ s', L2.Inv X pins σ (upd H a (.dT (putK kvs ks z))) s' → Q r s') :
    wpAny (model X.prog X.w) A (call (.builtin "dict.setdefault") [.ref a, .ref b, r]) Q E s := by
  obtain ⟨len, sys, xs, rel, dd⟩ := dt_of I.hok e
  have lx : xs.length ≤ sizeLine := by rw [← Paired.length rel]; exact len
  refine call_setdefault_heap (hsz := lx) (knd := tupleKind (mixKind X.prog X.w)) (tupleKind_room_in1 hu) (key_of I.hok eb) sys dd (fun p hp => ?_) fun hn h' dd' hs => ?_
  · have q := rel.val ks
    rw [hp] at q
    cases ev : valV kvs ks with
    | none => rw [ev] at q; exact (show False from q).elim
    | some v => rw [ev] at q; exact old v ev _ _ (I.tok _) q
  · have q := rel.val ks
    rw [hn] at q
    have ev : valV kvs ks = none := by
      cases ev : valV kvs ks with
      | none => rfl
      | some v => rw [ev] at q; exact (show False from q).elim
    have l2 : (putK kvs ks z).length ≤ sizeLine := Nat.le_trans (length_putK kvs ks z) room
    obtain ⟨o, es, ep, ho, c1, c2, c3, _, c4⟩ := dd'
    refine new ev _ (d_write I (by rw [e]; exact True.intro) hs ⟨o, ho⟩ ⟨l2, sys, _, (rel.put ks eb rz).keeps fun c ys ec => ?_, o, es, ep, ho, c1, c2, c3, c4⟩)
    rw [upd_ne (ne_of ec e (fun z => nomatch z))]; exact ec
end
/-- d.setdefault(t, x) -/
def tDSetdT (td ty tx : TE) : TE := fun σ H Q => td σ H fun x H1 => ∃ a, x = .ref a ∧ IsD H1 a ∧ ty σ H1 fun y H2 => tx σ H2 fun z H3 => ∃ (kvs : List (List L2.Key × V)) (ks : List L2.Key) (b : Addr), H3 a = some (.dT kvs) ∧ y = .ref b ∧ H3 b = some (.tup (ks.map kV)) ∧ kvs.length < sizeLine ∧
  (∀ v, valV kvs ks = some v → Q v H3) ∧ (valV kvs ks = none → Q z (upd H3 a (.dT (putK kvs ks z))))
theorem pe_dsetdT {X : Cx} {o e f : Expr} {td ty tx : TE} {apos cpos : Pos} (hu : X.A.units + 1 < cLine) (ho : PE X o td) (he : PE X e ty) (hf : PE X f tx) (m : M2 X o "setdefault" apos e f cpos) : PE X (.Call (.Attribute o "setdefault" apos) [e, f] [] cpos) (tDSetdT td ty tx) := by
  constructor
  intro pins s σ H Q I h
  refine wpAny_Call_method m.base m.few m.line PySem.F.plainAttrs_dict PySem.F.slot_dict_setdefault PySem.F.type_dict_setdefault (thn (ho.run pins s σ H _ I h) ?_)
  rintro u s1 ⟨x, H1, I1, rx, a, rfl, d, q1⟩
  cases rx
  obtain ⟨t1, t2, _⟩ := isD_at I1 d
  refine ⟨t1, t2, ?_⟩; rw [m.trees]
  refine Calls.callWith_builtin rfl (Calls.evalArgs_plain (Calls.spliced_cons (thn (he.run pins s1 σ H1 _ I1 q1) ?_)))
  rintro iv s2 ⟨y, H2, I2, ry, q2⟩
  refine Calls.spliced_cons (thn (hf.run pins s2 σ H2 _ I2 q2) ?_)
  rintro fv s3 ⟨z, H3, I3, rz, kvs, ks, b, ea, rfl, eb, room, q3, q4⟩
  cases ry
  exact Calls.spliced_nil (setd_tup hu I3 ea eb rz room (fun v hv w' s4 I4 rw' => ⟨v, _, I4, rw', q3 v hv⟩) fun hn s4 I4 => ⟨z, _, I4, rz, q4 hn⟩)
/-- len(s), s a set of tuples -/
def rLenT2 (P : Program) (w : World) : List V → Hp → VK → Prop := fun vs H Q => ∃ (a : Addr) (L : List (Addr × List Int)), vs = [.ref a] ∧ H a = some (SetTO P w a L) ∧ Q (.int (L.length : Nat)) H
theorem call_len_setT {X : Cx} : CallR X (.builtin "len") (rLenT2 X.prog X.w) := by
  intro pins s σ H xs us Q I r h
  obtain ⟨a, L, rfl, ha, q⟩ := h
  rw [Vals.ref1 r]
  have R0 : SetT0 X.prog X.w s.heap a L := (I.hok a _ ha).1
  obtain ⟨es, ep, t, ⟨o, ho, hex, hd⟩, rows, tab, _, _, _, room, few⟩ := R0.ex
  have sz : es.size = L.length := by
    have h := congrArg List.length rows
    unfold rowsOf at h
    rw [Array.length_toList, List.length_map] at h
    exact h
  have fits : t.fits es.size = true := by
    have h1 := tab.sz
    rw [List.length_map] at h1
    unfold SetTable.fits SetTable.fill
    rw [tab.dm, Bool.and_eq_true, beq_iff_eq, decide_eq_true_eq]
    show t.place.size = es.size ∧ t.place.size + 0 ≤ t.mask
    omega
  refine call_len_set ho hex hd fits (by omega) ?_
  rw [sz]
  exact ⟨.int (L.length : Nat), H, I.tok _, ⟨_, rfl⟩, q⟩
end Nc

/-! Own rules: readings with heaps that are told by what is true of them alone; walks over enumerate; sorted sites. -/
namespace Nc
open PySem PySem.Spec PyProof.Rows L2
section
variable {X : Cx}
def tTupG (t : TA) : TE := fun σ H Q => t σ H fun vs H1 => vs.length ≤ sizeLine ∧ ∀ p H2, Same H1 H2 → H1 p = none → H2 p = some (.tup vs) → Q (.ref p) H2
def tLstG (t : TA) : TE := fun σ H Q => t σ H fun vs H1 => vs.length ≤ sizeLine ∧ ∀ p H2, Same H1 H2 → H1 p = none → H2 p = some (.lst vs) → Q (.ref p) H2
def tDicG : TE := fun _ H Q => ∀ p H2, Same H H2 → H p = none → H2 p = some (.dK []) → Q (.ref p) H2
theorem pe_tupG {es : List Expr} {k : Nat} {pos : Pos} {t : TA} (h : PA X es t) : PE X (.Tuple es k pos) (tTupG t) := ⟨fun pins s σ H Q I w => by
  have step := h.run pos pins s σ H _ I w
  refine wpAny_Tuple_spliced (thn step fun us s1 got => ?_)
  rcases got with ⟨vs, H1, I1, rv, len, q⟩
  refine ⟨rv.length ▸ len, ?_⟩
  have free : H1 s1.heap.objs.size = none := I1.hok.fresh (Nat.le_refl _)
  have new : ObjOk X.prog X.w (upd H1 s1.heap.objs.size (.tup vs)) (s1.heap.push { cls := .type "tuple", data := .seq us.toArray }) s1.heap.objs.size (.tup vs) := ⟨len, us, rv, _, Heap.get?_push_size _ rfl, rfl, _, rfl⟩
  exact ⟨.ref _, _, I1.laid (t' := s1.toks) (fun _ _ e => Heap.get?_push_of_some _ e) (Nat.le_refl _) new, rfl, q _ _ (Same.upd free) free upd_same⟩⟩
theorem pe_lstG {es : List Expr} {pos : Pos} {t : TA} (h : PA X es t) : PE X (.List es pos) (tLstG t) := ⟨fun pins s σ H Q I w => by
  have step := h.run pos pins s σ H _ I w
  refine wpAny_List_spliced (thn step fun us s1 got => ?_)
  rcases got with ⟨vs, H1, I1, rv, len, q⟩
  refine ⟨rv.length ▸ len, ?_⟩
  have free : H1 s1.heap.objs.size = none := I1.hok.fresh (Nat.le_refl _)
  have new : ObjOk X.prog X.w (upd H1 s1.heap.objs.size (.lst vs)) (s1.heap.push { cls := .type "list", data := .seq us.toArray 0 }) s1.heap.objs.size (.lst vs) := ⟨len, us, 0, rv, Heap.get?_push_size _ rfl⟩
  exact ⟨.ref _, _, I1.laid (t' := s1.toks) (fun _ _ e => Heap.get?_push_of_some _ e) (Nat.le_refl _) new, rfl, q _ _ (Same.upd free) free upd_same⟩⟩
theorem pe_dicG {pos : Pos} : PE X (.Dict [] [] pos) tDicG := peOf pe_dnewK fun σ H Q q p np => q p _ (Same.upd np) np upd_same
def rCatG : R2 := fun x y H Q => ∃ l b xs zs, x = .ref l ∧ y = .ref b ∧ H l = some (.lst xs) ∧ H b = some (.lst zs) ∧ xs.length + zs.length ≤ sizeLine ∧ ∀ p H2, Same H H2 → H p = none → H2 p = some (.lst (xs ++ zs)) → Q (.ref p) H2
theorem op_catG : OpR X (binaryOp .Add) rCatG := fun pins s σ H x y v u Q I rx ry w => by
  rcases w with ⟨l, b, xs, zs, e1, e2, h1, h2, z, q⟩
  exact op_cat pins s σ H x y v u Q I rx ry ⟨l, b, xs, zs, e1, e2, h1, h2, z, fun p np => q p _ (Same.upd np) np upd_same⟩
def tDnTG : TE := fun _ H Q => ∀ p H2, Same H H2 → H p = none → H2 p = some (.dT []) → Q (.ref p) H2
theorem pe_dnTG {pos : Pos} : PE X (.Dict [] [] pos) tDnTG := peOf pe_dnewT fun σ H Q q p np => q p _ (Same.upd np) np upd_same
def unref : V → Addr
  | .ref t => t
  | _ => 0
theorem unref_map : ∀ {ys : List V}, (∀ y ∈ ys, ∃ t, y = V.ref t) → ys = (ys.map unref).map V.ref
  | [], _ => rfl
  | y :: ys, h => by
    obtain ⟨t, rfl⟩ := h y List.mem_cons_self
    rw [List.map_cons, List.map_cons, ← unref_map fun z m => h z (List.mem_cons_of_mem _ m)]
    rfl
/-- sorted(xs), xs a list of pairs of ints, f the ints at each address -/
def rSortS (K : PySem.W.Frag) : List V → Hp → VK → Prop := fun vs H Q => ∃ (a : Addr) (ts : List Addr) (f : Addr → Int × Int), vs = [V.ref a] ∧ SqL K H a (ts.map V.ref) ∧ (∀ t ∈ ts, H t = some (.tup [.int (f t).1, .int (f t).2])) ∧
  ∀ (us : List Addr) (p : Addr) (H2 : Hp), us.Perm ts → us.Pairwise (fun a b => lexLe (f a) (f b)) → Same H H2 → H p = none → H2 p = some (.lst (us.map V.ref)) → Q (.ref p) H2
theorem cr_sortS : CallR X (.builtin "sorted") (rSortS X.K) := by
  intro pins s σ H vs us Q I r h
  obtain ⟨a, ts, f, rfl, hl, hk, q⟩ := h
  refine cr_sortedPO pins s σ H _ us Q I r ⟨a, ts.map V.ref, fun v => f (unref v), rfl, hl, fun x m => ?_, fun ys p so st np => ?_⟩
  · obtain ⟨t, mt, rfl⟩ := List.mem_map.mp m
    exact ⟨t, rfl, hk t mt⟩
  · have pm := st.perm
    have er : ys = (ys.map unref).map V.ref := unref_map fun y m => by
      obtain ⟨t, _, e⟩ := List.mem_map.mp (pm.mem_iff.mp m)
      exact ⟨t, e.symm⟩
    refine q (ys.map unref) p _ ?_ ?_ (Same.upd np) np (by rw [← er]; exact upd_same)
    · have z := pm.map unref
      rw [List.map_map, show (unref ∘ V.ref) = id from funext fun _ => rfl, List.map_id] at z
      exact z
    · rw [List.pairwise_map]
      refine List.Pairwise.imp_of_mem (fun {x y} mx my h => ?_) so
      have w := SrtO.lexB_no.mp h
      unfold lexLe
      dsimp only at w
      omega
/-- xs[a:b], a new list -/
def rSlG (K : PySem.W.Frag) : V → Option Int → Option Int → Hp → VK → Prop := fun x lo hi H Q => ∃ a xs, x = .ref a ∧ SqL K H a xs ∧ ∀ p H2, Same H H2 → H p = none → H2 p = some (.lst (cutV xs lo hi)) → Q (.ref p) H2
theorem sl_listG : SlR X (rSlG X.K) := fun pins s σ H x v vl vu lo hi sl Q I rx hs pl pu h => by
  rcases h with ⟨a, xs, e1, e2, q⟩
  exact sl_list pins s σ H x v vl vu lo hi sl Q I rx hs pl pu ⟨a, xs, e1, e2, fun p np => q p _ (Same.upd np) np upd_same⟩
end
theorem for_enumG {K : PySem.W.Frag} {a : Addr} {xs : List V} {g : TG} {tb : TS} {D : Ends} {σ : L2.St} {H : Hp} (Pv : Nat → L2.St → Hp → Prop) (start : Pv 0 σ H) (held : ∀ i σ H, i ≤ xs.length → Pv i σ H → SqL K H a xs)
    (turn : ∀ i x σ H, xs[i]? = some x → Pv i σ H → ∀ T H', Same H H' → H T = none → H' T = some (.tup [.int (i : Nat), x]) → g (.ref T) σ H' fun σ2 H2 => tb { D with nx := Pv (i + 1), ct := Pv (i + 1), bk := D.nx } σ2 H2) (done : ∀ σ H, Pv xs.length σ H → D.nx σ H) :
    ∃ W : Nat → Nat → L2.St → Hp → Prop, (∃ m, W 0 m σ H) ∧ ∀ i m σ H, W i m σ H → ((Ite K a).stop i H ∧ D.nx σ H) ∨ ((Ite K a).go i H ∧ ∃ N : L2.St → Hp → Prop, (∀ σ' H', N σ' H' → ∃ m', m' < m ∧ W (i + 1) m' σ' H') ∧ ∀ x H', (Ite K a).yld i H x H' → g x σ H' fun σ2 H2 => tb { D with nx := N, ct := N, bk := D.nx } σ2 H2) := by
  refine ⟨fun i m σ H => m = xs.length - i ∧ i ≤ xs.length ∧ Pv i σ H, ⟨_, rfl, Nat.zero_le _, start⟩, fun i m σ H w => ?_⟩
  obtain ⟨rfl, le, p⟩ := w
  have seq := held i σ H le p
  by_cases lt : i < xs.length
  · refine .inr ⟨⟨xs, xs[i], seq, List.getElem?_eq_getElem lt⟩, Pv (i + 1), fun σ' H' p' => ⟨_, by omega, rfl, lt, p'⟩, fun y H' yl => ?_⟩
    obtain ⟨T, x, rfl, free, rfl, at_⟩ := yl
    exact turn i x σ H (at_ xs seq) p T _ (Same.upd free) free upd_same
  · have e : i = xs.length := by omega
    subst e
    exact .inl ⟨⟨xs, seq, Nat.le_refl _⟩, done σ H p⟩
theorem lc_enumG {K : PySem.W.Frag} {a : Addr} {xs : List V} {g : TG} {tt : TT} {te : TE} {vs : List Nat} {σ : L2.St} {H1 : Hp} {D : Addr} {Qd : Hp → Prop} (Pv : Nat → Hp → Prop) (start : Pv 0 (upd H1 D (.lst []))) (held : ∀ i H, i ≤ xs.length → Pv i H → SqL K H a xs)
    (turn : ∀ i x H, xs[i]? = some x → Pv i H → ∀ T H', Same H H' → H T = none → H' T = some (.tup [.int (i : Nat), x]) → g (.ref T) (wipe σ vs) H' fun σ2 H2 => wipe σ2 vs = wipe σ vs ∧ tt σ2 H2 fun b H3 =>
      if b = true then te σ2 H3 fun y H4 => ∃ acc, H4 D = some (.lst acc) ∧ acc.length < sizeLine ∧ Pv (i + 1) (upd H4 D (.lst (acc ++ [y]))) else Pv (i + 1) H3) (done : ∀ H, Pv xs.length H → Qd H) :
    ∃ W : Nat → Nat → Hp → Prop, (∃ m, W 0 m (upd H1 D (.lst []))) ∧ ∀ i m H, W i m H → ((Ite K a).stop i H ∧ Qd H) ∨ ((Ite K a).go i H ∧ ∃ Nx : Hp → Prop, (∀ H', Nx H' → ∃ m', m' < m ∧ W (i + 1) m' H') ∧ ∀ x H', (Ite K a).yld i H x H' → g x (wipe σ vs) H' fun σ2 H2 => wipe σ2 vs = wipe σ vs ∧ tt σ2 H2 fun b H3 =>
        if b = true then te σ2 H3 fun y H4 => ∃ acc, H4 D = some (.lst acc) ∧ acc.length < sizeLine ∧ Nx (upd H4 D (.lst (acc ++ [y]))) else Nx H3) := by
  refine ⟨fun i m H => m = xs.length - i ∧ i ≤ xs.length ∧ Pv i H, ⟨_, rfl, Nat.zero_le _, start⟩, fun i m H w => ?_⟩
  obtain ⟨rfl, le, p⟩ := w
  have seq := held i H le p
  by_cases lt : i < xs.length
  · refine .inr ⟨⟨xs, xs[i], seq, List.getElem?_eq_getElem lt⟩, Pv (i + 1), fun H' p' => ⟨_, by omega, rfl, lt, p'⟩, fun y H' yl => ?_⟩
    obtain ⟨T, x, rfl, free, rfl, at_⟩ := yl
    exact turn i x H (at_ xs seq) p T _ (Same.upd free) free upd_same
  · have e : i = xs.length := by omega
    subst e
    exact .inl ⟨⟨xs, seq, Nat.le_refl _⟩, done H p⟩
end Nc

/-! Own rules: the readings of comprehensions with two for. -/
namespace Nc
open PySem PySem.Spec PyProof.Rows L2
section
variable {J : It} {n : Nat} {G : Hp → Prop} {Y : Nat → Hp → V → Hp → Prop}
theorem lc2_out (w : Walk J n G Y) {g : TG} {tt : TT} {B : L2.St → Hp → (Hp → Prop) → Prop} {vs : List Nat} {σ : L2.St} {H1 : Hp} {D : Addr} {Qd : Hp → Prop} (Pv : Nat → Hp → Prop) (start : Pv 0 (upd H1 D (.lst []))) (held : ∀ i H, i ≤ n → Pv i H → G H)
    (turn : ∀ i x H H', i < n → Pv i H → Y i H x H' → g x (wipe σ vs) H' fun σ2 H2 => wipe σ2 vs = wipe σ vs ∧ tt σ2 H2 fun b H3 => if b = true then B σ2 H3 (Pv (i + 1)) else Pv (i + 1) H3) (done : ∀ H, Pv n H → Qd H) :
    ∃ W : Nat → Nat → Hp → Prop, (∃ m, W 0 m (upd H1 D (.lst []))) ∧ ∀ i m H, W i m H → (J.stop i H ∧ Qd H) ∨ (J.go i H ∧ ∃ N : Hp → Prop, (∀ H', N H' → ∃ m', m' < m ∧ W (i + 1) m' H') ∧ ∀ x H', J.yld i H x H' → g x (wipe σ vs) H' fun σ2 H2 => wipe σ2 vs = wipe σ vs ∧ tt σ2 H2 fun b H3 => if b = true then B σ2 H3 N else N H3) := by
  refine ⟨fun i m H => m + i = n ∧ Pv i H, ⟨n, rfl, start⟩, fun i m H w' => ?_⟩
  have le : i ≤ n := by omega
  have g0 := held i H le w'.2
  by_cases lt : i < n
  · exact .inr ⟨w.goes i H lt g0, Pv (i + 1), fun H' p => ⟨m - 1, by omega, by omega, p⟩, fun x H' y => turn i x H H' lt w'.2 (w.yields i H x H' lt g0 y)⟩
  · have e : i = n := by omega
    subst e
    exact .inl ⟨w.stops H g0, done H w'.2⟩
theorem lc2_in (w : Walk J n G Y) {g : TG} {tt : TT} {te : TE} {vs : List Nat} {σ2 : L2.St} {H4 : Hp} {D : Addr} {N : Hp → Prop} (Pw : Nat → Hp → Prop) (start : Pw 0 H4) (held : ∀ j H, j ≤ n → Pw j H → G H)
    (turn : ∀ j x H H', j < n → Pw j H → Y j H x H' → g x (wipe σ2 vs) H' fun σ3 H5 => wipe σ3 vs = wipe σ2 vs ∧ tt σ3 H5 fun b H6 => if b = true then te σ3 H6 fun y H7 => ∃ acc, H7 D = some (.lst acc) ∧ acc.length < sizeLine ∧ Pw (j + 1) (upd H7 D (.lst (acc ++ [y]))) else Pw (j + 1) H6) (done : ∀ H, Pw n H → N H) :
    ∃ W : Nat → Nat → Hp → Prop, (∃ m, W 0 m H4) ∧ ∀ j k H, W j k H → (J.stop j H ∧ N H) ∨ (J.go j H ∧ ∃ N1 : Hp → Prop, (∀ H', N1 H' → ∃ k', k' < k ∧ W (j + 1) k' H') ∧ ∀ x H', J.yld j H x H' → g x (wipe σ2 vs) H' fun σ3 H5 => wipe σ3 vs = wipe σ2 vs ∧ tt σ3 H5 fun b H6 =>
      if b = true then te σ3 H6 fun y H7 => ∃ acc, H7 D = some (.lst acc) ∧ acc.length < sizeLine ∧ N1 (upd H7 D (.lst (acc ++ [y]))) else N1 H6) := by
  refine ⟨fun j m H => m + j = n ∧ Pw j H, ⟨n, rfl, start⟩, fun j m H w' => ?_⟩
  have le : j ≤ n := by omega
  have g0 := held j H le w'.2
  by_cases lt : j < n
  · exact .inr ⟨w.goes j H lt g0, Pw (j + 1), fun H' p => ⟨m - 1, by omega, by omega, p⟩, fun x H' y => turn j x H H' lt w'.2 (w.yields j H x H' lt g0 y)⟩
  · have e : j = n := by omega
    subst e
    exact .inl ⟨w.stops H g0, done H w'.2⟩
end
end Nc

/-! Own rules: a written dict whose keys are tuples. -/
namespace Nc
open PySem PySem.Spec PyProof.Rows L2
abbrev Ent := List L2.Key × Addr × V
section
variable {X : Cx} {pins : List (Addr × Obj)} {σ : L2.St} {a : Addr} {A : Around} {E : Value → Shared → Prop}
/-- pair by pair into a dict of tuple keys -/
theorem store_tups (hu : A.units < cLine) : ∀ (es : List Ent) (vs : List (Value × Value)) (kvs : List (List L2.Key × V)) (s : Shared) (H : Hp) (Q : PUnit → Shared → Prop), L2.Inv X pins σ H s → H a = some (.dT kvs) → VV (es.map fun e => (V.ref e.2.1, e.2.2)) vs → (∀ e ∈ es, H e.2.1 = some (.tup (e.1.map kV))) → kvs.length + es.length ≤ sizeLine →
    (∀ s', L2.Inv X pins σ (upd H a (.dT (es.foldl (fun acc e => putK acc e.1 e.2.2) kvs))) s' → Q PUnit.unit s') → wpAny (model X.prog X.w) A (storeAll a vs) Q E s := by
  intro es
  induction es with
  | nil =>
    intro vs kvs s H Q I e rv _ _ q
    cases rv
    unfold storeAll
    rw [List.forIn_nil]
    refine wpAny_pure (q s ?_)
    have back : upd H a (.dT kvs) = H := funext fun b => by
      by_cases c : b = a
      · rw [c, upd_same, e]
      · rw [upd_ne c]
    show L2.Inv X pins σ (upd H a (.dT kvs)) s
    rw [back]
    exact I
  | cons e es ih =>
    intro vs kvs s H Q I ea rv hk room q
    cases rv with
    | cons r0 rv =>
      rename_i v0 vs
      obtain ⟨u, r⟩ := v0
      obtain ⟨r1, r2⟩ := r0
      cases r1
      rw [List.length_cons] at room
      unfold storeAll
      rw [List.forIn_cons]
      obtain ⟨len, sys, xs, rel, dd⟩ := dt_of I.hok ea
      have lx : xs.length ≤ sizeLine := by rw [← Paired.length rel]; exact len
      refine wpAny_bind (wpAny_bind (wpAny_dictSet_heap (hsz := lx) (knd := tupleKind (mixKind X.prog X.w)) hu (key_of I.hok (hk e List.mem_cons_self)) dd fun h' dd' hs => wpAny_pure ?_))
      have l2 : (putK kvs e.1 e.2.2).length ≤ sizeLine := Nat.le_trans (length_putK kvs _ _) (by omega)
      obtain ⟨o, ds, ep, ho, c1, c2, c3, _, c4⟩ := dd'
      have I2 : L2.Inv X pins σ (upd H a (.dT (putK kvs e.1 e.2.2))) { s with heap := h', toks := s.toks + (tupleKind (mixKind X.prog X.w)).draws e.1 } := d_write I (by rw [ea]; exact True.intro) hs ⟨o, ho⟩ ⟨l2, sys, _, (rel.put e.1 (hk e List.mem_cons_self) r2).keeps fun c ys ec => (by rw [upd_ne (ne_of ec ea (fun z => nomatch z))]; exact ec), o, ds, ep, ho, c1, c2, c3, c4⟩
      have up : ∀ x y : HO, upd (upd H a x) a y = upd H a y := fun x y => funext fun b => by
        by_cases c : b = a
        · rw [c, upd_same, upd_same]
        · rw [upd_ne c, upd_ne c, upd_ne c]
      refine ih vs (putK kvs e.1 e.2.2) _ _ Q I2 upd_same rv (fun e' m => ?_) (by have := length_putK kvs e.1 e.2.2; omega) fun s' I' => q s' ?_
      · rw [upd_ne (ne_of (hk e' (List.mem_cons_of_mem _ m)) ea (fun z => nomatch z))]
        exact hk e' (List.mem_cons_of_mem _ m)
      · rw [up] at I'
        exact I'
end
/-- {t: v, ..}; the new dict stands empty while the pairs are made -/
def tDispT (trs : List (TE × TE)) : TE := fun σ H Q => ∀ p, H p = none → tPairs trs σ (upd H p (.dT [])) fun ps H2 => H2 p = some (.dT []) ∧ ∃ es : List Ent, ps = es.map (fun e => (V.ref e.2.1, e.2.2)) ∧ (∀ e ∈ es, H2 e.2.1 = some (.tup (e.1.map kV))) ∧ es.length ≤ 15 ∧ Q (.ref p) (upd H2 p (.dT (es.foldl (fun acc e => putK acc e.1 e.2.2) [])))
theorem pe_dispT {X : Cx} {pos : Pos} {keys : List (Option Expr)} {values : List Expr} {trs : List (TE × TE)} (hu : X.A.units < cLine) (h : PPs X pos keys values trs) (hall : keys.all (·.isSome) = true) (hl : keys.length = values.length) (h0 : keys ≠ []) (h15 : keys.length ≤ 15) : PE X (.Dict keys values pos) (tDispT trs) := by
  constructor
  intro pins s σ H Q I q
  have I1 := I.laid (a := s.heap.objs.size) (o := .dT []) (h' := s.heap.push { cls := .type "dict", data := .dict #[] }) (t' := s.toks) (fun _ _ q => Heap.get?_push_of_some _ q) (Nat.le_refl _) (dt_empty s.heap I.big)
  refine wpAny_Dict_any hall hl h0 h15 (thn (h.run pins _ σ _ _ I1 (q _ (I.hok.fresh (Nat.le_refl s.heap.objs.size)))) ?_)
  rintro ws s2 ⟨ps, H2, I2, rel, e, es, rfl, hk, few, q2⟩
  exact store_tups hu es ws [] s2 H2 _ I2 e rel hk (by rw [List.length_nil]; have : (15 : Nat) ≤ sizeLine := by decide
                                                       omega) fun s' I' => ⟨.ref s.heap.objs.size, _, I', rfl, q2⟩
end Nc

/-! Own rules: how many a set of tuples holds, no two alike. -/
namespace Nc
open PySem PySem.Spec PyProof.Rows L2
def rLenTN (P : Program) (w : World) : List V → Hp → VK → Prop := fun vs H Q => ∃ (a : Addr) (L : List (Addr × List Int)), vs = [.ref a] ∧ H a = some (SetTO P w a L) ∧ ((L.map (·.2)).Nodup → Q (.int (L.length : Nat)) H)
theorem call_len_setN {X : Cx} : CallR X (.builtin "len") (rLenTN X.prog X.w) := by
  intro pins s σ H xs us Q I r h
  obtain ⟨a, L, rfl, ha, q⟩ := h
  have R0 : SetT0 X.prog X.w s.heap a L := (I.hok a _ ha).1
  obtain ⟨es, ep, t, R⟩ := R0.ex
  exact call_len_setT pins s σ H _ us Q I r ⟨a, L, rfl, ha, q R.2.2.2.1⟩
/-- no two alike, all among others: no more than these -/
theorem len_le_of_sub {α : Type} [BEq α] [LawfulBEq α] : ∀ {l m : List α}, l.Nodup → (∀ x ∈ l, x ∈ m) → l.length ≤ m.length
  | [], _, _, _ => Nat.zero_le _
  | x :: l, m, n, h => by
    obtain ⟨n1, n2⟩ := List.nodup_cons.mp n
    have mx := h x List.mem_cons_self
    have := len_le_of_sub (l := l) (m := m.erase x) n2 fun y hy => (List.mem_erase_of_ne (fun e => n1 (by rw [← e]; exact hy))).mpr (h y (List.mem_cons_of_mem _ hy))
    rw [List.length_erase_of_mem mx] at this
    have pos : 0 < m.length := List.length_pos_of_mem mx
    rw [List.length_cons]
    omega
end Nc

/-! Own rules: slices with the step -1. -/
namespace Nc
open PySem PySem.Spec PyProof.Rows L2
theorem range_down (n : Nat) (s : Nat) : sliceRange ((s + n : Nat) : Int) (s : Int) (-1) = (List.range n).map fun k => s + n - k := by
  unfold sliceRange
  have h1 : ¬ ((-1 : Int) > 0) := by decide
  by_cases h : n = 0
  · subst h
    simp
  · have h2 : (((s + n : Nat) : Int) > (s : Int)) := by omega
    have e : (((s + n : Nat) : Int) - (s : Int) - -1 - 1) / (- -1) = (n : Int) := by
      rw [show (- -1 : Int) = 1 by decide, Int.ediv_one]
      omega
    simp only [h1, if_false, h2, if_true, e, Int.toNat_natCast]
    apply List.map_congr_left
    intro k hk
    have := List.mem_range.mp hk
    omega
/-- xs[a:b:-1] by what is picked -/
def tSlB (K : PySem.W.Frag) (lo hi : Option Int) (F : List V → List V) (te : TE) : TE := fun σ H Q => te σ H fun x H1 => ∃ a xs, x = .ref a ∧ SqL K H1 a xs ∧ ∀ p H2, Same H1 H2 → H1 p = none → H2 p = some (.lst (F xs)) → Q (.ref p) H2
/-- F tells what is picked, of values and of what stands for them -/
structure Picks (lo hi : Option Int) (F : ∀ {α : Type}, List α → List α) : Prop where
  pick : ∀ items : Array Value, slicePick items lo hi (some (-1)) = (F items.toList).toArray
  vals : ∀ {xs : List V} {us : List Value}, Vals xs us → Vals (F xs) (F us)
  len : ∀ (xs : List V), (F xs).length ≤ xs.length
section
variable {X : Cx}
theorem pe_slB {lo hi : Option Int} {elo ehi : Option Expr} {e : Expr} {te : TE} {k : Nat} {p1 p2 p3 pos : Pos} {F : ∀ {α : Type}, List α → List α} (pk : Picks lo hi F) (he : PE X e te)
    {tl th : TO} (hl : PO X elo tl) (ql : ∀ σ H (Q : Option Int → Hp → Prop), Q lo H → tl σ H Q) (hh : PO X ehi th) (qh : ∀ σ H (Q : Option Int → Hp → Prop), Q hi H → th σ H Q) :
    PE X (.Subscript e (.Slice elo ehi (some (.UnaryOp .USub (.Constant (.int 1) k p1) p2)) p3) pos) (tSlB X.K lo hi F te) := by
  refine ⟨fun pins s σ H Q I h => ?_⟩
  refine Subscript_ (thn (he.run pins s σ H _ I h) fun v s1 ⟨x, H1, I1, r1, q1⟩ => ?_)
  obtain ⟨a, xs, ex, hx, q⟩ := q1
  subst ex
  cases r1
  have hst : PO X (some (.UnaryOp .USub (.Constant (.int 1) k p1) p2)) (tPart (tUn (rU fun i => .int (-i)) (tC (.int 1)))) := po_some (pe_un un_neg pe_int)
  refine wpAny_Slice (thn (hl.run pins s1 σ H1 (fun o H2 => o = lo ∧ H2 = H1) I1 (ql _ _ _ ⟨rfl, rfl⟩)) fun vl s2 ⟨l, H2, I2, pl, el, e2⟩ => ?_)
  subst el e2
  refine thn (hh.run pins s2 σ H2 (fun o H3 => o = hi ∧ H3 = H2) I2 (qh _ _ _ ⟨rfl, rfl⟩)) fun vu s3 ⟨u, H3, I3, pu, eu, e3⟩ => ?_
  subst eu e3
  refine thn (hst.run pins s3 σ H3 (fun o H4 => o = some (-1) ∧ H4 = H3) I3 ⟨1, rfl, -1, rfl, rfl, rfl⟩) fun vs s4 ⟨o, H4, I4, ps, eo, e4⟩ => ?_
  subst eo e4
  have I5 : Inv X pins σ H4 { s4 with heap := s4.heap.push { cls := .type "slice", data := .fields #[vl, vu, vs] } } := I4.kept (t' := s4.toks) fun b ob q => Heap.get?_push_of_some _ q
  obtain ⟨its, r, ht, hz⟩ := I5.list hx
  have hlen := r.length
  show wpAny (model X.prog X.w) X.A (subscriptTail e (.Slice elo ehi (some (.UnaryOp .USub (.Constant (.int 1) k p1) p2)) p3) (.ref a) (.ref s4.heap.objs.size)) (EP X pins σ Q) X.xe { s4 with heap := s4.heap.push { cls := .type "slice", data := .fields #[vl, vu, vs] } }
  refine tail_any (ops := [.ref a, .ref s4.heap.objs.size]) ht.isList.typeIs (PySem.slot_list_getitem.lookup) ?_ (by with_unfolding_all rfl)
  refine wpAny_getItem_list_slice ht.isList (Heap.IsSliceOf.new _ vl vu vs) pl pu ps (by decide) ?_ (by rw [List.size_toArray]; omega)
  rw [pk.pick]
  have nn := I5.hok.fresh (Nat.le_refl _)
  refine ⟨.ref _, _, I5.laid (t' := s4.toks) (o := .lst (F xs)) (fun b ob q => Heap.get?_push_of_some _ q) (Nat.le_refl _) ?_, rfl, q _ _ (Same.upd nn) nn upd_same⟩
  exact ⟨Nat.le_trans (pk.len xs) hz, _, 0, pk.vals r, Heap.get?_push_size _ rfl⟩
end
theorem range_rev (m s : Nat) : (List.range m).map (fun k => s + m - k) = ((List.range m).map (fun k => s + 1 + k)).reverse := by
  apply List.ext_getElem
  · simp
  · intro i h1 h2
    simp only [List.length_map, List.length_range] at h1
    rw [List.getElem_reverse]
    simp only [List.getElem_map, List.getElem_range, List.length_map, List.length_range]
    omega
theorem range_rev0 (m : Nat) : (List.range m).map (fun k => m - 1 - k) = ((List.range m).map (fun k => 0 + k)).reverse := by
  apply List.ext_getElem
  · simp
  · intro i h1 h2
    simp only [List.length_map, List.length_range] at h1
    rw [List.getElem_reverse]
    simp only [List.getElem_map, List.getElem_range, List.length_map, List.length_range]
    omega
/-- xs[-2:0:-1] -/
def inner {α : Type} (l : List α) : List α := (l.drop 1).dropLast.reverse
/-- xs[-2::-1] -/
def backL {α : Type} (l : List α) : List α := l.dropLast.reverse
theorem picks_inner : Picks (some (-2)) (some 0) inner where
  pick := fun items => by
    unfold slicePick inner
    rcases Nat.lt_or_ge items.size 2 with h | h
    · have e : (sliceBounds (some (-2)) (some 0) (some (-1)) items.size).1 = -1 := by
        unfold sliceBounds
        simp only [Option.getD_some]
        have : ¬ ((-1 : Int) > 0) := by decide
        simp only [this, if_false]
        rw [if_pos (by decide)]
        omega
      have e2 : ¬ (sliceBounds (some (-2)) (some 0) (some (-1)) items.size).1 > (sliceBounds (some (-2)) (some 0) (some (-1)) items.size).2.1 := by
        rw [e]
        unfold sliceBounds
        simp only [Option.getD_some]
        have : ¬ ((-1 : Int) > 0) := by decide
        simp only [this, if_false]
        omega
      have e3 : (sliceBounds (some (-2)) (some 0) (some (-1)) items.size).2.2 = -1 := rfl
      have e4 : (items.toList.drop 1).dropLast = [] := by
        apply List.eq_nil_of_length_eq_zero
        rw [List.length_dropLast, List.length_drop, Array.length_toList]
        omega
      rw [e3, e4]
      unfold sliceRange
      rw [if_neg (by decide), if_neg e2]
      rfl
    · obtain ⟨m, hm⟩ : ∃ m, items.size = m + 2 := ⟨items.size - 2, by omega⟩
      have e : sliceBounds (some (-2)) (some 0) (some (-1)) items.size = (((0 + m : Nat) : Int), ((0 : Nat) : Int), -1) := by
        unfold sliceBounds
        simp only [Option.getD_some]
        have : ¬ ((-1 : Int) > 0) := by decide
        simp only [this, if_false]
        rw [if_pos (by decide), if_neg (by decide), hm]
        refine Prod.ext ?_ (Prod.ext ?_ rfl)
        · show max (-1) (min (-2 + ((m + 2 : Nat) : Int)) (((m + 2 : Nat) : Int) - 1)) = ((0 + m : Nat) : Int)
          omega
        · show max (-1) (min 0 (((m + 2 : Nat) : Int) - 1)) = ((0 : Nat) : Int)
          omega
      rw [e, range_down, range_rev, List.filterMap_reverse, pick_run items (0 + 1) m, List.dropLast_eq_take, List.length_drop, Array.length_toList, hm]
      rfl
  vals := fun r => by
    unfold inner
    have d := Vals.drop 1 r
    refine Vals.reverse ?_
    rw [List.dropLast_eq_take, List.dropLast_eq_take, d.length]
    exact Vals.take _ d
  len := fun xs => by
    unfold inner
    rw [List.length_reverse, List.length_dropLast, List.length_drop]
    omega
theorem picks_backL : Picks (some (-2)) none backL where
  pick := fun items => by
    unfold slicePick backL
    rcases Nat.eq_zero_or_pos items.size with h | h
    · have e : items.toList = [] := List.eq_nil_of_length_eq_zero (by rw [Array.length_toList]; exact h)
      have e1 : sliceBounds (some (-2)) none (some (-1)) items.size = (-1, -1, -1) := by
        rw [h]
        rfl
      rw [e, e1]
      rfl
    · obtain ⟨m, hm⟩ : ∃ m, items.size = m + 1 := ⟨items.size - 1, by omega⟩
      have e : sliceBounds (some (-2)) none (some (-1)) items.size = ((m : Int) - 1, -1, -1) := by
        unfold sliceBounds
        simp only [Option.getD_some]
        have : ¬ ((-1 : Int) > 0) := by decide
        simp only [this, if_false]
        rw [if_pos (by decide), hm]
        refine Prod.ext ?_ rfl
        show max (-1) (min (-2 + ((m + 1 : Nat) : Int)) (((m + 1 : Nat) : Int) - 1)) = (m : Int) - 1
        omega
      rw [e]
      show ((sliceRange ((m : Int) - 1) (-1) (-1)).filterMap (items[·]?)).toArray = _
      rw [PySem.W.krv_sliceRange, range_rev0, List.filterMap_reverse, pick_run items 0 m, List.dropLast_eq_take, Array.length_toList, hm]
      rfl
  vals := fun r => by
    unfold backL
    refine Vals.reverse ?_
    rw [List.dropLast_eq_take, List.dropLast_eq_take, r.length]
    exact Vals.take _ r
  len := fun xs => by
    unfold backL
    rw [List.length_reverse, List.length_dropLast]
    omega
end Nc

/-! Own rules: comprehensions whose items are told one by one. -/
namespace Nc
open PySem PySem.Spec PyProof.Rows L2
section
variable {J : It} {n : Nat} {G : Hp → Prop} {Y : Nat → Hp → V → Hp → Prop} {g : TG} {te : TE} {tt : TT} {vs : List Nat} {σ : L2.St} {H1 : Hp} {D : Addr} {Qd : Hp → Prop}
theorem same_upd_of {H H' : Hp} {D : Addr} {o : HO} (s : Same H H') (n : H D = none) : Same H (upd H' D o) := fun b x e => by
  rw [upd_ne (ne_of_none e n)]
  exact s b x e
/-- each item is told by Rel, of the heap where it was made; Rel speaks of what stood ahead and of what is not the new list -/
theorem lc_rel (w : Walk J n G Y) (nD : H1 D = none) (few : n ≤ 100000) (Gs : ∀ H, Same H1 H → G H) (Rel : Nat → V → Hp → Prop)
    (stay : ∀ i y H H', (∀ b o, b ≠ D → H b = some o → H' b = some o) → Rel i y H → Rel i y H')
    (hs : ∀ i x H H' (Kp : VK), i < n → Same H1 H → (∃ acc, H D = some (.lst acc)) → Y i H x H' → (∀ y H4, Same H H4 → Rel i y H4 → Kp y H4) → g x (wipe σ vs) H' fun σ2 H2 => wipe σ2 vs = wipe σ vs ∧ te σ2 H2 Kp)
    (hd : ∀ H' ys, Same H1 H' → H' D = some (.lst ys) → ys.length = n → (∀ i y, ys[i]? = some y → Rel i y H') → Qd H') :
    ∃ W : Nat → Nat → Hp → Prop, (∃ m, W 0 m (upd H1 D (.lst []))) ∧ ∀ i m H, W i m H →
      (J.stop i H ∧ Qd H) ∨ (J.go i H ∧ ∃ Nx : Hp → Prop, (∀ H', Nx H' → ∃ m', m' < m ∧ W (i + 1) m' H') ∧ ∀ x H', J.yld i H x H' → g x (wipe σ vs) H' fun σ2 H2 => wipe σ2 vs = wipe σ vs ∧ tYes σ2 H2 fun b H3 =>
        if b = true then te σ2 H3 fun y H4 => ∃ acc, H4 D = some (.lst acc) ∧ acc.length < sizeLine ∧ Nx (upd H4 D (.lst (acc ++ [y]))) else Nx H3) := by
  refine lc_it w (tt := tYes) (fun i H => Same H1 H ∧ ∃ ys, H D = some (.lst ys) ∧ ys.length = i ∧ ∀ j y, ys[j]? = some y → Rel j y H) ⟨same_upd_of (fun _ _ e => e) nD, [], upd_same, rfl, fun _ _ e => nomatch e⟩ (fun i H _ z => Gs H z.1) (fun i x H H' hi z y => ?_) fun H z => ?_
  · obtain ⟨s1, ys, eD, len, rel⟩ := z
    refine hs i x H H' _ hi s1 ⟨ys, eD⟩ y fun v H4 s4 r4 => ?_
    have e4 := s4 _ _ eD
    have s14 : Same H1 H4 := fun b o e => s4 _ _ (s1 _ _ e)
    have lift : ∀ b o, b ≠ D → H4 b = some o → (upd H4 D (.lst (ys ++ [v]))) b = some o := fun b o nb e => by rw [upd_ne nb]; exact e
    refine ⟨ys, e4, Nat.lt_of_lt_of_le (show ys.length < 100001 by omega) (by decide), same_upd_of s14 nD, ys ++ [v], upd_same, by rw [List.length_append, len]; rfl, fun j y' ey => ?_⟩
    by_cases c : j < ys.length
    · rw [List.getElem?_append_left c] at ey
      exact stay j y' H _ (fun b o nb e => lift b o nb (s4 _ _ e)) (rel j y' ey)
    · rw [List.getElem?_append_right (by omega)] at ey
      have hj : j = i := by
        have := (List.getElem?_eq_some_iff.mp ey).1
        simp at this
        omega
      subst hj
      have e0 : j - ys.length = 0 := by omega
      rw [e0] at ey
      cases Option.some.inj ey
      exact stay j v H4 _ lift r4
  · obtain ⟨s1, ys, eD, len, rel⟩ := z
    exact hd H ys s1 eD len rel
/-- .. each item is a value that is known -/
theorem lc_val (w : Walk J n G Y) (nD : H1 D = none) (few : n ≤ 100000) (Gs : ∀ H, Same H1 H → G H) (ys : List V) (ly : ys.length = n)
    (hs : ∀ i x y H H' (Kp : VK), ys[i]? = some y → Same H1 H → (∃ acc, H D = some (.lst acc)) → Y i H x H' → (∀ H4, Same H H4 → Kp y H4) → g x (wipe σ vs) H' fun σ2 H2 => wipe σ2 vs = wipe σ vs ∧ te σ2 H2 Kp)
    (hd : ∀ H', Same H1 H' → H' D = some (.lst ys) → Qd H') :
    ∃ W : Nat → Nat → Hp → Prop, (∃ m, W 0 m (upd H1 D (.lst []))) ∧ ∀ i m H, W i m H →
      (J.stop i H ∧ Qd H) ∨ (J.go i H ∧ ∃ Nx : Hp → Prop, (∀ H', Nx H' → ∃ m', m' < m ∧ W (i + 1) m' H') ∧ ∀ x H', J.yld i H x H' → g x (wipe σ vs) H' fun σ2 H2 => wipe σ2 vs = wipe σ vs ∧ tYes σ2 H2 fun b H3 =>
        if b = true then te σ2 H3 fun y H4 => ∃ acc, H4 D = some (.lst acc) ∧ acc.length < sizeLine ∧ Nx (upd H4 D (.lst (acc ++ [y]))) else Nx H3) := by
  refine lc_rel w nD few Gs (fun i y _ => ys[i]? = some y) (fun _ _ _ _ _ r => r) (fun i x H H' Kp hi s1 eD y fin => ?_) fun H' zs s eD len rel => ?_
  · have ey : ys[i]? = some ys[i] := List.getElem?_eq_getElem (by omega)
    exact hs i x _ H H' Kp ey s1 eD y fun H4 s4 => fin _ H4 s4 ey
  · have e : zs = ys := by
      apply List.ext_getElem? 
      intro i
      by_cases c : i < zs.length
      · have ez : zs[i]? = some zs[i] := List.getElem?_eq_getElem c
        rw [ez, rel i _ ez]
      · rw [List.getElem?_eq_none (by omega), List.getElem?_eq_none (by omega)]
    rw [e] at eD
    exact hd H' s eD
/-- .. with a test: the items of those that pass it -/
theorem lc_fil (w : Walk J n G Y) (nD : H1 D = none) (few : n ≤ 100000) (Gs : ∀ H, Same H1 H → G H) (b : Nat → Bool) (F : Nat → V)
    (hs : ∀ i x H H' (Kp : VK) (Kn : Hp → Prop), i < n → Same H1 H → (∃ acc, H D = some (.lst acc)) → Y i H x H' → (∀ H4, b i = true → Same H H4 → Kp (F i) H4) → (∀ H4, b i = false → Same H H4 → Kn H4) → g x (wipe σ vs) H' fun σ2 H2 => wipe σ2 vs = wipe σ vs ∧ tt σ2 H2 fun c H3 => if c = true then te σ2 H3 Kp else Kn H3)
    (hd : ∀ H', Same H1 H' → H' D = some (.lst (((List.range n).filter b).map F)) → Qd H') :
    ∃ W : Nat → Nat → Hp → Prop, (∃ m, W 0 m (upd H1 D (.lst []))) ∧ ∀ i m H, W i m H →
      (J.stop i H ∧ Qd H) ∨ (J.go i H ∧ ∃ Nx : Hp → Prop, (∀ H', Nx H' → ∃ m', m' < m ∧ W (i + 1) m' H') ∧ ∀ x H', J.yld i H x H' → g x (wipe σ vs) H' fun σ2 H2 => wipe σ2 vs = wipe σ vs ∧ tt σ2 H2 fun b H3 =>
        if b = true then te σ2 H3 fun y H4 => ∃ acc, H4 D = some (.lst acc) ∧ acc.length < sizeLine ∧ Nx (upd H4 D (.lst (acc ++ [y]))) else Nx H3) := by
  refine lc_it w (fun i H => Same H1 H ∧ H D = some (.lst (((List.range i).filter b).map F))) ⟨same_upd_of (fun _ _ e => e) nD, upd_same⟩ (fun i H _ z => Gs H z.1) (fun i x H H' hi z y => ?_) fun H z => hd H z.1 z.2
  obtain ⟨s1, eD⟩ := z
  refine hs i x H H' _ _ hi s1 ⟨_, eD⟩ y (fun H4 hb s4 => ?_) fun H4 hb s4 => ?_
  · have s14 : Same H1 H4 := fun b o e => s4 _ _ (s1 _ _ e)
    refine ⟨_, s4 _ _ eD, ?_, same_upd_of s14 nD, ?_⟩
    · rw [List.length_map]
      have := List.length_filter_le b (List.range i)
      rw [List.length_range] at this
      exact Nat.lt_of_lt_of_le (show _ < 100001 by omega) (by decide)
    · rw [upd_same, List.range_succ, List.filter_append, List.map_append, List.filter_cons_of_pos hb]
      rfl
  · have s14 : Same H1 H4 := fun b o e => s4 _ _ (s1 _ _ e)
    refine ⟨s14, ?_⟩
    rw [List.range_succ, List.filter_append, List.filter_cons_of_neg (by rw [hb]; decide), List.filter_nil, List.append_nil]
    exact s4 _ _ eD
end
end Nc

/-! Own rules: comprehensions that make a new thing for each item. -/
namespace Nc
open PySem PySem.Spec PyProof.Rows L2
section
variable {J : It} {n : Nat} {G : Hp → Prop} {Y : Nat → Hp → V → Hp → Prop} {g : TG} {te : TE} {tt : TT} {vs : List Nat} {σ : L2.St} {H1 : Hp} {D : Addr} {Qd : Hp → Prop}
/-- new things at ks, one for each of L -/
def News (H : Hp) (D : Addr) (ob : Nat → HO) (L : List Nat) (ks : List Addr) : Prop := ks.length = L.length ∧ ∀ (j i : Nat) (k : Addr), L[j]? = some i → ks[j]? = some k → k ≠ D ∧ H k = some (ob i)
theorem News.snoc {H H' : Hp} {D : Addr} {ob : Nat → HO} {L : List Nat} {ks : List Addr} {i : Nat} {k : Addr} (h : News H D ob L ks) (s : ∀ b o, b ≠ D → H b = some o → H' b = some o) (n : k ≠ D) (e : H' k = some (ob i)) : News H' D ob (L ++ [i]) (ks ++ [k]) := by
  refine ⟨by rw [List.length_append, List.length_append, h.1]; rfl, fun j a b ea eb => ?_⟩
  by_cases c : j < ks.length
  · rw [List.getElem?_append_left c] at eb
    rw [List.getElem?_append_left (by rw [← h.1]; exact c)] at ea
    have := h.2 j a b ea eb
    exact ⟨this.1, s _ _ this.1 this.2⟩
  · rw [List.getElem?_append_right (by omega)] at eb
    rw [List.getElem?_append_right (by rw [← h.1]; omega)] at ea
    have hj := (List.getElem?_eq_some_iff.mp eb).1
    simp at hj
    rw [hj] at eb
    rw [← h.1, hj] at ea
    cases Option.some.inj ea
    cases Option.some.inj eb
    exact ⟨n, e⟩
theorem lc_new (w : Walk J n G Y) (nD : H1 D = none) (few : n ≤ 100000) (Gs : ∀ H, Same H1 H → G H) (b : Nat → Bool) (ob : Nat → HO)
    (hs : ∀ i x H H' (Kp : VK) (Kn : Hp → Prop), i < n → Same H1 H → (∃ acc, H D = some (.lst acc)) → Y i H x H' → (∀ t H4, b i = true → Same H H4 → H t = none → H4 t = some (ob i) → Kp (.ref t) H4) → (∀ H4, b i = false → Same H H4 → Kn H4) → g x (wipe σ vs) H' fun σ2 H2 => wipe σ2 vs = wipe σ vs ∧ tt σ2 H2 fun c H3 => if c = true then te σ2 H3 Kp else Kn H3)
    (hd : ∀ H' ks, Same H1 H' → H' D = some (.lst (ks.map V.ref)) → News H' D ob ((List.range n).filter b) ks → Qd H') :
    ∃ W : Nat → Nat → Hp → Prop, (∃ m, W 0 m (upd H1 D (.lst []))) ∧ ∀ i m H, W i m H →
      (J.stop i H ∧ Qd H) ∨ (J.go i H ∧ ∃ Nx : Hp → Prop, (∀ H', Nx H' → ∃ m', m' < m ∧ W (i + 1) m' H') ∧ ∀ x H', J.yld i H x H' → g x (wipe σ vs) H' fun σ2 H2 => wipe σ2 vs = wipe σ vs ∧ tt σ2 H2 fun b H3 =>
        if b = true then te σ2 H3 fun y H4 => ∃ acc, H4 D = some (.lst acc) ∧ acc.length < sizeLine ∧ Nx (upd H4 D (.lst (acc ++ [y]))) else Nx H3) := by
  refine lc_it w (fun i H => Same H1 H ∧ ∃ ks, H D = some (.lst (ks.map V.ref)) ∧ News H D ob ((List.range i).filter b) ks) ⟨same_upd_of (fun _ _ e => e) nD, [], upd_same, rfl, fun _ _ _ e => nomatch e⟩ (fun i H _ z => Gs H z.1) (fun i x H H' hi z y => ?_) fun H z => ?_
  · obtain ⟨s1, ks, eD, nw⟩ := z
    refine hs i x H H' _ _ hi s1 ⟨_, eD⟩ y (fun t H4 hb s4 nt et => ?_) fun H4 hb s4 => ?_
    · have s14 : Same H1 H4 := fun b o e => s4 _ _ (s1 _ _ e)
      have tD : t ≠ D := Ne.symm (ne_of_none eD nt)
      have lift : ∀ a o, a ≠ D → H a = some o → (upd H4 D (.lst (ks.map V.ref ++ [.ref t]))) a = some o := fun a o na e => by rw [upd_ne na]; exact s4 _ _ e
      refine ⟨_, s4 _ _ eD, ?_, same_upd_of s14 nD, ks ++ [t], ?_, ?_⟩
      · rw [List.length_map, nw.1]
        have := List.length_filter_le b (List.range i)
        rw [List.length_range] at this
        exact Nat.lt_of_lt_of_le (show _ < 100001 by omega) (by decide)
      · rw [upd_same, List.map_append]
        rfl
      · rw [List.range_succ, List.filter_append, List.filter_cons_of_pos hb]
        exact nw.snoc lift tD (by rw [upd_ne tD]; exact et)
    · have s14 : Same H1 H4 := fun b o e => s4 _ _ (s1 _ _ e)
      refine ⟨s14, ks, s4 _ _ eD, ?_⟩
      rw [List.range_succ, List.filter_append, List.filter_cons_of_neg (by rw [hb]; decide), List.filter_nil, List.append_nil]
      exact ⟨nw.1, fun j a k ea ek => ⟨(nw.2 j a k ea ek).1, s4 _ _ (nw.2 j a k ea ek).2⟩⟩
  · obtain ⟨s1, ks, eD, nw⟩ := z
    exact hd H ks s1 eD nw
/-- .. without a test -/
theorem lc_newA (w : Walk J n G Y) (nD : H1 D = none) (few : n ≤ 100000) (Gs : ∀ H, Same H1 H → G H) (ob : Nat → HO)
    (hs : ∀ i x H H' (Kp : VK), i < n → Same H1 H → (∃ acc, H D = some (.lst acc)) → Y i H x H' → (∀ t H4, Same H H4 → H t = none → H4 t = some (ob i) → Kp (.ref t) H4) → g x (wipe σ vs) H' fun σ2 H2 => wipe σ2 vs = wipe σ vs ∧ te σ2 H2 Kp)
    (hd : ∀ H' ks, Same H1 H' → H' D = some (.lst (ks.map V.ref)) → News H' D ob (List.range n) ks → Qd H') :
    ∃ W : Nat → Nat → Hp → Prop, (∃ m, W 0 m (upd H1 D (.lst []))) ∧ ∀ i m H, W i m H →
      (J.stop i H ∧ Qd H) ∨ (J.go i H ∧ ∃ Nx : Hp → Prop, (∀ H', Nx H' → ∃ m', m' < m ∧ W (i + 1) m' H') ∧ ∀ x H', J.yld i H x H' → g x (wipe σ vs) H' fun σ2 H2 => wipe σ2 vs = wipe σ vs ∧ tYes σ2 H2 fun b H3 =>
        if b = true then te σ2 H3 fun y H4 => ∃ acc, H4 D = some (.lst acc) ∧ acc.length < sizeLine ∧ Nx (upd H4 D (.lst (acc ++ [y]))) else Nx H3) := by
  refine lc_new w nD few Gs (fun _ => true) ob (fun i x H H' Kp Kn hi s e y fin _ => ?_) fun H' ks s e nw => ?_
  · exact hs i x H H' Kp hi s e y fun t H4 s4 nt et => fin t H4 rfl s4 nt et
  · rw [List.filter_eq_self.mpr fun _ _ => rfl] at nw
    exact hd H' ks s e nw
/-- the pair that stands at an address -/
def hv (H : Hp) (k : Addr) : Int × Int := match H k with
  | some (.tup [.int x, .int y]) => (x, y)
  | _ => (0, 0)
theorem hv_of {H : Hp} {k : Addr} {x y : Int} (h : H k = some (.tup [.int x, .int y])) : hv H k = (x, y) := by
  unfold hv
  rw [h]
theorem News.map {H : Hp} {D : Addr} {p : Nat → Int × Int} {L : List Nat} {ks : List Addr} (h : News H D (fun i => .tup [.int (p i).1, .int (p i).2]) L ks) : ks.map (hv H) = L.map p := by
  apply List.ext_getElem?
  intro j
  rw [List.getElem?_map, List.getElem?_map]
  by_cases c : j < ks.length
  · have c2 : j < L.length := by rw [← h.1]; exact c
    have e := (h.2 j L[j] ks[j] (by simp [c2]) (by simp [c])).2
    rw [List.getElem?_eq_getElem c, List.getElem?_eq_getElem c2, Option.map_some, Option.map_some, hv_of e]
  · rw [List.getElem?_eq_none (show ks.length ≤ j by omega), List.getElem?_eq_none (show L.length ≤ j by rw [← h.1]; omega)]
    rfl
theorem News.at_ {H : Hp} {D : Addr} {p : Nat → Int × Int} {L : List Nat} {ks : List Addr} (h : News H D (fun i => .tup [.int (p i).1, .int (p i).2]) L ks) : ∀ k ∈ ks, k ≠ D ∧ H k = some (.tup [.int (hv H k).1, .int (hv H k).2]) ∧ ∃ i ∈ L, hv H k = p i := by
  intro k m
  obtain ⟨j, hj, rfl⟩ := List.getElem_of_mem m
  have c2 : j < L.length := by rw [← h.1]; exact hj
  have e := h.2 j L[j] ks[j] (by simp [c2]) (by simp [hj])
  have v := hv_of e.2
  rw [v]
  exact ⟨e.1, e.2, L[j], List.getElem_mem c2, rfl⟩
end
end Nc

/-! Own rules: min, max of a list of pairs. -/
namespace Nc
open PySem PySem.Spec PyProof.Rows L2
section
theorem tup_more {X : Cx} {s s2 : Shared} {pins : List (Addr × Obj)} {σ : L2.St} {H : Hp} {a b : Addr} {ns ms : List Int} (I : L2.Inv X pins σ H s) (ha : H a = some (.tup (ns.map V.int))) (hb : H b = some (.tup (ms.map V.int))) (hu : X.A.units + 1 < cLine) (kp : KeepH s.heap s2.heap) :
    Ob.RcOp .Gt X.A.in1 s2 (.ref a) (.ref b) (lexP (fun x y => decide (y < x)) (decide (ms.length < ns.length)) ns ms) := by
  obtain ⟨us, r1, ⟨o1, g1, c1, n1, d1⟩, _⟩ := I.tuple (SqT.of ha)
  obtain ⟨vs, r2, ⟨o2, g2, c2, n2, d2⟩, _⟩ := I.tuple (SqT.of hb)
  have i1 : IntsAre us ns := Vals.ints r1
  have i2 : IntsAre vs ms := Vals.ints r2
  have at1 : ∀ j (h1 : j < us.toArray.size), ∃ t, us.toArray[j] = .int (ns.getD j 0) t := fun j h1 => IntsAre.int_at i1 _ _ (by simp at h1; simp [h1])
  have at2 : ∀ j (h1 : j < vs.toArray.size), ∃ t, vs.toArray[j] = .int (ms.getD j 0) t := fun j h1 => IntsAre.int_at i2 _ _ (by simp at h1; simp [h1])
  have R := Ob.RcOp.tuples_gt (A := X.A.in1) (s := s2) (e := fun j => decide (ns.getD j 0 = ms.getD j 0)) (r := fun j => decide (ms.getD j 0 < ns.getD j 0)) ⟨o1, kp _ _ g1, c1, n1, d1⟩ ⟨o2, kp _ _ g2, c2, n2, d2⟩ hu (fun j h1 h2 => by
    obtain ⟨t, et⟩ := at1 j h1
    obtain ⟨u, eu⟩ := at2 j h2
    rw [et, eu, ← Bool.beq_eq_decide_eq]
    exact SeqAt.EqAt.int_int _ _ _ _) (fun j h1 h2 _ => by
    obtain ⟨t, et⟩ := at1 j h1
    obtain ⟨u, eu⟩ := at2 j h2
    rw [et, eu]
    exact Ob.RcOp.gt_int _ _ _ _)
  rw [List.size_toArray, List.size_toArray, i1.length, i2.length] at R
  exact R
def ngP (p : Int × Int) : Int × Int := (-p.1, -p.2)
theorem lexLe_ng (p q : Int × Int) : lexLe (ngP p) (ngP q) ↔ lexLe q p := by
  unfold lexLe ngP
  omega
theorem lexP_pairG (p q : Int × Int) : lexP (fun x y => decide (y < x)) (decide ((2 : Nat) < 2)) [p.1, p.2] [q.1, q.2] = decide (¬ lexLe p q) := by
  show (if decide (p.1 = q.1) = true then (if decide (p.2 = q.2) = true then decide ((2 : Nat) < 2) else decide (q.2 < p.2)) else decide (q.1 < p.1)) = _
  unfold lexLe
  by_cases a : p.1 = q.1
  · rw [if_pos (decide_eq_true a)]
    by_cases b : p.2 = q.2
    · rw [if_pos (decide_eq_true b), decide_eq_false (by omega), decide_eq_false (by omega)]
    · rw [if_neg (by simpa using b)]
      by_cases c : q.2 < p.2
      · rw [decide_eq_true c, decide_eq_true (by omega)]
      · rw [decide_eq_false c, decide_eq_false (by omega)]
  · rw [if_neg (by simpa using a)]
    by_cases c : q.1 < p.1
    · rw [decide_eq_true c, decide_eq_true (by omega)]
    · rw [decide_eq_false c, decide_eq_false (by omega)]
variable {X : Cx}
def rMinS : List V → Hp → VK → Prop := fun vs H Q => ∃ (a : Addr) (ts : List Addr) (f : Addr → Int × Int), vs = [V.ref a] ∧ H a = some (.lst (ts.map V.ref)) ∧ (∀ t ∈ ts, H t = some (.tup [.int (f t).1, .int (f t).2])) ∧ 0 < ts.length ∧ ∀ t ∈ ts, (∀ u ∈ ts, lexLe (f t) (f u)) → Q (.ref t) H
def rMaxS : List V → Hp → VK → Prop := fun vs H Q => ∃ (a : Addr) (ts : List Addr) (f : Addr → Int × Int), vs = [V.ref a] ∧ H a = some (.lst (ts.map V.ref)) ∧ (∀ t ∈ ts, H t = some (.tup [.int (f t).1, .int (f t).2])) ∧ 0 < ts.length ∧ ∀ t ∈ ts, (∀ u ∈ ts, lexLe (f u) (f t)) → Q (.ref t) H
theorem refs_val {xs : List V} {us : List Value} (r : Vals xs us) {ts : List Addr} (e : xs = ts.map V.ref) {i : Nat} {v : Value} (h : us.toArray[i]? = some v) : ∃ t, ts[i]? = some t ∧ v = .ref t := by
  subst e
  have hi : i < us.length := by
    have := (Array.getElem?_eq_some_iff.mp h).1
    simpa using this
  have hl := r.length
  rw [List.length_map] at hl
  have e1 : (ts.map V.ref)[i]? = some (.ref ts[i]) := by simp [show i < ts.length by omega]
  obtain ⟨u, e2, e3⟩ := Vals.get r e1
  refine ⟨ts[i], by simp, ?_⟩
  cases e3
  have : us[i]? = some v := by simpa using h
  rw [this] at e2
  exact Option.some.inj e2
theorem cr_minS (hc : X.calm = true) (hu : X.A.units + 1 < cLine) : CallR X (.builtin "min") rMinS := by
  intro pins s σ H vs us Q I r h
  obtain ⟨a, ts, f, rfl, ha, hs, h0, q⟩ := h
  rw [Vals.ref1 r]
  obtain ⟨its, rv, hl, _⟩ := I.list (SqL.of ha)
  have hn : its.length = ts.length := by rw [← rv.length, List.length_map]
  have val : ∀ (i : Nat) v, its.toArray[i]? = some v → ∃ t, v = .ref t ∧ t ∈ ts ∧ f (ts.getD i a) = f t := fun i v hv => by
    obtain ⟨t, e, rfl⟩ := refs_val rv rfl hv
    refine ⟨t, rfl, List.mem_of_getElem? e, ?_⟩
    rw [List.getD_eq_getElem?_getD, e]
    rfl
  refine call_min_walkH (PySem.W.iter_listW (A := X.A.in1) (I.ok.hd hc) hl.isList fun s₂ e W st hfp hw hk => ?_)
  refine ⟨_, _, _, _, _, _, _, s.heap, fun i j => decide (¬ lexLe (f (ts.getD j a)) (f (ts.getD i a))), rfl, W, st, hfp, by rw [List.size_toArray, hn]; exact h0, hw, hk, fun i j vi vj s' Q' E' hk' hi hj hq => ?_, fun v s' hP m => ?_⟩
  · obtain ⟨t, rfl, mt, e1⟩ := val i vi hi
    obtain ⟨u, rfl, mu, e2⟩ := val j vj hj
    have z := tup_less (s2 := s') (ns := [(f t).1, (f t).2]) (ms := [(f u).1, (f u).2]) I (hs t mt) (hs u mu) hu hk'
    have e3 : lexP (fun x y => decide (x < y)) (decide ([(f t).1, (f t).2].length < [(f u).1, (f u).2].length)) [(f t).1, (f t).2] [(f u).1, (f u).2] = decide (¬ lexLe (f u) (f t)) := lexP_pair _ _
    rw [e3] at z
    have hq : Q' (.bool (decide (¬ lexLe (f (ts.getD j a)) (f (ts.getD i a))))) s' := hq
    rw [e1, e2] at hq
    exact z X.prog X.w _ _ hq
  · obtain ⟨h', tk, rfl, hk'⟩ := PySem.W.moved_old e rfl m
    obtain ⟨t, rfl, mt, e1⟩ := val _ v hP
    obtain ⟨b1, b2⟩ := argBest_le (fun i => f (ts.getD i a)) (its.toArray.size - 1)
    refine ⟨.ref t, H, I.kept (t' := tk) fun c o e => hk' c o e, rfl, q t mt fun u mu => ?_⟩
    obtain ⟨i, hi, e⟩ := List.mem_iff_getElem.mp mu
    have e2 : f (ts.getD i a) = f u := by rw [List.getD_eq_getElem?_getD, List.getElem?_eq_getElem hi, e]; rfl
    rw [← e1, ← e2]
    exact b2 i (by rw [List.size_toArray]; omega)
theorem cr_maxS (hc : X.calm = true) (hu : X.A.units + 1 < cLine) : CallR X (.builtin "max") rMaxS := by
  intro pins s σ H vs us Q I r h
  obtain ⟨a, ts, f, rfl, ha, hs, h0, q⟩ := h
  rw [Vals.ref1 r]
  obtain ⟨its, rv, hl, _⟩ := I.list (SqL.of ha)
  have hn : its.length = ts.length := by rw [← rv.length, List.length_map]
  have val : ∀ (i : Nat) v, its.toArray[i]? = some v → ∃ t, v = .ref t ∧ t ∈ ts ∧ f (ts.getD i a) = f t := fun i v hv => by
    obtain ⟨t, e, rfl⟩ := refs_val rv rfl hv
    refine ⟨t, rfl, List.mem_of_getElem? e, ?_⟩
    rw [List.getD_eq_getElem?_getD, e]
    rfl
  refine call_max_walkH (PySem.W.iter_listW (A := X.A.in1) (I.ok.hd hc) hl.isList fun s₂ e W st hfp hw hk => ?_)
  refine ⟨_, _, _, _, _, _, _, s.heap, fun i j => decide (¬ lexLe (ngP (f (ts.getD j a))) (ngP (f (ts.getD i a)))), rfl, W, st, hfp, by rw [List.size_toArray, hn]; exact h0, hw, hk, fun i j vi vj s' Q' E' hk' hi hj hq => ?_, fun v s' hP m => ?_⟩
  · obtain ⟨t, rfl, mt, e1⟩ := val i vi hi
    obtain ⟨u, rfl, mu, e2⟩ := val j vj hj
    have z := tup_more (s2 := s') (ns := [(f t).1, (f t).2]) (ms := [(f u).1, (f u).2]) I (hs t mt) (hs u mu) hu hk'
    have e3 : lexP (fun x y => decide (y < x)) (decide ([(f u).1, (f u).2].length < [(f t).1, (f t).2].length)) [(f t).1, (f t).2] [(f u).1, (f u).2] = decide (¬ lexLe (ngP (f u)) (ngP (f t))) := (lexP_pairG _ _).trans (by rw [decide_eq_decide, lexLe_ng])
    rw [e3] at z
    have hq : Q' (.bool (decide (¬ lexLe (ngP (f (ts.getD j a))) (ngP (f (ts.getD i a)))))) s' := hq
    rw [e1, e2] at hq
    exact z X.prog X.w _ _ hq
  · obtain ⟨h', tk, rfl, hk'⟩ := PySem.W.moved_old e rfl m
    obtain ⟨t, rfl, mt, e1⟩ := val _ v hP
    obtain ⟨b1, b2⟩ := argBest_le (fun i => ngP (f (ts.getD i a))) (its.toArray.size - 1)
    refine ⟨.ref t, H, I.kept (t' := tk) fun c o e => hk' c o e, rfl, q t mt fun u mu => ?_⟩
    obtain ⟨i, hi, e⟩ := List.mem_iff_getElem.mp mu
    have e2 : f (ts.getD i a) = f u := by rw [List.getD_eq_getElem?_getD, List.getElem?_eq_getElem hi, e]; rfl
    rw [← e1, ← e2]
    exact (lexLe_ng _ _).mp (b2 i (by rw [List.size_toArray]; omega))
end
end Nc

/-! Own rules: sorted of a list of tuples (n, (x, y)). -/
namespace Nc
open PySem PySem.Spec PyProof.Rows L2
/-- the order of (n, pair) -/
def le3 (n : Int) (p : Int × Int) (m : Int) (q : Int × Int) : Prop := n < m ∨ (n = m ∧ lexLe p q)
instance (n : Int) (p : Int × Int) (m : Int) (q : Int × Int) : Decidable (le3 n p m q) := by unfold le3; infer_instance
def dP2 (p : Int × Int) : PyData := .tuple [.int p.1, .int p.2]
def dP3 (n : Int) (p : Int × Int) : PyData := .tuple [.int n, dP2 p]
theorem al_int (x y : Int) : PySem.W.alike (.int x) (.int y) = true := by simp [PySem.W.alike]
theorem al_2 (p q : Int × Int) : PySem.W.alike (dP2 p) (dP2 q) = true := by simp [dP2, PySem.W.alike, PySem.W.alikeAll]
theorem al_3 (n m : Int) (p q : Int × Int) : PySem.W.alike (dP3 n p) (dP3 m q) = true := by simp [dP3, PySem.W.alike, PySem.W.alikeAll, al_2]
theorem eqv_int2 (x y : Int) : PyData.eqv (.int x) (.int y) = decide (x = y) := by simp [PyData.eqv, Bool.beq_eq_decide_eq]
theorem eqv_2 (p q : Int × Int) : PyData.eqv (dP2 p) (dP2 q) = decide (p = q) := by
  simp only [dP2, PyData.eqv, PyData.eqvAll, Bool.and_true]
  rw [Bool.eq_iff_iff]
  simp only [Bool.and_eq_true, beq_iff_eq, decide_eq_true_eq]
  exact ⟨fun h => Prod.ext h.1 h.2, fun h => by rw [h]; exact ⟨rfl, rfl⟩⟩
theorem lt_2 (p q : Int × Int) : PySem.W.dataLt (dP2 p) (dP2 q) = decide (¬ lexLe q p) := by
  unfold dP2
  rw [PySem.W.dataLt_pair (al_int _ _) (al_int _ _), eqv_int2, eqv_int2, PySem.W.dataLt_int, PySem.W.dataLt_int]
  unfold lexLe
  by_cases a : p.1 = q.1
  · rw [if_pos (decide_eq_true a)]
    by_cases b : p.2 = q.2
    · rw [if_pos (decide_eq_true b), eq_comm, decide_eq_false_iff_not]
      omega
    · rw [if_neg (by simpa using b), decide_eq_decide]
      omega
  · rw [if_neg (by simpa using a), decide_eq_decide]
    omega
theorem lt_3 (n m : Int) (p q : Int × Int) : PySem.W.dataLt (dP3 n p) (dP3 m q) = decide (¬ le3 m q n p) := by
  unfold dP3
  rw [PySem.W.dataLt_pair (al_int _ _) (al_2 _ _), eqv_int2, eqv_2, PySem.W.dataLt_int, lt_2]
  unfold le3
  by_cases a : n = m
  · rw [if_pos (decide_eq_true a)]
    by_cases b : p = q
    · rw [if_pos (decide_eq_true b), eq_comm, decide_eq_false_iff_not]
      have := lexLe.refl q
      rw [b]
      simp [a, this]
    · rw [if_neg (by simpa using b), decide_eq_decide]
      simp [a]
  · rw [if_neg (by simpa using a), decide_eq_decide]
    omega
theorem le3.trans {n m k : Int} {p q r : Int × Int} (a : le3 n p m q) (b : le3 m q k r) : le3 n p k r := by
  unfold le3 at *
  rcases a with a | ⟨a, a2⟩ <;> rcases b with b | ⟨b, b2⟩
  · exact .inl (by omega)
  · exact .inl (by omega)
  · exact .inl (by omega)
  · exact .inr ⟨by omega, a2.trans b2⟩
theorem le3.total (n m : Int) (p q : Int × Int) : le3 n p m q ∨ le3 m q n p := by
  unfold le3
  rcases lexLe.total p q with h | h <;> by_cases c : n < m <;> by_cases d : m < n
  all_goals first
    | exact .inl (.inl c)
    | exact .inr (.inl d)
    | exact .inl (.inr ⟨by omega, h⟩)
    | exact .inr (.inr ⟨by omega, h⟩)
section
variable {X : Cx}
def rSort3 : List V → Hp → VK → Prop := fun vs H Q => ∃ (a : Addr) (ts : List Addr) (w : Addr → Int) (p : Addr → Int × Int), vs = [V.ref a] ∧ H a = some (.lst (ts.map V.ref)) ∧ (∀ t ∈ ts, ∃ u, H t = some (.tup [.int (w t), .ref u]) ∧ H u = some (.tup [.int (p t).1, .int (p t).2])) ∧
  ∀ (us : List Addr) (q : Addr) (H2 : Hp), us.Perm ts → us.Pairwise (fun a b => le3 (w a) (p a) (w b) (p b)) → Same H H2 → H q = none → H2 q = some (.lst (us.map V.ref)) → Q (.ref q) H2
theorem dp3_all {K : PySem.W.Frag} {H : Hp} {w : Addr → Int} {p : Addr → Int × Int} : ∀ {ts : List Addr}, (∀ t ∈ ts, ∃ u, H t = some (.tup [.int (w t), .ref u]) ∧ H u = some (.tup [.int (p t).1, .int (p t).2])) → DpAll K H (ts.map V.ref) (ts.map fun t => dP3 (w t) (p t))
  | [], _ => .nil
  | t :: ts, h => by
    obtain ⟨u, e1, e2⟩ := h t List.mem_cons_self
    exact .cons (.tup (SqT.of e1) (.cons (.int _) (.cons (.tup (SqT.of e2) (.cons (.int _) (.cons (.int _) .nil))) .nil))) (dp3_all fun u m => h u (List.mem_cons_of_mem _ m))
theorem each_refs : ∀ {ts : List Addr} {us : List Value}, Vals (ts.map V.ref) us → PySem.W.EachIs (fun (v : Value) (t : Addr) => v = .ref t) us ts
  | [], _, r => by cases r; exact .nil
  | t :: ts, _, r => by
    cases r with
    | cons h1 h2 => exact .cons (by cases h1; rfl) (each_refs h2)
theorem refs_each : ∀ {ts : List Addr} {us : List Value}, PySem.W.EachIs (fun (v : Value) (t : Addr) => v = .ref t) us ts → Vals (ts.map V.ref) us
  | _, _, .nil => .nil
  | _, _, .cons h t => .cons (by rw [h]; rfl) (refs_each t)
theorem cr_sort3 (hu : X.A.units + 64 < cLine) : CallR X (.builtin "sorted") rSort3 := by
  intro pins s σ H vs us Q I r h
  obtain ⟨a, ts, wt, p, rfl, ha, hs, q⟩ := h
  rw [Vals.ref1 r]
  obtain ⟨its, rv, hl, hz⟩ := I.list (SqL.of ha)
  obtain ⟨as, ra⟩ := Dp.readsAll I _ _ _ (dp3_all hs) rv
  have dep : ∀ t, (dP3 (wt t) (p t)).depth ≤ 10 := fun t => by simp [dP3, dP2, PyData.depth, PyData.depthAll]
  refine PySem.W.sorted_data (β := Addr) (bs := ts) (enc := fun t => dP3 (wt t) (p t)) (R := fun v t => v = .ref t) hl.isList (each_refs rv) (PySem.W.readsAll_each _ ra) (PySem.W.AllAlike.of fun t u => al_3 _ _ _ _) (PySem.W.Sortable.tuples fun t => ⟨_, _, rfl⟩) (by rw [List.length_map] at hz; exact hz) (fun t _ => by have := dep t; omega) fun out hlen hout => ?_
  have eL : PySem.W.dataLe false (fun t => dP3 (wt t) (p t)) = fun x y => decide (le3 (wt x) (p x) (wt y) (p y)) := by
    rw [PySem.W.dataLe_eq]
    funext x y
    show (!PySem.W.dataLt _ _) = _
    rw [lt_3]
    simp
  rw [eL] at hout
  have pm := List.mergeSort_perm ts fun x y => decide (le3 (wt x) (p x) (wt y) (p y))
  have so := List.pairwise_mergeSort (le := fun x y => decide (le3 (wt x) (p x) (wt y) (p y))) (fun x y z h1 h2 => by
    rw [decide_eq_true_eq] at *
    exact h1.trans h2) (fun x y => by
    rw [Bool.or_eq_true, decide_eq_true_eq, decide_eq_true_eq]
    exact le3.total _ _ _ _) ts
  obtain ⟨n, hn⟩ := sortedAll_at s.heap its (List.toArray out)
  have vo := refs_each hout
  refine ⟨.ref (s.heap.objs.size + 1), upd H (s.heap.objs.size + 1) (.lst ((ts.mergeSort fun x y => decide (le3 (wt x) (p x) (wt y) (p y))).map V.ref)), I.laid (t' := s.toks) (fun b o e => sortedAll_old e) (Nat.le_succ _) ⟨?_, out, n, vo, hn⟩, rfl, q _ _ _ pm (so.imp fun h => of_decide_eq_true h) (Same.upd (I.hok.fresh (Nat.le_succ _))) (I.hok.fresh (Nat.le_succ _)) upd_same⟩
  rw [List.length_map, pm.length_eq]
  rw [List.length_map] at hz
  exact hz
end
end Nc

/-! Own rules: a def of one parameter, called by its keyword. -/
namespace Nc
open PySem PySem.Spec PyProof.Rows L2
def gRev {α : Type} (us ws : List α) : List α := match us with
  | [] => ws.reverse
  | _ :: _ => []
theorem Vals.rev : ∀ {xs : List V} {us : List Value}, Vals xs us → Vals xs.reverse us.reverse
  | _, _, .nil => .nil
  | _, _, .cons r t => by
    rw [List.reverse_cons, List.reverse_cons]
    exact Vals.append (Vals.rev t) (.cons r .nil)
theorem kb_rev {K : PySem.W.Frag} {x q : Str} {st : Stmt} {f : Addr} {fd : FuncData} {ps ks : List Str} (F : Fun K x q st f fd) (h0 : 0 < ps.length)
    (h : ∀ (kV doc pm : Value) (an : Option Addr) (cdv ct : Value) (ws : List Value), ws.length = ps.length → bindArgs (PySem.W.fnOf x q (defArgs st) (defBody st) (defScope st) .none kV doc pm an cdv ct) ⟨[], ks.zip ws⟩ = (pure (ps.zip ws.reverse) : Sem (List (Str × Value)))) :
    KBinds K fd ps ks gRev gRev := by
  obtain ⟨oc, od, kV, doc, pm, an, cdv, ct, osl, rfl, lk, hcd⟩ := F.ex
  refine ⟨fun s us ws _ hl => ?_, fun {vs us zs ws} r rz => ?_⟩
  · cases us with
    | nil =>
      have hl : ws.reverse.length = ps.length := hl
      rw [List.length_reverse] at hl
      exact .of_eq (h kV doc pm an cdv ct ws hl)
    | cons a r =>
      have hl : 0 = ps.length := hl
      omega
  · cases r with
    | nil => exact Vals.rev rz
    | cons _ _ => exact .nil
/-- the def x of one parameter keeps its promise when it is called by keyword -/
structure Ck (P : Program) (w : World) (K : PySem.W.Frag) (mg : Str → Option Value) (base : Heap) (CX : CXT) (x : Str) (k : Nat) (y : Str) (sp : Sp) : Prop where
  ex : ∃ (f : Addr) (fd : FuncData), FnOk P w K mg base CX k f fd [y] sp ∧ mg x = some (.ref f) ∧ PySem.W.keepIn K (.ref f) = true ∧ KBinds K fd [y] [y] gRev gRev
theorem Df.ck {P : Program} {w : World} {K : PySem.W.Frag} {mg : Str → Option Value} {base : Heap} {CX : CXT} {x y : Str} {k : Nat} {sp : Sp} {st : Stmt} (D : Df K mg x st [y]) (h : ∀ f fd, Fun K x x st f fd → FnOk P w K mg base CX k f fd [y] sp)
    (b : ∀ (kV doc pm : Value) (an : Option Addr) (cdv ct : Value) (ws : List Value), ws.length = 1 → bindArgs (PySem.W.fnOf x x (defArgs st) (defBody st) (defScope st) .none kV doc pm an cdv ct) ⟨[], [y].zip ws⟩ = (pure ([y].zip ws.reverse) : Sem (List (Str × Value)))) : Ck P w K mg base CX x k y sp := by
  obtain ⟨f, fd, F, g, kk, _⟩ := D.ex
  exact ⟨f, fd, h f fd F, g, kk, kb_rev (ps := [y]) (ks := [y]) F Nat.one_pos b⟩
section
variable {X : Cx} {CX : CXT} {k : Nat} {y : Str} {sp : Sp} {E : XK} {x : Str} {p pos kpos : Pos} {e : Expr} {te : TE}
theorem pe_ck (C : Ck X.prog X.w X.K X.mg X.base CX x k y sp) (hr : Room k X.A) (hg : Gl X x) (hx : Passes CX X E) (he : PE X e te) (hall : (backToKw pos (keywordEach [⟨some y, e, kpos⟩] X.env)).all (·.1.isSome) = true := by rfl) (hks : (backToKw pos (keywordEach [⟨some y, e, kpos⟩] X.env)).filterMap (·.1) = [y] := by rfl)
    (hdb : (x == ("__debug__" : Str)) = false := by decide) (hpl : ((backTo pos (starEach [] X.env)).any (·.1) || (backToKw pos (keywordEach [⟨some y, e, kpos⟩] X.env)).any (·.1.isNone)) = false := by rfl) :
    PE X (.Call (.Name x p) [] [⟨some y, e, kpos⟩] pos) (fun σ H Q => te σ H fun v H2 => sp [v] H2 Q E) := by
  obtain ⟨f, fd, F, g, kk, b⟩ := C.ex
  exact peOf (pe_callKw F hr hg g kk b hx (pk_cons he pk_nil) hall hks hdb hpl) fun σ H Q h => h
end
end Nc

/-! Own rules: sorted of a list of tuples (n, m, (x, y)); the truth of a dict with tuples as keys. -/
namespace Nc
open PySem PySem.Spec PyProof.Rows L2
/-- the order of (n, m, pair) -/
def le4 (a : Int × Int) (p : Int × Int) (b : Int × Int) (q : Int × Int) : Prop := a.1 < b.1 ∨ (a.1 = b.1 ∧ le3 a.2 p b.2 q)
instance (a p b q : Int × Int) : Decidable (le4 a p b q) := by unfold le4; infer_instance
def dP4 (a : Int × Int) (p : Int × Int) : PyData := .tuple [.int a.1, .int a.2, dP2 p]
theorem al_4 (a b p q : Int × Int) : PySem.W.alike (dP4 a p) (dP4 b q) = true := by simp [dP4, PySem.W.alike, PySem.W.alikeAll, al_2]
theorem lt_4 (a b p q : Int × Int) : PySem.W.dataLt (dP4 a p) (dP4 b q) = decide (¬ le4 b q a p) := by
  have l3 := lt_3 a.2 b.2 p q
  unfold dP3 at l3
  rw [PySem.W.dataLt_tuple] at l3
  unfold dP4
  rw [PySem.W.dataLt_tuple, PySem.W.dataLt_cons (al_int _ _), l3, eqv_int2, PySem.W.dataLt_int]
  unfold le4
  by_cases c : a.1 = b.1
  · rw [if_pos (decide_eq_true c), decide_eq_decide]
    constructor
    · intro h z
      rcases z with z | ⟨_, z⟩
      · omega
      · exact h z
    · exact fun h z => h (.inr ⟨c.symm, z⟩)
  · rw [if_neg (by simpa using c), decide_eq_decide]
    constructor
    · intro h z
      rcases z with z | ⟨z, _⟩ <;> omega
    · intro h
      refine Classical.byContradiction fun y => h (.inl (by omega))
theorem le4.trans {a b c p q r : Int × Int} (h : le4 a p b q) (k : le4 b q c r) : le4 a p c r := by
  unfold le4 at *
  rcases h with h | ⟨h, h2⟩ <;> rcases k with k | ⟨k, k2⟩
  · exact .inl (by omega)
  · exact .inl (by omega)
  · exact .inl (by omega)
  · exact .inr ⟨by omega, h2.trans k2⟩
theorem le4.total (a b p q : Int × Int) : le4 a p b q ∨ le4 b q a p := by
  unfold le4
  rcases le3.total a.2 b.2 p q with h | h <;> by_cases c : a.1 < b.1 <;> by_cases d : b.1 < a.1
  all_goals first
    | exact .inl (.inl c)
    | exact .inr (.inl d)
    | exact .inl (.inr ⟨by omega, h⟩)
    | exact .inr (.inr ⟨by omega, h⟩)
/-- at t: two numbers and a site -/
def Tri (H : Hp) (t : Addr) (a : Int × Int) (u : Addr) (p : Int × Int) : Prop := H t = some (.tup [.int a.1, .int a.2, .ref u]) ∧ H u = some (.tup [.int p.1, .int p.2])
section
variable {X : Cx}
def rSort4 : List V → Hp → VK → Prop := fun vs H Q => ∃ (a : Addr) (ts : List Addr) (w : Addr → Int × Int) (s : Addr → Addr) (p : Addr → Int × Int), vs = [V.ref a] ∧ H a = some (.lst (ts.map V.ref)) ∧ (∀ t ∈ ts, Tri H t (w t) (s t) (p (s t))) ∧
  ∀ (us : List Addr) (q : Addr) (H2 : Hp), us.Perm ts → us.Pairwise (fun a b => le4 (w a) (p (s a)) (w b) (p (s b))) → Same H H2 → H q = none → H2 q = some (.lst (us.map V.ref)) → Q (.ref q) H2
theorem dp4_all {K : PySem.W.Frag} {H : Hp} {w : Addr → Int × Int} {s : Addr → Addr} {p : Addr → Int × Int} : ∀ {ts : List Addr}, (∀ t ∈ ts, Tri H t (w t) (s t) (p (s t))) → DpAll K H (ts.map V.ref) (ts.map fun t => dP4 (w t) (p (s t)))
  | [], _ => .nil
  | t :: ts, h => by
    obtain ⟨e1, e2⟩ := h t List.mem_cons_self
    exact .cons (.tup (SqT.of e1) (.cons (.int _) (.cons (.int _) (.cons (.tup (SqT.of e2) (.cons (.int _) (.cons (.int _) .nil))) .nil)))) (dp4_all fun u m => h u (List.mem_cons_of_mem _ m))
theorem cr_sort4 (hu : X.A.units + 64 < cLine) : CallR X (.builtin "sorted") rSort4 := by
  intro pins s σ H vs us Q I r h
  obtain ⟨a, ts, wt, st, p, rfl, ha, hs, q⟩ := h
  rw [Vals.ref1 r]
  obtain ⟨its, rv, hl, hz⟩ := I.list (SqL.of ha)
  obtain ⟨as, ra⟩ := Dp.readsAll I _ _ _ (dp4_all hs) rv
  have dep : ∀ t, (dP4 (wt t) (p (st t))).depth ≤ 10 := fun t => by simp [dP4, dP2, PyData.depth, PyData.depthAll]
  refine PySem.W.sorted_data (β := Addr) (bs := ts) (enc := fun t => dP4 (wt t) (p (st t))) (R := fun v t => v = .ref t) hl.isList (each_refs rv) (PySem.W.readsAll_each _ ra) (PySem.W.AllAlike.of fun t u => al_4 _ _ _ _) (PySem.W.Sortable.tuples fun t => ⟨_, _, rfl⟩) (by rw [List.length_map] at hz; exact hz) (fun t _ => by have := dep t; omega) fun out hlen hout => ?_
  have eL : PySem.W.dataLe false (fun t => dP4 (wt t) (p (st t))) = fun x y => decide (le4 (wt x) (p (st x)) (wt y) (p (st y))) := by
    rw [PySem.W.dataLe_eq]
    funext x y
    show (!PySem.W.dataLt _ _) = _
    rw [lt_4]
    simp
  rw [eL] at hout
  have pm := List.mergeSort_perm ts fun x y => decide (le4 (wt x) (p (st x)) (wt y) (p (st y)))
  have so := List.pairwise_mergeSort (le := fun x y => decide (le4 (wt x) (p (st x)) (wt y) (p (st y)))) (fun x y z h1 h2 => by
    rw [decide_eq_true_eq] at *
    exact h1.trans h2) (fun x y => by
    rw [Bool.or_eq_true, decide_eq_true_eq, decide_eq_true_eq]
    exact le4.total _ _ _ _) ts
  obtain ⟨n, hn⟩ := sortedAll_at s.heap its (List.toArray out)
  have vo := refs_each hout
  refine ⟨.ref (s.heap.objs.size + 1), upd H (s.heap.objs.size + 1) (.lst ((ts.mergeSort fun x y => decide (le4 (wt x) (p (st x)) (wt y) (p (st y)))).map V.ref)), I.laid (t' := s.toks) (fun b o e => sortedAll_old e) (Nat.le_succ _) ⟨?_, out, n, vo, hn⟩, rfl, q _ _ _ pm (so.imp fun h => of_decide_eq_true h) (Same.upd (I.hok.fresh (Nat.le_succ _))) (I.hok.fresh (Nat.le_succ _)) upd_same⟩
  rw [List.length_map, pm.length_eq]
  rw [List.length_map] at hz
  exact hz
end
/-! the truth of a dict -/
section
variable {prog : Program} {w : World} {KK : Type} [DecidableEq KK] {kd : HeapKind prog w KK} {A : Around} {E : Value → Shared → Prop} {s : Shared}
theorem tru_kept {d : Addr} {xs : List (KK × Addr × Value)} {Q : Bool → Shared → Prop} (no : (d == sysModules) = false) (dd : s.heap.DictOfH kd d xs) (fit : (xs.length : Int) < 2 ^ 63) (h : Q (!xs.isEmpty) { s with toks := s.toks + 1 + 1 }) :
    wpAny (model prog w) A (truthy (.ref d)) Q E s := by
  have ne : ((xs.length : Int) != 0) = !xs.isEmpty := by
    cases xs with
    | nil => rfl
    | cons a l => simp; omega
  have len : wpAny (model prog w) A (runValue (.builtin "len" ⟨[.ref d], []⟩)) (fun r s' => r = .int xs.length (s.toks + 1) ∧ Q (!xs.isEmpty) s') E s :=
    wpAny_runValue (codeAny_builtin entry_len (by rw [Around.under_plainId plain_len _]; exact wpAny_mono (wpAny_len_body_dictH (Q := fun r s' => r = .int xs.length (s.toks + 1) ∧ Q (!xs.isEmpty) s') no dd fit ⟨rfl, h⟩) (fun fin s' ⟨r, e, q⟩ => by subst e; exact q) fun _ _ e => e))
  unfold truthy
  first
    | exact wpAny_bind (wpAny_callSpecial?_none (name := Str.ofString "__bool__") dd.typeIs noBool_dict (wpAny_bind (wpAny_specialOf (name := Str.ofString "__len__") dd.typeIs F.slot_dict_len.lookup (wpAny_bind (wpAny_mono len (fun r s' ⟨e, q⟩ => by subst e; exact wpAny_pure (ne ▸ q)) fun _ _ e => e)))))
    | exact wpAny_bind (wpAny_callSpecial?_none (name := Str.ofString "__bool__") dd.typeIs noBool_dict (wpAny_bind (wpAny_pure (wpAny_bind (wpAny_specialOf (name := Str.ofString "__len__") dd.typeIs F.slot_dict_len.lookup (wpAny_bind (wpAny_mono len (fun r s' ⟨e, q⟩ => by subst e; exact wpAny_pure (ne ▸ q)) fun _ _ e => e)))))))
    | exact wpAny_bind (wpAny_pure (wpAny_bind (wpAny_callSpecial?_none (name := Str.ofString "__bool__") dd.typeIs noBool_dict (wpAny_bind (wpAny_pure (wpAny_bind (wpAny_specialOf (name := Str.ofString "__len__") dd.typeIs F.slot_dict_len.lookup (wpAny_bind (wpAny_pure (wpAny_bind (wpAny_mono len (fun r s' ⟨e, q⟩ => by subst e; exact wpAny_pure (ne ▸ q)) fun _ _ e => e)))))))))))
end
/-- if d, d a dict with tuples as keys -/
theorem pt_truT {X : Cx} {a : Expr} {ta : TE} (ha : PE X a ta) (he : ∀ whole, isTrue a X.env whole = (do let v ← whole; standAt a.pos; holding [v] (truthy v)) := by exact fun _ => rfl) :
    PT X a (fun σ H Q => ta σ H fun x H' => ∃ (p : Addr) (kvs : List (List L2.Key × V)), x = V.ref p ∧ H' p = some (.dT kvs) ∧ Q (!kvs.isEmpty) H') := by
  constructor
  intro pins s σ H Q I h
  refine isTrue_plain (thn (ha.run pins s σ H _ I h) ?_) (he _)
  rintro v s1 ⟨x, H1, I1, r1, p, kvs, rfl, hp, q⟩
  cases r1
  obtain ⟨z, sys, xs, rel, dd⟩ := dt_of I1.hok hp
  have le : kvs.length = xs.length := Paired.length rel
  refine tru_kept sys dd (by rw [← le]; rw [sizeLine_eq] at z; omega) ⟨H1, I1.tok _, ?_⟩
  have e : xs.isEmpty = kvs.isEmpty := by
    cases xs <;> cases kvs <;> first | rfl | simp at le
  rw [e]
  exact q
end Nc
namespace NcK
open PySem PySem.Spec PyProof.Rows L2 Nc
def topS (i : Nat) : Stmt := PySem.Challenge.pw_nearcells_k26_cells_along_a_way.main.body.getD i (.Pass ⟨0, 0, 0, 0⟩)
/-! words of this text: bits, what stands in the heap, one step of a reading -/
local macro_rules | `(tactic| array_mem_dec) => `(tactic| first
  | (refine nbu (by assumption) (by decide); done)
  | (refine nbu (j := 21) (by omega) (by decide); done)
  | (refine nbm ?_ ?_ <;> array_mem_dec)
  | (refine nba (by decide) ?_ ?_ <;> array_mem_dec)
  | (refine nbs (by decide) ?_ ?_ <;> array_mem_dec)
  | (refine nbn ?_; array_mem_dec)
  | (refine nbu (j := 64) (by decide) (by decide); done))
local macro_rules | `(tactic| sizeOf_list_dec) => `(tactic| first
  | assumption
  | exact upd_same
  | (refine (by assumption : Same _ _) _ _ ?_; sizeOf_list_dec))
local macro_rules | `(tactic| array_get_dec) => `(tactic| first
  | refine ⟨_, rfl, ?_⟩
  | refine ⟨_, _, rfl, rfl, ?_⟩
  | refine ⟨_, _, _, _, rfl, rfl, SqT.of (by sizeOf_list_dec), by rfl, ?_⟩
  | refine ⟨_, _, _, _, rfl, rfl, SqL.of (by sizeOf_list_dec), by rfl, ?_⟩
  | refine ⟨_, _, rfl, SqT.of (by sizeOf_list_dec), by rfl, ?_⟩
  | refine ⟨_, _, _, _, _, rfl, .ty _, .base (.int _), kit_ty (r := true) (by decide +kernel), ?_⟩
  | refine ⟨_, _, _, _, _, rfl, .ty _, .base (.tup (by sizeOf_list_dec)), kit_ty (r := true) (by decide +kernel), ?_⟩
  | refine ⟨_, _, _, _, _, rfl, .ty _, .base (.lst (by sizeOf_list_dec)), kit_ty (r := true) (by decide +kernel), ?_⟩
  | refine ⟨_, _, _, _, _, rfl, .ty _, .base (.int _), kit_ty (r := false) (by decide +kernel), ?_⟩
  | refine ⟨_, _, rfl, .inr (SqT.of (by sizeOf_list_dec)), ?_⟩
  | refine ⟨_, _, rfl, .inl (SqL.of (by sizeOf_list_dec)), ?_⟩
  | refine w_itf (by omega) ?_
  | refine w_itt (by omega) ?_
  | refine w_ntt (by omega) ?_
  | refine w_ntf (by omega) ?_
  | refine w_itt (congrArg V.int (by omega)) ?_
  | refine w_itf (fun e => absurd (V.int.inj e) (by omega)) ?_
  | refine w_ntt (congrArg V.int (by omega)) ?_
  | refine w_ntf (fun e => absurd (V.int.inj e) (by omega)) ?_
  | refine ⟨_, _, rfl, ?_⟩
  | refine ⟨(by refine cmw ?_ ?_ <;> array_mem_dec : CMulW _ _), ?_⟩
  | refine ⟨⟨by decide, by decide, by decide⟩, ?_⟩
  | refine ⟨Nat.le_trans (m := 64) (by simp) (by decide), ?_⟩
  | refine ⟨rfl, ?_⟩
  | refine ⟨_, _, _, rfl, ?_⟩
  | refine Or.inl ⟨_, rfl, ?_⟩
  | refine Or.inr ⟨_, rfl, ?_⟩)
abbrev sSrc : Stmt := topS 19
abbrev sNext : Stmt := topS 20
abbrev sOne : Stmt := topS 21
abbrev sCell : Stmt := topS 22
abbrev sSites : Stmt := topS 23
theorem scSrc : FnScope ["_law_number_here"] ["_law_number_here"] (defScope sSrc) := ⟨rfl, rfl, rfl, by decide +kernel, rfl, by decide +kernel, by decide +kernel⟩
theorem scNext : FnScope ["_law_source", "_law_many", "_law_found", "_law_prime", "_law_number"] ["_law_source", "_law_many"] (defScope sNext) := ⟨rfl, rfl, rfl, by decide +kernel, rfl, by decide +kernel, by decide +kernel⟩
theorem scOne : FnScope ["_law_source", "_law_some"] ["_law_source", "_law_some"] (defScope sOne) := ⟨rfl, rfl, rfl, by decide +kernel, rfl, by decide +kernel, by decide +kernel⟩
theorem scCell : FnScope ["_law_script", "_law_index"] ["_law_script", "_law_index"] (defScope sCell) := ⟨rfl, rfl, rfl, by decide +kernel, rfl, by decide +kernel, by decide +kernel⟩
section
variable {P : Program} {w : World} {K : PySem.W.Frag} {mg : Str → Option Value} {base : Heap}
/-! ### a source of a number -/
def spSrc : Sp := fun vs H Q _ => ∃ n : Int, vs = [.int n] ∧ ∀ p (a b c : Int), H p = none → Q (.ref p) (upd H p (.lst [.int a, .int b, .int c]))
theorem ok_src {f : Addr} {fd : FuncData} {k : Nat} (F : Fun K "_law_source_of" "_law_source_of" sSrc f fd) (mi : mg "int" = none) : FnOk P w K mg base CX0 (k + 1) f fd ["_law_number_here"] spSrc := by
  refine F.ok scSrc (fun vs H Q E h => ?_) (fun cdv A outer s H vs Q E hr h => ?_)
  · obtain ⟨n, rfl, _⟩ := h
    rfl
  · obtain ⟨n, rfl, q⟩ := h
    refine ⟨_, pss_cons (ps_set (i := 0) scSrc.nd rfl (.inl rfl) (pe_ifExp (pt_cmpR op_ge (pv 0) pe_int (nomark _)) (pv 0) (pe_op op_sub (pe_op op_sub pe_int (pe_op op_mul pe_int (pv 0))) pe_int)))
      (pss_one (ps_ret (pe_lst (pa_cons (pe_op op_mul (pv 0) (pe_callTy call_int1 (by rfl) mi (by decide +kernel) (pa_cons (pe_cmpR op_ge (pv 0) (pe_op op_pow pe_int pe_int) (nomark _)) pa_nil)))
        (pa_cons (pe_op op_mod (pe_callTy call_int1 (by rfl) mi (by decide +kernel) (pa_cons (pv 0) pa_nil)) pe_int) (pa_cons pe_int pa_nil)))))), ?_⟩
    refine ⟨_, rfl, _, _, rfl, rfl, _, rfl, ite2 (fun c => ?_) fun c => ?_⟩
    · refine ⟨_, rfl, _, rfl, _, rfl, _, _, rfl, rfl, ⟨by decide, by decide, by decide⟩, _, _, rfl, rfl, .inr ⟨_, rfl, _, _, rfl, rfl, .inr (b2i_small _), ?_⟩⟩
      exact ⟨_, rfl, .inl ⟨_, rfl, _, _, rfl, rfl, (by decide : (0 : Int) < 2147483647), by show 3 ≤ sizeLine; decide, fun p hp => q p _ _ _ hp⟩⟩
    · refine ⟨_, rfl, _, _, rfl, rfl, .inl ⟨by decide, by decide⟩, _, _, rfl, rfl, _, _, rfl, rfl, _, rfl, _, rfl, _, _, rfl, rfl, ⟨by decide, by decide, by decide⟩, _, _, rfl, rfl, .inr ⟨_, rfl, _, _, rfl, rfl, .inr (b2i_small _), ?_⟩⟩
      exact ⟨_, rfl, .inl ⟨_, rfl, _, _, rfl, rfl, (by decide : (0 : Int) < 2147483647), by show 3 ≤ sizeLine; decide, fun p hp => q p _ _ _ hp⟩⟩
end
section
variable {P : Program} {w : World} {K : PySem.W.Frag} {mg : Str → Option Value} {base : Heap}
/-! ### the next draw below many -/
def spNext : Sp := fun vs H Q _ => ∃ (s : Addr) (m : Int), vs = [.ref s, .int m] ∧ Src H s ∧ 0 < m ∧ m.natAbs < 2 ^ 8000 ∧ ∀ (r : Int) H', 0 ≤ r → r < m → Stp s H H' → Q (.int r) H'
theorem ok_next {f : Addr} {fd : FuncData} {k : Nat} (F : Fun K "_law_next" "_law_next" sNext f fd) (mi : mg "int" = none) : FnOk P w K mg base CX0 (k + 1) f fd ["_law_source", "_law_many"] spNext := by
  refine F.ok scNext (fun vs H Q E h => ?_) (fun cdv A outer s H vs Q E hr h => ?_)
  · obtain ⟨s, m, rfl, _⟩ := h
    rfl
  · obtain ⟨s, m, rfl, ⟨a, b, c, hs⟩, hm, hw, q⟩ := h
    have bi : bootBuiltins "int" = some (.type "int") := by decide +kernel
    refine ⟨_, pss_cons (ps_if (pt_cmpR op_gt (pe_ix ix_list (pv 0) pe_int (fun _ _ => rfl)) pe_int (nomark _))
        (pss_cons (ps_set (i := 2) scNext.nd rfl (.inl rfl) (pe_op op_mod (pe_callTy call_int1 (by rfl) mi bi (pa_cons (pe_ix ix_list (pv 0) pe_int (fun _ _ => rfl)) pa_nil)) (pv 1)))
          (pss_cons (ps_asg (pe_op op_fdivW (pe_ix ix_list (pv 0) pe_int (fun _ _ => rfl)) (pv 1)) (pg_sub (pv 0) pe_int set_list)) (pss_one (ps_ret (pv 2))))) pss_nil)
      (pss_cons (ps_asg (pe_op op_add (pe_ix ix_list (pv 0) pe_int (fun _ _ => rfl)) pe_int) (pg_sub (pv 0) pe_int set_list))
      (pss_cons (ps_set (i := 3) scNext.nd rfl (.inl rfl) pe_int)
      (pss_cons (ps_set (i := 4) scNext.nd rfl (.inl rfl) (pe_op op_mod (pe_callTy call_int1 (by rfl) mi bi (pa_cons (pe_op op_add (pe_op op_add (pe_ix ix_list (pv 0) pe_int (fun _ _ => rfl)) (pe_op op_mul pe_int (pe_ix ix_list (pv 0) pe_int (fun _ _ => rfl)))) pe_int) pa_nil)) (pv 3)))
      (pss_cons (ps_set (i := 4) scNext.nd rfl (.inl rfl) (pe_op op_mod (pe_callTy call_int1 (by rfl) mi bi (pa_cons (pe_op op_mul (pv 4) pe_int) pa_nil)) (pv 3)))
      (pss_cons (ps_set (i := 4) scNext.nd rfl (.inl rfl) (pe_op op_mod (pe_callTy call_int1 (by rfl) mi bi (pa_cons (pe_op op_mul (pv 4) (pe_op op_add (pe_op op_fdiv (pv 4) pe_int) pe_int)) pa_nil)) (pv 3)))
      (pss_cons (ps_set (i := 4) scNext.nd rfl (.inl rfl) (pe_op op_mod (pe_callTy call_int1 (by rfl) mi bi (pa_cons (pe_op op_mul (pv 4) (pe_op op_add (pe_op op_fdiv (pv 4) pe_int) pe_int)) pa_nil)) pe_int))
      (pss_one (ps_ret (pe_op op_mod (pe_callTy call_int1 (by rfl) mi bi (pa_cons (pe_op op_fdiv (pv 4) pe_int) pa_nil)) (pv 1)))))))))), ?_⟩
    have at0 : ∀ x y z : V, atI [x, y, z] 0 = some x := fun _ _ _ => rfl
    refine ⟨_, rfl, s, _, _, _, rfl, rfl, SqL.of hs, at0 _ _ _, _, _, rfl, rfl, _, rfl, ite2 (fun g => ?_) fun g => ?_⟩
    · refine ⟨_, rfl, s, _, _, _, rfl, rfl, SqL.of hs, at0 _ _ _, .inl ⟨_, rfl, _, rfl, _, _, rfl, rfl, hm, ?_⟩⟩
      refine ⟨_, rfl, s, _, _, _, rfl, rfl, SqL.of hs, at0 _ _ _, _, rfl, _, _, rfl, rfl, wide_div hm hw (by decide) (by decide), ?_⟩
      refine ⟨_, rfl, s, _, 0, 0, rfl, rfl, hs, rfl, ?_⟩
      exact ⟨_, rfl, q _ _ (Int.emod_nonneg _ (Int.ne_of_gt hm)) (Int.emod_lt_of_pos _ hm) ((Stp.refl ⟨a, b, c, hs⟩).turn _ _ _)⟩
    · refine ⟨_, rfl, s, _, _, _, rfl, rfl, SqL.of hs, rfl, _, _, rfl, rfl, ?_⟩
      refine ⟨_, rfl, s, _, 2, 2, rfl, rfl, hs, rfl, ?_⟩
      have h2 : (upd H s (.lst [.int a, .int b, .int (c + 1)])) s = some (.lst [.int a, .int b, .int (c + 1)]) := upd_same
      refine ⟨_, rfl, s, _, _, _, rfl, rfl, SqL.of h2, rfl, _, rfl, s, _, _, _, rfl, rfl, SqL.of h2, rfl, _, _, rfl, rfl, .inl ⟨by decide, by decide⟩, _, _, rfl, rfl, _, _, rfl, rfl, .inl ⟨_, rfl, ?_⟩⟩
      have hp : (0 : Int) < 2147483647 := by decide
      refine ⟨_, rfl, _, _, rfl, rfl, hp, ?_⟩
      refine ⟨_, rfl, _, _, rfl, rfl, .inr ⟨by decide, by decide⟩, .inl ⟨_, rfl, _, rfl, _, _, rfl, rfl, hp, ?_⟩⟩
      have b1 : 0 ≤ (b + 104729 * (c + 1) + 7919) % 2147483647 * 48271 % 2147483647 := Int.emod_nonneg _ (Int.ne_of_gt hp)
      have b2 : (b + 104729 * (c + 1) + 7919) % 2147483647 * 48271 % 2147483647 < 2147483647 := Int.emod_lt_of_pos _ hp
      generalize (b + 104729 * (c + 1) + 7919) % 2147483647 * 48271 % 2147483647 = n1 at b1 b2
      refine ⟨_, rfl, _, rfl, _, _, rfl, rfl, ⟨by decide, by decide⟩, _, _, rfl, rfl, _, _, rfl, rfl, .inl ⟨by omega, by omega⟩, .inl ⟨_, rfl, _, rfl, _, _, rfl, rfl, hp, ?_⟩⟩
      have c1 : 0 ≤ n1 * (n1 / 1009 + 69621) % 2147483647 := Int.emod_nonneg _ (Int.ne_of_gt hp)
      have c2 : n1 * (n1 / 1009 + 69621) % 2147483647 < 2147483647 := Int.emod_lt_of_pos _ hp
      generalize n1 * (n1 / 1009 + 69621) % 2147483647 = n2 at c1 c2
      refine ⟨_, rfl, _, rfl, _, _, rfl, rfl, ⟨by decide, by decide⟩, _, _, rfl, rfl, _, _, rfl, rfl, .inl ⟨by omega, by omega⟩, .inl ⟨_, rfl, _, _, rfl, rfl, (by decide : (0 : Int) < 2147483399), ?_⟩⟩
      refine ⟨_, rfl, _, _, rfl, rfl, ⟨by decide, by decide⟩, .inl ⟨_, rfl, _, rfl, _, _, rfl, rfl, hm, ?_⟩⟩
      exact q _ _ (Int.emod_nonneg _ (Int.ne_of_gt hm)) (Int.emod_lt_of_pos _ hm) ((Stp.refl ⟨a, b, c, hs⟩).turn _ _ _)
/-! ### one of some -/
/-- the source at s, some: a list of xs (another object than the source): one of xs -/
def spOne (K : PySem.W.Frag) : Sp := fun vs H Q _ => ∃ (s l : Addr) (xs : List V), vs = [.ref s, .ref l] ∧ Src H s ∧ H l = some (.lst xs) ∧ l ≠ s ∧ 0 < xs.length ∧ xs.length ≤ 1000 ∧ ∀ x H', x ∈ xs → Stp s H H' → Q x H'
theorem ok_one {f fN : Addr} {fd fdN : FuncData} {k : Nat} (F : Fun K "_law_one" "_law_one" sOne f fd) (GN : FnOk P w K mg base CX0 (k + 1) fN fdN ["_law_source", "_law_many"] spNext) (gN : mg "_law_next" = some (.ref fN)) (kN : PySem.W.keepIn K (.ref fN) = true) (bN : Binds K fdN ["_law_source", "_law_many"] [])
    (ml : mg "len" = none) : FnOk P w K mg base CX0 (k + 2) f fd ["_law_source", "_law_some"] (spOne K) := by
  refine F.ok scOne (fun vs H Q E h => ?_) (fun cdv A outer s H vs Q E hr h => ?_)
  · obtain ⟨s, l, xs, rfl, _⟩ := h
    rfl
  · obtain ⟨s, l, xs, rfl, hs, hl, hne, h0, h1, q⟩ := h
    refine ⟨_, pss_one (ps_ret (pe_ix ix_list (pv 1) (pe_call GN hr (by rfl) gN kN bN .nil pass0 (pa_cons (pv 0) (pa_cons (pe_callB call_len_seq (by rfl) ml (by decide +kernel) (pa_cons (pv 1) pa_nil)) pa_nil))) (fun _ _ => rfl))), ?_⟩
    refine ⟨_, rfl, _, rfl, _, rfl, l, xs, rfl, .inl (SqL.of hl), ?_⟩
    have small : ((xs.length : Nat) : Int).natAbs < 2 ^ 8000 := by
      rw [Int.natAbs_natCast]
      exact Nat.lt_of_le_of_lt h1 (Nat.lt_of_lt_of_le (by decide : 1000 < 2 ^ 10) (Nat.pow_le_pow_right (by decide) (by decide)))
    refine ⟨s, xs.length, rfl, hs, by omega, small, fun r H' r0 r1 st => ?_⟩
    have hl' := st.keep l _ hne hl
    have hr : r.toNat < xs.length := by omega
    have at1 : atI xs r = some xs[r.toNat] := by
      have z := atI_nat (List.getElem?_eq_getElem hr)
      rwa [Int.toNat_of_nonneg r0] at z
    exact ⟨l, xs, r, _, rfl, rfl, SqL.of hl', at1, q _ _ (List.getElem_mem hr) st⟩
/-! ### a cell of the script, 0 beyond its end -/
def spCell (K : PySem.W.Frag) : Sp := fun vs H Q _ => ∃ (a : Addr) (ns : List Int), vs = [.ref a, .int 0] ∧ SqL K H a (ns.map V.int) ∧ ns.length ≤ 1000 ∧ ∀ (n : Int) H', Same H H' → Q (.int n) H'
theorem ok_cell {f : Addr} {fd : FuncData} {k : Nat} (F : Fun K "_law_cell_at" "_law_cell_at" sCell f fd) : FnOk P w K mg base CX0 (k + 1) f fd ["_law_script", "_law_index"] (spCell K) := by
  refine F.ok scCell (fun vs H Q E h => ?_) (fun cdv A outer s H vs Q E hr h => ?_)
  · obtain ⟨a, ns, rfl, _⟩ := h
    rfl
  · obtain ⟨a, ns, rfl, hS, hlen, q⟩ := h
    refine ⟨_, pss_one (ps_ret (pe_ix ix_list (pe_op op_cat (pe_slice sl_list (pv 0) (po_some (pv 1)) (po_some (pe_op op_add (pv 1) pe_int))) (pe_lst (pa_cons pe_int pa_nil))) pe_int (fun _ _ => rfl))), ?_⟩
    refine ⟨_, rfl, _, rfl, _, rfl, _, rfl, _, _, rfl, rfl, _, rfl, a, ns.map V.int, rfl, hS, fun p np => ?_⟩
    refine ⟨by show 1 ≤ sizeLine; decide, fun p2 np2 => ?_⟩
    have e1 : (upd (upd H p (.lst (cutV (ns.map V.int) (some 0) (some (0 + 1))))) p2 (.lst [.int 0])) p = some (.lst (cutV (ns.map V.int) (some 0) (some (0 + 1)))) := by
      rw [upd_ne (ne_of_none upd_same np2)]
      exact upd_same
    have len : (cutV (ns.map V.int) (some 0) (some (0 + 1))).length ≤ ns.length := by
      have z := cutV_length (ns.map V.int) (some 0) (some (0 + 1))
      rwa [List.length_map] at z
    refine ⟨p, p2, _, _, rfl, rfl, e1, upd_same, ?_, fun p3 np3 => ?_⟩
    · refine Nat.le_trans (Nat.add_le_add_right (Nat.le_trans len hlen) _) (by decide)
    · obtain ⟨n, en⟩ : ∃ n : Int, (cutV (ns.map V.int) (some 0) (some (0 + 1)) ++ [V.int 0])[0]? = some (V.int n) := by
        unfold cutV
        rw [← List.map_drop, ← List.map_take]
        cases (List.take (HT.sIx (ns.map V.int).length (ns.map V.int).length (some (0 + 1)) - HT.sIx (ns.map V.int).length 0 (some 0)) (List.drop (HT.sIx (ns.map V.int).length 0 (some 0)) ns)) with
        | nil => exact ⟨0, rfl⟩
        | cons x r => exact ⟨x, rfl⟩
      refine ⟨p3, _, 0, .int n, rfl, rfl, SqL.of upd_same, atI_nat (j := 0) en, q n _ ?_⟩
      exact ((Same.upd np).trans (Same.upd np2)).trans (Same.upd np3)
end
/-! ### drawn sites -/
theorem scSites : FnScope ["_law_source", "_law_most", "_law_round_one", "_law_way", "_law_found", "_law_u", "_law_v", "_law_k", "_law_site", "_law_x", "_law_y"] ["_law_source", "_law_most"] (defScope sSites) := ⟨rfl, rfl, rfl, by decide +kernel, rfl, by decide +kernel, by decide +kernel⟩
section
variable {P : Program} {w : World} {K : PySem.W.Frag} {mg : Str → Option Value} {base : Heap}
/-- sites at addresses, with their numbers -/
inductive SR (H : Hp) : List Addr → List (Int × Int) → Prop
  | nil : SR H [] []
  | cons {t : Addr} {s : Int × Int} {ts : List Addr} {ss : List (Int × Int)} (h : Sit H t s.1 s.2) (r : SR H ts ss) : SR H (t :: ts) (s :: ss)
theorem SR.same {H H' : Hp} {ts : List Addr} {ss : List (Int × Int)} (h : SR H ts ss) (a : Same H H') : SR H' ts ss := by
  induction h with
  | nil => exact .nil
  | cons h _ ih => exact .cons (h.same a) ih
theorem SR.put {H : Hp} {ts : List Addr} {ss : List (Int × Int)} {p : Addr} {o : HO} (h : SR H ts ss) (n : ∀ x y, H p ≠ some (.tup [.int x, .int y])) : SR (upd H p o) ts ss := by
  induction h with
  | nil => exact .nil
  | @cons t s ts ss h _ ih =>
    refine .cons ?_ ih
    show upd H p o t = _
    rw [upd_ne (fun z => n s.1 s.2 (by rw [← z]; exact h))]
    exact h
theorem SR.snoc {H : Hp} {ts : List Addr} {ss : List (Int × Int)} {t : Addr} {s : Int × Int} (h : SR H ts ss) (e : Sit H t s.1 s.2) : SR H (ts ++ [t]) (ss ++ [s]) := by
  induction h with
  | nil => exact .cons e .nil
  | cons h _ ih => exact .cons h ih
theorem SR.len {H : Hp} {ts : List Addr} {ss : List (Int × Int)} (h : SR H ts ss) : ts.length = ss.length := by
  induction h with
  | nil => rfl
  | cons _ _ ih => rw [List.length_cons, List.length_cons, ih]
/-- the numbers of a site -/
def siteOf (H : Hp) (t : Addr) : Int × Int := match H t with
  | some (.tup [.int x, .int y]) => (x, y)
  | _ => (0, 0)
theorem siteOf_is {H : Hp} {t : Addr} {x y : Int} (h : Sit H t x y) : siteOf H t = (x, y) := by
  unfold siteOf
  rw [show H t = some (.tup [.int x, .int y]) from h]
theorem SR.map {H : Hp} {ts : List Addr} {ss : List (Int × Int)} (h : SR H ts ss) : ts.map (siteOf H) = ss := by
  induction h with
  | nil => rfl
  | cons h _ ih => rw [List.map_cons, ih, siteOf_is h]
/-- f tells the numbers of the sites at ts -/
def SitF (f : Addr → Int × Int) (H : Hp) (ts : List Addr) : Prop := ∀ t ∈ ts, Sit H t (f t).1 (f t).2 ∧ Bd 1000000 (f t).1 (f t).2
theorem SitF.same {f : Addr → Int × Int} {H H' : Hp} {ts : List Addr} (h : SitF f H ts) (a : Same H H') : SitF f H' ts := fun t m => ⟨(h t m).1.same a, (h t m).2⟩
theorem SitF.stp {f : Addr → Int × Int} {s : Addr} {H H' : Hp} {ts : List Addr} (h : SitF f H ts) (q : Src H s) (a : Stp s H H') : SitF f H' ts := fun t m => ⟨(h t m).1.stp q a, (h t m).2⟩
theorem SitF.sub {f : Addr → Int × Int} {H : Hp} {ts us : List Addr} (h : SitF f H ts) (a : ∀ u ∈ us, u ∈ ts) : SitF f H us := fun t m => h t (a t m)
/-- the source at s, a new list of sites, no two alike, at least one, at most as many as are asked -/
def spSitesN : Sp := fun vs H Q _ => ∃ (s : Addr) (most : Int), vs = [.ref s, .int most] ∧ Src H s ∧ 0 < most ∧ most ≤ 1000 ∧
  ∀ (p : Addr) (ts : List Addr) (f : Addr → Int × Int) H', Stp s H H' → H p = none → H' p = some (.lst (ts.map V.ref)) → 0 < ts.length → (ts.length : Int) ≤ most → SitF f H' ts → (ts.map f).Nodup → Q (.ref p) H'
/-- a key, moved -/
def mvK (u v : Int) : List L2.Key → Int × Int
  | [Sum.inl x, Sum.inl y] => (x + u, y + v)
  | _ => (0, 0)
theorem put_nodup {kvs : List (List L2.Key × V)} {k : List L2.Key} {v : V} (h : (kvs.map (·.1)).Nodup) : ((putK kvs k v).map (·.1)).Nodup := by
  unfold putK
  split
  · rw [List.map_map, show ((fun kv : List L2.Key × V => kv.1) ∘ fun kv => if kv.1 = k then (kv.1, v) else kv) = fun kv => kv.1 from funext fun kv => by
      show (if kv.1 = k then (kv.1, v) else kv).1 = kv.1
      split <;> rfl]
    exact h
  · rename_i c
    rw [List.map_append]
    refine List.nodup_append.mpr ⟨h, List.nodup_cons.mpr ⟨(fun z => nomatch z), List.nodup_nil⟩, fun a ma b mb => ?_⟩
    rintro rfl
    have e : a = k := List.mem_singleton.mp mb
    subst e
    obtain ⟨kv, m, e⟩ := List.mem_map.mp ma
    exact c (List.any_eq_true.mpr ⟨kv, m, decide_eq_true e⟩)
/-- within the loop: what stands -/
structure SL (s R d : Addr) (rs : List Addr) (H H' : Hp) (kvs : List (List Key × V)) : Prop where
  st : Stp s H H'
  nR : H R = none
  nd : H d = none
  lR : H' R = some (.lst (rs.map V.ref))
  sR : Sits 5 H' rs
  dd : H' d = some (.dT kvs)
  kk : ∀ kv ∈ kvs, ∃ x y : Int, kv.1 = [Sum.inl x, Sum.inl y] ∧ Bd 999000 x y
  nk : (kvs.map (·.1)).Nodup
theorem put_keys {kvs : List (List Key × V)} {x y : Int} {v : V} (h : ∀ kv ∈ kvs, ∃ x y : Int, kv.1 = [Sum.inl x, Sum.inl y] ∧ Bd 999000 x y) (b : Bd 999000 x y) : ∀ kv ∈ putK kvs [Sum.inl x, Sum.inl y] v, ∃ x y : Int, kv.1 = [Sum.inl x, Sum.inl y] ∧ Bd 999000 x y := by
  intro kv m
  unfold putK at m
  split at m
  · obtain ⟨u, mu, e⟩ := List.mem_map.mp m
    obtain ⟨x', y', e1, b1⟩ := h u mu
    refine ⟨x', y', ?_, b1⟩
    rw [← e]
    split
    · exact e1
    · exact e1
  · rcases List.mem_append.mp m with m | m
    · exact h kv m
    · have e := List.mem_singleton.mp m
      subst e
      exact ⟨x, y, rfl, b⟩
theorem put_pos {kvs : List (List Key × V)} {k : List Key} {v : V} : 0 < (putK kvs k v).length := by
  unfold putK
  split
  · rename_i h
    rw [List.length_map]
    cases kvs with
    | nil => cases h
    | cons a r => exact Nat.zero_lt_succ _
  · rw [List.length_append]
    exact Nat.lt_of_lt_of_le (Nat.zero_lt_succ _) (Nat.le_add_left _ _)
theorem SL.step {s R d : Addr} {rs : List Addr} {H H1 H2 : Hp} {kvs : List (List Key × V)} (h : SL s R d rs H H1 kvs) (q : Src H s) (a : Stp s H1 H2) : SL s R d rs H H2 kvs :=
  ⟨h.st.trans a, h.nR, h.nd, a.keep _ _ (q.nen h.nR) h.lR, h.sR.stp h.st.src a, a.keep _ _ (q.nen h.nd) h.dd, h.kk, h.nk⟩
theorem ok_sitesN {f fN fO : Addr} {fd fdN fdO : FuncData} {k : Nat} (F : Fun K "_law_sites" "_law_sites" sSites f fd)
    (GN : FnOk P w K mg base CX0 (k + 1) fN fdN ["_law_source", "_law_many"] spNext) (gN : mg "_law_next" = some (.ref fN)) (kN : PySem.W.keepIn K (.ref fN) = true) (bN : Binds K fdN ["_law_source", "_law_many"] [])
    (GO : FnOk P w K mg base CX0 (k + 2) fO fdO ["_law_source", "_law_some"] (spOne K)) (gO : mg "_law_one" = some (.ref fO)) (kO : PySem.W.keepIn K (.ref fO) = true) (bO : Binds K fdO ["_law_source", "_law_some"] [])
    (mr : mg "range" = none) : FnOk P w K mg base CX0 (k + 3) f fd ["_law_source", "_law_most"] spSitesN := by
  refine F.ok scSites (fun vs H Q E h => ?_) (fun cdv A outer s H vs Q E hr h => ?_)
  · obtain ⟨s, m, rfl, _⟩ := h
    rfl
  · obtain ⟨s, most, rfl, hs, m0, m1, q⟩ := h
    have hr1 : Room (k + 1) _ := hr.mono (by omega)
    have nd := scSites.nd
    have bd : ∀ {x y : Int}, x.natAbs ≤ 5 → y.natAbs ≤ 5 → Bd 5 x y := fun h1 h2 => ⟨by omega, by omega, by omega, by omega⟩
    refine ⟨_, pss_cons (ps_set (i := 2) nd rfl (.inl rfl) (pe_lst
        (pa_sits (pe_sit (b := 5) (pa_cons pe_int (pa_cons pe_int pa_nil)) (bd (by decide) (by decide)))
        (pa_sits (pe_sit (b := 5) (pa_cons pe_int (pa_cons pe_int pa_nil)) (bd (by decide) (by decide)))
        (pa_sits (pe_sit (b := 5) (pa_cons pe_int (pa_cons pe_int pa_nil)) (bd (by decide) (by decide)))
        (pa_sits (pe_sit (b := 5) (pa_cons pe_int (pa_cons pe_int pa_nil)) (bd (by decide) (by decide)))
        (pa_sits (pe_sit (b := 5) (pa_cons pe_neg (pa_cons pe_int pa_nil)) (bd (by decide) (by decide)))
        (pa_sits (pe_sit (b := 5) (pa_cons pe_neg (pa_cons pe_int pa_nil)) (bd (by decide) (by decide)))
        (pa_sits (pe_sit (b := 5) (pa_cons pe_neg (pa_cons pe_int pa_nil)) (bd (by decide) (by decide)))
        (pa_sits (pe_sit (b := 5) (pa_cons pe_neg (pa_cons pe_neg pa_nil)) (bd (by decide) (by decide))) pa_sits0))))))))))
      (pss_cons (ps_set (i := 2) nd rfl (.inl rfl) (pe_op op_cat (pv 2) (pe_lst
        (pa_sits (pe_sit (b := 5) (pa_cons pe_neg (pa_cons pe_neg pa_nil)) (bd (by decide) (by decide)))
        (pa_sits (pe_sit (b := 5) (pa_cons pe_int (pa_cons pe_neg pa_nil)) (bd (by decide) (by decide)))
        (pa_sits (pe_sit (b := 5) (pa_cons pe_int (pa_cons pe_neg pa_nil)) (bd (by decide) (by decide)))
        (pa_sits (pe_sit (b := 5) (pa_cons pe_int (pa_cons pe_neg pa_nil)) (bd (by decide) (by decide))) pa_sits0)))))))
      (pss_cons (ps_par (i := 3) (j := 4) (by rfl) nd rfl rfl (by decide) rfl rfl (pa_cons (pe_call GN hr1 (by rfl) gN kN bN .nil pass0 (pa_cons (pv 0) (pa_cons pe_int pa_nil))) (pa_cons pe_dnewT pa_nil)) (by rfl))
      (pss_cons (ps_asg (pe_tup (pa_cons (pe_op op_sub (pe_call GN hr1 (by rfl) gN kN bN .nil pass0 (pa_cons (pv 0) (pa_cons pe_int pa_nil))) pe_int) (pa_cons (pe_op op_sub (pe_call GN hr1 (by rfl) gN kN bN .nil pass0 (pa_cons (pv 0) (pa_cons pe_int pa_nil))) pe_int) pa_nil)))
          (pg_tup (by rfl) (pgs_cons (pg_name (i := 5) nd rfl (.inr rfl)) (pgs_cons (pg_name (i := 6) nd rfl (.inr rfl)) pgs_nil))))
      (C8.pss_cut (ps_for PassesOwn.never rfl (pi_range1 (by rfl) mr (pa_cons (pe_op op_add pe_int (pe_call GN hr1 (by rfl) gN kN bN .nil pass0 (pa_cons (pv 0) (pa_cons (pv 1) pa_nil)))) pa_nil)) (pg_name (i := 7) nd rfl (.inl rfl))
          (pss_cons (ps_set (i := 8) nd rfl (.inl rfl) (pe_tup (pa_cons (pe_call GN hr1 (by rfl) gN kN bN .nil pass0 (pa_cons (pv 0) (pa_cons pe_int pa_nil))) (pa_cons (pe_call GN hr1 (by rfl) gN kN bN .nil pass0 (pa_cons (pv 0) (pa_cons pe_int pa_nil))) pa_nil))))
          (C8.pss_cut (ps_if (PW.pt (pw_and (pt_cmpR op_eq (pv 3) pe_int (nomark _)) (pw_and1 (pt_cmpR op_gt (pe_call GN hr1 (by rfl) gN kN bN .nil pass0 (pa_cons (pv 0) (pa_cons pe_int pa_nil))) pe_int (nomark _)))))
              (pss_one (ps_set (i := 8) nd rfl (.inl rfl) (pe_call GO hr (by rfl) gO kO bO .nil pass0 (pa_cons (pv 0) (pa_cons (pv 2) pa_nil))))) pss_nil)
          (C8.pss_cut (ps_if (pt_cmpR op_eq (pv 3) pe_int (nomark _))
              (pss_one (ps_set (i := 8) nd rfl (.inl rfl) (pe_tup (pa_cons (pe_op op_mul (pe_call GN hr1 (by rfl) gN kN bN .nil pass0 (pa_cons (pv 0) (pa_cons pe_int pa_nil))) pe_int)
                (pa_cons (pe_op op_mul (pe_call GN hr1 (by rfl) gN kN bN .nil pass0 (pa_cons (pv 0) (pa_cons pe_int pa_nil))) (pe_call GN hr1 (by rfl) gN kN bN .nil pass0 (pa_cons (pv 0) (pa_cons pe_int pa_nil)))) pa_nil))))) pss_nil)
          (C8.pss_cut (ps_if (pt_cmpR op_eq (pv 3) pe_int (nomark _))
              (pss_one (ps_set (i := 8) nd rfl (.inl rfl) (pe_tup (pa_cons (pe_op op_sub (pe_call GN hr1 (by rfl) gN kN bN .nil pass0 (pa_cons (pv 0) (pa_cons pe_int pa_nil))) pe_int)
                (pa_cons (pe_op op_sub (pe_call GN hr1 (by rfl) gN kN bN .nil pass0 (pa_cons (pv 0) (pa_cons pe_int pa_nil))) pe_int) pa_nil))))) pss_nil)
          (C8.pss_cut (ps_if (pt_cmpR op_eq (pv 3) pe_int (nomark _))
              (pss_one (ps_set (i := 8) nd rfl (.inl rfl) (pe_tup (pa_cons (pe_op op_sub (pe_call GN hr1 (by rfl) gN kN bN .nil pass0 (pa_cons (pv 0) (pa_cons pe_int pa_nil))) pe_int)
                (pa_cons (pe_op op_sub (pe_call GN hr1 (by rfl) gN kN bN .nil pass0 (pa_cons (pv 0) (pa_cons pe_int pa_nil))) pe_int) pa_nil))))) pss_nil)
          (pss_one (ps_dput (hu_of hr) (pv 4) (pv 8) pe_bl rfl))))))))
      (pss_one (ps_ret (pe_lock (pe_lc (own := [("_law_x", 9), ("_law_y", 10)]) (g := gTup K 2 (gCons (gName 9) (gCons (gName 10) gNil))) (tt := tYes) (te := tTup (tCons (tOp (rI0 fun i j => .int (i + j)) (tVar 9) (tVar 5)) (tCons (tOp (rI0 fun i j => .int (i + j)) (tVar 10) (tVar 6)) tNil))) rfl nd (pi_keys (pv 4)) (blkOk_by (own := [("_law_x", 9), ("_law_y", 10)]) (N := ["_law_source", "_law_most", "_law_round_one", "_law_way", "_law_found", "_law_u", "_law_v", "_law_k", "_law_site", "_law_x", "_law_y"]) (sc := defScope sSites) (by decide +kernel))
          (fun _ _ _ _ _ => by exact pg_tup rfl (pgs_cons (pg_name (i := 9) nd rfl (.inl rfl)) (pgs_cons (pg_name (i := 10) nd rfl (.inl rfl)) pgs_nil)))
          (fun _ _ _ _ _ => pts_nil)
          (fun _ _ _ _ _ => by exact pe_tup (pa_cons (pe_op op_add (pv 9) (pv 5)) (pa_cons (pe_op op_add (pv 10) (pv 6)) pa_nil))))))))))), ?_⟩
    -- the round ones
    refine fun ps1 H1 sm1 l1 st1 => ⟨by rw [List.length_map, l1]; decide, fun p1 np1 => ?_⟩
    have e1 : (upd H1 p1 (.lst (ps1.map V.ref))) p1 = some (.lst (ps1.map V.ref)) := upd_same
    have s1 : Same H (upd H1 p1 (.lst (ps1.map V.ref))) := sm1.trans (Same.upd np1)
    have t1 : Sits 5 (upd H1 p1 (.lst (ps1.map V.ref))) ps1 := st1.same (Same.upd np1)
    generalize upd H1 p1 (.lst (ps1.map V.ref)) = G1 at e1 s1 t1
    refine ⟨_, rfl, fun ps2 H2 sm2 l2 st2 => ⟨by rw [List.length_map, l2]; decide, fun p2 np2 => ?_⟩⟩
    have s2 : Same G1 (upd H2 p2 (.lst (ps2.map V.ref))) := sm2.trans (Same.upd np2)
    have e2 : (upd H2 p2 (.lst (ps2.map V.ref))) p2 = some (.lst (ps2.map V.ref)) := upd_same
    have t2 : Sits 5 (upd H2 p2 (.lst (ps2.map V.ref))) (ps1 ++ ps2) := fun r m => by
      rcases List.mem_append.mp m with m | m
      · exact (t1.same s2) r m
      · exact (st2.same (Same.upd np2)) r m
    have n2 : ∀ p, (upd H2 p2 (.lst (ps2.map V.ref))) p = none → H p = none := fun p e => (s1.trans s2).free e
    have s2' := s1.trans s2
    generalize upd H2 p2 (.lst (ps2.map V.ref)) = G2 at s2 e2 t2 n2 s2'
    refine ⟨p1, p2, _, _, rfl, rfl, s2 _ _ e1, e2, by rw [List.length_map, List.length_map, l1, l2]; decide, fun R nR => ?_⟩
    have eR : (upd G2 R (.lst (ps1.map V.ref ++ ps2.map V.ref))) R = some (.lst ((ps1 ++ ps2).map V.ref)) := by
      rw [List.map_append]
      exact upd_same
    have tR : Sits 5 (upd G2 R (.lst (ps1.map V.ref ++ ps2.map V.ref))) (ps1 ++ ps2) := t2.same (Same.upd nR)
    have sR : Stp s H (upd G2 R (.lst (ps1.map V.ref ++ ps2.map V.ref))) := (Stp.refl hs).same (s2'.trans (Same.upd nR))
    have lR : (ps1 ++ ps2).length = 12 := by rw [List.length_append, l1, l2]
    have nRH := n2 R nR
    generalize upd G2 R (.lst (ps1.map V.ref ++ ps2.map V.ref)) = G3 at eR tR sR
    generalize ps1 ++ ps2 = rs at eR tR lR
    -- way, found
    refine ⟨_, rfl, s, 5, rfl, sR.src, by decide, sm (by decide), fun w H4 w0 w1 st4 d nd4 => ⟨_, _, rfl, ?_⟩⟩
    have hRs : R ≠ s := hs.nen nRH
    have st04 := sR.trans st4
    have keep4 := st4.keep _ _ hRs eR
    have eR4 : (upd H4 d (.dT [])) R = some (.lst (rs.map V.ref)) := by
      rw [upd_ne (ne_of_none keep4 nd4)]
      exact keep4
    have sl4 : SL s R d rs H (upd H4 d (.dT [])) [] :=
      ⟨st04.new nd4, nRH, st04.free nd4, eR4, (tR.stp sR.src st4).same (Same.upd nd4), upd_same, (fun _ m => nomatch m), List.nodup_nil⟩
    generalize upd H4 d (.dT []) = G4 at sl4
    -- u, v
    refine ⟨_, rfl, s, 2001, rfl, sl4.st.src, by decide, sm (by decide), fun u0 H5 u1 u2 st5 => ⟨_, _, rfl, rfl, _, rfl, s, 2001, rfl, st5.src, by decide, sm (by decide), fun v0 H6 v1 v2 st6 => ⟨_, _, rfl, rfl, two_line, fun p4 np4 => ?_⟩⟩⟩
    have sl6 := ((sl4.step hs st5).step hs st6).step hs ((Stp.refl st6.src).new (o := .tup [.int (u0 - 1000), .int (v0 - 1000)]) np4)
    refine ⟨p4, _, rfl, SqT.of upd_same, rfl, _, _, rfl, _, _, rfl, rfl, ?_⟩
    generalize upd H6 p4 (.tup [.int (u0 - 1000), .int (v0 - 1000)]) = G6 at sl6
    refine ⟨fun σ' H' => ∃ y7 y8 kvs, σ' = [some (.ref s), some (.int most), some (.ref R), some (.int w), some (.ref d), some (.int (u0 - 1000)), some (.int (v0 - 1000)), y7, y8, none, none] ∧ SL s R d rs H H' kvs ∧ 0 < kvs.length ∧ (kvs.length : Int) ≤ most, ?_, ?_⟩
    · -- the loop
      refine ⟨_, rfl, _, rfl, s, most, rfl, sl6.st.src, m0, sm (by omega), fun n H7 n0 n1 st7 => ⟨_, _, rfl, rfl, _, rfl, by omega, by omega, ?_⟩⟩
      have sl7 := sl6.step hs st7
      refine for_range (lo := 0) (n := (1 + n).toNat) (fun i σ' H' => ∃ y7 y8 kvs, σ' = [some (.ref s), some (.int most), some (.ref R), some (.int w), some (.ref d), some (.int (u0 - 1000)), some (.int (v0 - 1000)), y7, y8, none, none] ∧ SL s R d rs H H' kvs ∧ (0 < i → 0 < kvs.length) ∧ kvs.length ≤ i)
        ⟨none, none, [], rfl, sl7, fun z => absurd z (Nat.lt_irrefl _), Nat.le_refl _⟩ ?_ ?_
      · rintro i σ' H' hi ⟨y7, y8, kvs, rfl, sl, c1, c2⟩
        refine ⟨_, rfl, s, 4, rfl, sl.st.src, by decide, sm (by decide), fun a Ha a0 a1 sta => ⟨_, rfl, s, 4, rfl, sta.src, by decide, sm (by decide), fun b Hb b0 b1 stb => ⟨two_line, fun t nt => ?_⟩⟩⟩
        have sl1 := ((sl.step hs sta).step hs stb).step hs ((Stp.refl stb.src).new (o := .tup [.int a, .int b]) nt)
        have e1 : Sit (upd Hb t (.tup [.int a, .int b])) t a b := upd_same
        have d1 : Bd 999000 a b := ⟨by omega, by omega, by omega, by omega⟩
        generalize upd Hb t (.tup [.int a, .int b]) = Hc at sl1 e1
        -- between the ifs
        let M : L2.St → Hp → Prop := fun σ' H' => ∃ (t : Addr) (x y : Int), σ' = [some (V.ref s), some (V.int most), some (V.ref R), some (V.int w), some (V.ref d), some (V.int (u0 - 1000)), some (V.int (v0 - 1000)), some (V.int (0 + i)), some (V.ref t), none, none] ∧ SL s R d rs H H' kvs ∧ Sit H' t x y ∧ Bd 999000 x y
        have m1 : M [some (V.ref s), some (V.int most), some (V.ref R), some (V.int w), some (V.ref d), some (V.int (u0 - 1000)), some (V.int (v0 - 1000)), some (V.int (0 + i)), some (V.ref t), none, none] Hc := ⟨t, a, b, rfl, sl1, e1, d1⟩
        refine ⟨M, ⟨_, rfl, rfl, _, rfl, ?_⟩, ?_⟩
        · refine ite2 (fun _ => ?_) (fun _ => m1)
          refine ⟨_, rfl, s, 4, rfl, sl1.st.src, by decide, sm (by decide), fun a Ha a0 a1 sta => ⟨_, _, rfl, rfl, _, rfl, ite2 (fun _ => ?_) fun _ => ⟨t, _, _, rfl, sl1.step hs sta, e1.stp sl1.st.src sta, d1⟩⟩⟩
          have sl2 := sl1.step hs sta
          refine ⟨_, rfl, _, rfl, s, R, _, rfl, sl2.st.src, sl2.lR, hRs, by rw [List.length_map, lR]; decide, by rw [List.length_map, lR]; decide, fun x H' mx st => ?_⟩
          obtain ⟨r, mr', rfl⟩ := List.mem_map.mp mx
          obtain ⟨x, y, er, dr⟩ := sl2.sR r mr'
          exact ⟨r, x, y, rfl, sl2.step hs st, er.stp sl2.st.src st, dr.mono (by decide)⟩
        rintro σ' H' ⟨t, x, y, rfl, sl, et, dt⟩
        -- the others
        refine ⟨M, ⟨_, rfl, rfl, _, rfl, ite2 (fun _ => ?_) fun _ => ⟨t, x, y, rfl, sl, et, dt⟩⟩, ?_⟩
        · refine ⟨_, rfl, s, 9, rfl, sl.st.src, by decide, sm (by decide), fun a Ha a0 a1 sta => ⟨_, _, rfl, rfl, .inr ⟨by decide, by decide⟩, _, rfl, s, 9, rfl, sta.src, by decide, sm (by decide), fun b Hb b0 b1 stb => ?_⟩⟩
          refine ⟨_, rfl, s, 2, rfl, stb.src, by decide, sm (by decide), fun c Hd c0 c1 stc => ⟨_, _, rfl, rfl, .inr ⟨by omega, by omega⟩, two_line, fun t nt => ?_⟩⟩
          refine ⟨t, _, _, rfl, (((sl.step hs sta).step hs stb).step hs stc).step hs ((Stp.refl stc.src).new nt), upd_same, ?_⟩
          have hc : c = 0 ∨ c = 1 := by omega
          rcases hc with rfl | rfl
          · exact ⟨by omega, by omega, by omega, by omega⟩
          · exact ⟨by omega, by omega, by omega, by omega⟩
        rintro σ' H' ⟨t, x, y, rfl, sl, et, dt⟩
        refine ⟨M, ⟨_, rfl, rfl, _, rfl, ite2 (fun _ => ?_) fun _ => ⟨t, x, y, rfl, sl, et, dt⟩⟩, ?_⟩
        · refine ⟨_, rfl, s, 41, rfl, sl.st.src, by decide, sm (by decide), fun a Ha a0 a1 sta => ⟨_, _, rfl, rfl, _, rfl, s, 41, rfl, sta.src, by decide, sm (by decide), fun b Hb b0 b1 stb => ⟨_, _, rfl, rfl, two_line, fun t nt => ?_⟩⟩⟩
          exact ⟨t, _, _, rfl, ((sl.step hs sta).step hs stb).step hs ((Stp.refl stb.src).new nt), upd_same, by omega, by omega, by omega, by omega⟩
        rintro σ' H' ⟨t, x, y, rfl, sl, et, dt⟩
        refine ⟨M, ⟨_, rfl, rfl, _, rfl, ite2 (fun _ => ?_) fun _ => ⟨t, x, y, rfl, sl, et, dt⟩⟩, ?_⟩
        · refine ⟨_, rfl, s, 1998001, rfl, sl.st.src, by decide, sm (by decide), fun a Ha a0 a1 sta => ⟨_, _, rfl, rfl, _, rfl, s, 1998001, rfl, sta.src, by decide, sm (by decide), fun b Hb b0 b1 stb => ⟨_, _, rfl, rfl, two_line, fun t nt => ?_⟩⟩⟩
          exact ⟨t, _, _, rfl, ((sl.step hs sta).step hs stb).step hs ((Stp.refl stb.src).new nt), upd_same, by omega, by omega, by omega, by omega⟩
        rintro σ' H' ⟨t, x, y, rfl, sl, et, dt⟩
        -- found[site] = True
        have nds : d ≠ s := hs.nen sl.nd
        have hlen : kvs.length < sizeLine := Nat.lt_of_lt_of_le (Nat.lt_of_le_of_lt c2 hi) (Nat.le_trans (by omega) (by decide : 1000 ≤ sizeLine))
        refine ⟨_, rfl, _, rfl, d, _, rfl, DPut.t (k := [Sum.inl x, Sum.inl y]) sl.dd et hlen, ?_⟩
        refine ⟨_, _, _, rfl, ⟨sl.st.set sl.nd nds, sl.nR, sl.nd, ?_, sl.sR.put fun x y z => ?_, upd_same, put_keys sl.kk dt, put_nodup sl.nk⟩, fun _ => put_pos, ?_⟩
        · rw [upd_ne (ne_of sl.lR sl.dd (by intro z; cases z))]
          exact sl.lR
        · rw [sl.dd] at z
          cases z
        · exact Nat.le_trans (length_putK _ _ _) (Nat.succ_le_succ c2)
      · rintro σ' H' ⟨y7, y8, kvs, rfl, sl, c1, c2⟩
        exact ⟨y7, y8, kvs, rfl, sl, c1 (by omega), by omega⟩
    · -- the sites, moved
      rintro σ' H' ⟨y7, y8, kvs, rfl, sl, c1, c2⟩
      have nds : d ≠ s := hs.nen sl.nd
      refine ⟨d, _, sl.dd, True.intro, fun od => ⟨_, rfl, d, od, rfl, .inr ⟨kvs, upd_same, fun D nD => ?_⟩⟩⟩
      have nDd : D ≠ d := fun z => by
        rw [z, upd_same] at nD
        cases nD
      refine lc_it walk_keysT (fun i Hc => Same (upd H' d (.frz od (.dT kvs))) Hc ∧ ∃ ts : List Addr, Hc D = some (.lst (ts.map V.ref)) ∧ SR Hc ts ((kvs.take i).map fun kv => mvK (u0 - 1000) (v0 - 1000) kv.1))
        ⟨Same.upd nD, [], upd_same, .nil⟩ (fun i Hc _ z => z.1 _ _ upd_same) ?_ ?_
      · rintro i x Hc0 Hc hi ⟨sm', ts, eD, tt⟩ ⟨rfl, k, v, p, ek, rfl, ep⟩
        obtain ⟨x, y, e1, b1⟩ := sl.kk (k, v) (List.mem_of_getElem? ek)
        have e1 : k = [Sum.inl x, Sum.inl y] := e1
        subst e1
        refine ⟨p, _, rfl, SqT.of ep, rfl, _, _, rfl, _, _, rfl, rfl, rfl, ?_⟩
        refine ⟨_, rfl, _, rfl, _, _, rfl, rfl, _, rfl, _, rfl, _, _, rfl, rfl, two_line, fun r nr => ?_⟩
        have eD' : (upd Hc r (.tup [.int (x + (u0 - 1000)), .int (y + (v0 - 1000))])) D = some (.lst (ts.map V.ref)) := (Same.upd nr) _ _ eD
        have lt := tt.len
        rw [List.length_map, List.length_take] at lt
        refine ⟨_, eD', ?_, ?_⟩
        · rw [List.length_map, lt]
          exact Nat.lt_of_le_of_lt (Nat.min_le_left _ _) (Nat.lt_of_lt_of_le hi (Nat.le_trans (by omega) (by decide : 1000 ≤ sizeLine)))
        · have nr' : r ≠ D := (ne_of_none eD nr).symm
          refine ⟨fun b o e => ?_, ts ++ [r], ?_, ?_⟩
          · have nbD : b ≠ D := ne_of_none e nD
            rw [upd_ne nbD]
            exact (Same.upd nr) _ _ (sm' b o e)
          · rw [List.map_append]
            exact upd_same
          · rw [List.take_add_one, ek, Option.toList_some, List.map_append]
            refine SR.snoc (((tt.same (Same.upd nr)).put (p := D) (o := .lst (ts.map V.ref ++ [.ref r])) fun x y z => by rw [eD'] at z; cases z)) ?_
            show upd _ D _ r = _
            rw [upd_ne nr', upd_same]
            rfl
      · rintro Hc ⟨sm', ts, eD, tt⟩
        rw [List.take_length] at tt
        have tt2 : SR (upd Hc d (.dT kvs)) ts (kvs.map fun kv => mvK (u0 - 1000) (v0 - 1000) kv.1) := tt.put fun x y z => by
          rw [sm' _ _ upd_same] at z
          cases z
        have lt := tt2.len
        rw [List.length_map] at lt
        have key : ∀ kv ∈ kvs, ∃ x y : Int, kv.1 = [Sum.inl x, Sum.inl y] ∧ Bd 999000 x y := sl.kk
        have fin : SitF (siteOf (upd Hc d (.dT kvs))) (upd Hc d (.dT kvs)) ts := by
          have gen : ∀ (us : List Addr) (ws : List (List L2.Key × V)), (∀ kv ∈ ws, ∃ x y : Int, kv.1 = [Sum.inl x, Sum.inl y] ∧ Bd 999000 x y) → SR (upd Hc d (.dT kvs)) us (ws.map fun kv => mvK (u0 - 1000) (v0 - 1000) kv.1) → SitF (siteOf (upd Hc d (.dT kvs))) (upd Hc d (.dT kvs)) us := by
            intro us
            induction us with
            | nil => intro ws _ _ t m; exact nomatch m
            | cons u us ih =>
              intro ws hk hr t m
              cases ws with
              | nil => exact nomatch hr
              | cons kv ws =>
                rw [List.map_cons] at hr
                cases hr with
                | cons e r =>
                  rcases List.mem_cons.mp m with rfl | m
                  · obtain ⟨x, y, ek, h1, h2, h3, h4⟩ := hk kv List.mem_cons_self
                    rw [siteOf_is e]
                    refine ⟨e, ?_⟩
                    rw [ek]
                    show Bd 1000000 (x + (u0 - 1000)) (y + (v0 - 1000))
                    exact ⟨by omega, by omega, by omega, by omega⟩
                  · exact ih ws (fun kv m => hk kv (List.mem_cons_of_mem _ m)) r t m
          exact gen ts kvs key tt2
        have nod : (ts.map (siteOf (upd Hc d (.dT kvs)))).Nodup := by
          rw [tt2.map]
          have inj : ∀ a ∈ kvs, ∀ b ∈ kvs, a.1 ≠ b.1 → mvK (u0 - 1000) (v0 - 1000) a.1 ≠ mvK (u0 - 1000) (v0 - 1000) b.1 := fun a ma b mb ne z => by
            obtain ⟨x, y, ea, _⟩ := key a ma
            obtain ⟨x', y', eb, _⟩ := key b mb
            rw [ea, eb] at z ne
            have z1 : x + (u0 - 1000) = x' + (u0 - 1000) := congrArg Prod.fst z
            have z2 : y + (v0 - 1000) = y' + (v0 - 1000) := congrArg Prod.snd z
            exact ne (by rw [show x = x' by omega, show y = y' by omega])
          have nk := sl.nk
          unfold List.Nodup at nk ⊢
          rw [List.pairwise_map] at nk ⊢
          exact List.Pairwise.imp_of_mem (fun {a b} ma mb ne => inj a ma b mb ne) nk
        refine ⟨sm' _ _ upd_same, q D ts (siteOf (upd Hc d (.dT kvs))) _ ⟨fun b o nb e => ?_, ?_⟩ ?_ ?_ (by omega) (by omega) fin nod⟩
        · have nbd : b ≠ d := ne_of_none e sl.nd
          rw [upd_ne nbd]
          refine sm' _ _ ?_
          rw [upd_ne nbd]
          exact sl.st.keep b o nb e
        · obtain ⟨x, y, z, e⟩ := sl.st.src
          refine ⟨x, y, z, ?_⟩
          rw [upd_ne nds.symm]
          refine sm' _ _ ?_
          rw [upd_ne nds.symm]
          exact e
        · rw [upd_ne nDd] at nD
          exact sl.st.free nD
        · rw [upd_ne nDd]
          exact eD
end
/-! ### the program's own defs: what a site is -/
abbrev sIsSite : Stmt := topS 7
theorem scIsSite : FnScope ["value", "x", "y"] ["value"] (defScope sIsSite) := ⟨rfl, rfl, rfl, by decide +kernel, rfl, by decide +kernel, by decide +kernel⟩
section
variable {P : Program} {w : World} {K : PySem.W.Frag} {mg : Str → Option Value} {base : Heap}
/-- a number is neither True nor False -/
theorem op_isIB {X : Cx} : OpR X (compareOp .Is) (fun x y H Q => ∃ (n : Int) (b : Bool), x = .int n ∧ y = .bl b ∧ Q (.bl false) H) := by
  intro pins s σ H x y v u Q I rx ry h
  obtain ⟨n, b, rfl, rfl, q⟩ := h
  obtain ⟨t, rfl⟩ := rx
  cases (show u = Value.bool b from ry)
  exact wpAny_is_other rfl (fun z => by cases z) ⟨.bl false, H, I, rfl, q⟩
theorem itf {p A B : Prop} [Decidable p] (h : ¬ p) (b : B) : if decide p = true then A else B := by
  rw [decide_eq_false h]
  exact b
theorem itt {p A B : Prop} [Decidable p] (h : p) (a : A) : if decide p = true then A else B := by
  rw [decide_eq_true h]
  exact a
theorem kTT (K : PySem.W.Frag) : PySem.W.kitOne K (.type "tuple") (.type "tuple") = some true := kit_ty (by decide +kernel)
theorem kII (K : PySem.W.Frag) : PySem.W.kitOne K (.type "int") (.type "int") = some true := kit_ty (by decide +kernel)
/-- a site -/
def spIsSite : Sp := fun vs H Q _ => ∃ (t : Addr) (x y : Int), vs = [.ref t] ∧ Sit H t x y ∧ Bd 1000000 x y ∧ Q (.bl true) H
theorem ok_issite {f : Addr} {fd : FuncData} {k : Nat} (F : Fun K "is_site" "is_site" sIsSite f fd) (misinstance : mg "isinstance" = none) (mtuple : mg "tuple" = none) (mint : mg "int" = none) (mlen : mg "len" = none) : FnOk P w K mg base CX0 (k + 1) f fd ["value"] spIsSite := by
  refine F.ok scIsSite (fun vs H Q E h => ?_) (fun cdv A outer s H vs Q E hr h => ?_)
  · obtain ⟨t, x, y, rfl, _⟩ := h
    rfl
  · obtain ⟨t, x, y, rfl, h, d, q⟩ := h
    have nd := scIsSite.nd
    obtain ⟨d1, d2, d3, d4⟩ := d
    refine ⟨_, (pss_cons (ps_if (PW.pt (pw_or (pt_not (pt_val (pe_callB call_isi (by rfl) misinstance (by decide +kernel) (pa_cons (pv 0) (pa_cons (pe_bltn (v := .ty "tuple") (by rfl) mtuple (by decide +kernel) rfl) pa_nil))))) (pw_or1 (pt_cmpR op_ne (pe_callB call_len_seq (by rfl) mlen (by decide +kernel) (pa_cons (pv 0) pa_nil)) pe_int (nomark _))))) (pss_one (ps_ret pe_bl)) pss_nil) (pss_cons (ps_asg (pv 0) (pg_tup (by rfl) (pgs_cons (pg_name (i := 1) nd rfl (.inl rfl)) (pgs_cons (pg_name (i := 2) nd rfl (.inl rfl)) pgs_nil)))) (pss_cons (ps_if (PW.pt (pw_or (pt_not (pt_val (pe_callB call_isi (by rfl) misinstance (by decide +kernel) (pa_cons (pv 1) (pa_cons (pe_bltn (v := .ty "int") (by rfl) mint (by decide +kernel) rfl) pa_nil))))) (pw_or1 (pt_not (pt_val (pe_callB call_isi (by rfl) misinstance (by decide +kernel) (pa_cons (pv 2) (pa_cons (pe_bltn (v := .ty "int") (by rfl) mint (by decide +kernel) rfl) pa_nil)))))))) (pss_one (ps_ret pe_bl)) pss_nil) (pss_cons (ps_if (PW.pt (pw_or (pt_cmpR op_isIB (pv 1) pe_bl (nomark _)) (pw_or (pt_cmpR op_isIB (pv 1) pe_bl (nomark _)) (pw_or (pt_cmpR op_isIB (pv 2) pe_bl (nomark _)) (pw_or1 (pt_cmpR op_isIB (pv 2) pe_bl (nomark _))))))) (pss_one (ps_ret pe_bl)) pss_nil) (pss_cons (ps_if (PW.pt (pw_or (pt_cmpR op_gt (pv 1) pe_int (nomark _)) (pw_or (pt_cmpR op_lt (pv 1) pe_neg (nomark _)) (pw_or (pt_cmpR op_gt (pv 2) pe_int (nomark _)) (pw_or1 (pt_cmpR op_lt (pv 2) pe_neg (nomark _))))))) (pss_one (ps_ret pe_bl)) pss_nil) (pss_one (ps_ret pe_bl))))))), ?_⟩
    exact ⟨_, rfl, _, _, _, _, _, rfl, .ty "tuple", .base (.tup h), kTT K, _, rfl, _, rfl, _, _, rfl, .inr (SqT.of h), rfl, _, rfl, _, rfl, _, _, rfl, SqT.of h, rfl, _, _, rfl, _, _, rfl, rfl, _, rfl, _, _, _, _, _, rfl, .ty "int", .base (.int _), kII K, _, rfl, _, rfl, _, _, _, _, _, rfl, .ty "int", .base (.int _), kII K, _, rfl, _, rfl, _, _, rfl, rfl, _, rfl, _, rfl, _, _, rfl, rfl, _, rfl, _, rfl, _, _, rfl, rfl, _, rfl, _, rfl, _, _, rfl, rfl, _, rfl, _, rfl, _, _, rfl, rfl, _, rfl, itf (by omega) ⟨_, rfl, _, _, rfl, rfl, _, rfl, itf (by omega) ⟨_, rfl, _, _, rfl, rfl, _, rfl, itf (by omega) ⟨_, rfl, _, _, rfl, rfl, _, rfl, itf (by omega) q⟩⟩⟩⟩
def spCheck : Sp := fun vs H Q _ => ∃ (t : Addr) (x y : Int) (z : Str), vs = [.ref t, .str z] ∧ Sit H t x y ∧ Bd 1000000 x y ∧ Q .non H
/-- the double area -/
def tri (ax ay bx by' cx cy : Int) : Int := (bx - ax) * (cy - ay) - (by' - ay) * (cx - ax)
/-- three sites, and what is told of their numbers -/
def sp3 (K : PySem.W.Frag) (v : Int → Int → Int → Int → Int → Int → V) : Sp := fun vs H Q _ => ∃ (a b c : Addr) (ax ay bx by' cx cy : Int), vs = [.ref a, .ref b, .ref c] ∧ Sit H a ax ay ∧ Sit H b bx by' ∧ Sit H c cx cy ∧
  Bd 1000000 ax ay ∧ Bd 1000000 bx by' ∧ Bd 1000000 cx cy ∧ Q (v ax ay bx by' cx cy) H
theorem tri_m1 {ax ay bx cy : Int} (a : -1000000 ≤ ax ∧ ax ≤ 1000000) (b : -1000000 ≤ bx ∧ bx ≤ 1000000) : CMul (bx - ax) (cy - ay) := .inl ⟨by omega, by omega⟩
end
/-! ### signs, sites that are alike -/
section
variable {P : Program} {w : World} {K : PySem.W.Frag} {mg : Str → Option Value} {base : Heap}
def sg (n : Int) : Int := if n = 0 then 0 else if 0 < n then 1 else -1
theorem dpSit {H : Hp} {t : Addr} {x y : Int} (h : Sit H t x y) : Dp K H (.ref t) (.tuple [.int x, .int y]) := .tup (SqT.of h) (.cons (.int x) (.cons (.int y) .nil))
theorem eqv_sit (x y u v : Int) : PyData.eqv (.tuple [.int x, .int y]) (.tuple [.int u, .int v]) = decide (x = u ∧ y = v) := by
  simp [PyData.eqv, PyData.eqvAll, Bool.decide_and, Bool.beq_eq_decide_eq]
theorem at0_ (u v : V) : atI [u, v] 0 = some u := rfl
theorem at1_ (u v : V) : atI [u, v] 1 = some v := rfl
end
section
variable {P : Program} {w : World} {K : PySem.W.Frag} {mg : Str → Option Value} {base : Heap}
def spSign : Sp := fun vs H Q _ => ∃ n : Int, vs = [.int n] ∧ Q (.int (sg n)) H
end
/-! ### places, fractions: the mathematics -/
def g3 (x y d : Int) : Nat := Nat.gcd (Nat.gcd x.natAbs y.natAbs) d.natAbs
theorem g3_is (x y d : Int) : Nat.gcd (((Nat.gcd x.natAbs y.natAbs : Nat) : Int)).natAbs d.natAbs = g3 x y d := by
  rw [Int.natAbs_natCast]
  rfl
theorem g3_dx (x y d : Int) : ((g3 x y d : Nat) : Int) ∣ x := Int.ofNat_dvd_left.mpr (Nat.dvd_trans (Nat.gcd_dvd_left _ _) (Nat.gcd_dvd_left _ _))
theorem g3_dy (x y d : Int) : ((g3 x y d : Nat) : Int) ∣ y := Int.ofNat_dvd_left.mpr (Nat.dvd_trans (Nat.gcd_dvd_left _ _) (Nat.gcd_dvd_right _ _))
theorem g3_dd (x y d : Int) : ((g3 x y d : Nat) : Int) ∣ d := Int.ofNat_dvd_left.mpr (Nat.gcd_dvd_right _ _)
theorem g3_pos {x y d : Int} (h : d ≠ 0) : 0 < g3 x y d := Nat.gcd_pos_of_pos_right _ (Int.natAbs_pos.mpr h)
theorem g3_le {x y d : Int} (h : d ≠ 0) : g3 x y d ≤ d.natAbs := Nat.le_of_dvd (Int.natAbs_pos.mpr h) (Nat.gcd_dvd_right _ _)
/-- the divisor that makes the last number one of 1 and more -/
def gs (x y d : Int) : Int := if d < 0 then -((g3 x y d : Nat) : Int) else ((g3 x y d : Nat) : Int)
theorem gs_ne {x y d : Int} (h : d ≠ 0) : gs x y d ≠ 0 := by
  have := g3_pos (x := x) (y := y) h
  unfold gs
  split <;> omega
theorem gs_abs (x y d : Int) : (gs x y d).natAbs = g3 x y d := by
  unfold gs
  split <;> omega
theorem gs_dvd {x y d z : Int} (h : ((g3 x y d : Nat) : Int) ∣ z) : gs x y d ∣ z := by
  unfold gs
  split
  · exact Int.neg_dvd.mpr h
  · exact h
/-- a tuple of three numbers is a place -/
structure PlOk (x y d : Int) : Prop where
  x1 : -(10 ^ 30) < x
  x2 : x < 10 ^ 30
  y1 : -(10 ^ 30) < y
  y2 : y < 10 ^ 30
  d1 : 1 ≤ d
  d2 : d < 10 ^ 30
  g1 : g3 x y d = 1
theorem mul_fdiv {g z : Int} (h : g ∣ z) : g * z.fdiv g = z := by
  rw [Int.fdiv_eq_ediv_of_dvd h]
  exact Int.mul_ediv_cancel' h
theorem abs_le_of_mul {g z x : Int} (e : g * z = x) (h : g ≠ 0) : z.natAbs ≤ x.natAbs := by
  rw [← e, Int.natAbs_mul]
  exact Nat.le_mul_of_pos_left _ (Int.natAbs_pos.mpr h)
theorem place_ok {x y d : Int} (h : d ≠ 0) (hx : x.natAbs < 10 ^ 30) (hy : y.natAbs < 10 ^ 30) (hd : d.natAbs < 10 ^ 30) : PlOk (x.fdiv (gs x y d)) (y.fdiv (gs x y d)) (d.fdiv (gs x y d)) := by
  have ex := mul_fdiv (gs_dvd (g3_dx x y d))
  have ey := mul_fdiv (gs_dvd (g3_dy x y d))
  have ed := mul_fdiv (gs_dvd (g3_dd x y d))
  have hn := gs_ne (x := x) (y := y) h
  have bx := abs_le_of_mul ex hn
  have by' := abs_le_of_mul ey hn
  have bd := abs_le_of_mul ed hn
  have pos : 0 < d.fdiv (gs x y d) := by
    have gp := g3_pos (x := x) (y := y) h
    generalize d.fdiv (gs x y d) = D at ed
    unfold gs at ed
    split at ed
    · rename_i hneg
      rcases Int.lt_trichotomy D 0 with z | z | z
      · exfalso
        have w : 0 < -((g3 x y d : Nat) : Int) * D := Int.mul_pos_of_neg_of_neg (by omega) z
        omega
      · rw [z, Int.mul_zero] at ed
        omega
      · exact z
    · rcases Int.lt_trichotomy D 0 with z | z | z
      · exfalso
        have w : ((g3 x y d : Nat) : Int) * D < 0 := Int.mul_neg_of_pos_of_neg (by omega) z
        omega
      · rw [z, Int.mul_zero] at ed
        omega
      · exact z
  refine ⟨by omega, by omega, by omega, by omega, by omega, by omega, ?_⟩
  have nx : g3 x y d * (x.fdiv (gs x y d)).natAbs = x.natAbs := by rw [← gs_abs, ← Int.natAbs_mul, ex]
  have ny : g3 x y d * (y.fdiv (gs x y d)).natAbs = y.natAbs := by rw [← gs_abs, ← Int.natAbs_mul, ey]
  have nd : g3 x y d * (d.fdiv (gs x y d)).natAbs = d.natAbs := by rw [← gs_abs, ← Int.natAbs_mul, ed]
  have key : g3 x y d * g3 (x.fdiv (gs x y d)) (y.fdiv (gs x y d)) (d.fdiv (gs x y d)) = g3 x y d := by
    generalize hg : g3 x y d = g at nx ny nd
    unfold g3
    rw [← Nat.gcd_mul_left, ← Nat.gcd_mul_left, nx, ny, nd]
    exact hg
  exact Nat.eq_of_mul_eq_mul_left (g3_pos (x := x) (y := y) h) (by rw [key, Nat.mul_one])
theorem nb_add {i j : Int} {a : Nat} (hi : i.natAbs < 2 ^ a) (hj : j.natAbs < 2 ^ a) : (i + j).natAbs < 2 ^ (a + 1) := by
  rw [Nat.pow_succ]
  omega
theorem nb_sub {i j : Int} {a : Nat} (hi : i.natAbs < 2 ^ a) (hj : j.natAbs < 2 ^ a) : (i - j).natAbs < 2 ^ (a + 1) := by
  rw [Nat.pow_succ]
  omega
theorem nb_up {i : Int} {a b : Nat} (hi : i.natAbs < 2 ^ a) (h : a ≤ b) : i.natAbs < 2 ^ b := Nat.lt_of_lt_of_le hi (Nat.pow_le_pow_right (by decide) h)
theorem PlOk.bits {x y d : Int} (h : PlOk x y d) : x.natAbs < 2 ^ 100 ∧ y.natAbs < 2 ^ 100 ∧ d.natAbs < 2 ^ 100 := by
  obtain ⟨h1, h2, h3, h4, h5, h6, _⟩ := h
  refine ⟨by omega, by omega, by omega⟩
/-- the squared distance of a place and a site, times d * d -/
def spread (x y d u v : Int) : Int := (x - d * u) * (x - d * u) + (y - d * v) * (y - d * v)
theorem sq_nn (x : Int) : 0 ≤ x * x := by
  rw [← Int.natAbs_mul_self]
  exact Int.natCast_nonneg _
theorem spread_nonneg (x y d u v : Int) : 0 ≤ spread x y d u v := Int.add_nonneg (sq_nn _) (sq_nn _)
theorem far_bits {x d u : Int} (hx : x.natAbs < 2 ^ 100) (hd : d.natAbs < 2 ^ 100) (hu : -1000000 ≤ u ∧ u ≤ 1000000) : (x - d * u).natAbs < 2 ^ 121 := by
  have h1 : (d * u).natAbs < 2 ^ (100 + 20) := wide_lt hd (by omega)
  exact nb_sub (nb_up hx (by decide)) h1
/-- what lifts from a site are -/
def lz (u v : Int) : Int := u * u + v * v
def vol (ax ay bx by' cx cy dx dy : Int) : Int :=
  (dx - ax) * ((by' - ay) * lz (cx - ax) (cy - ay) - lz (bx - ax) (by' - ay) * (cy - ay)) + (dy - ay) * (lz (bx - ax) (by' - ay) * (cx - ax) - (bx - ax) * lz (cx - ax) (cy - ay)) + lz (dx - ax) (dy - ay) * ((bx - ax) * (cy - ay) - (by' - ay) * (cx - ax))
theorem vol_turn (ax ay bx by' cx cy dx dy : Int) : vol cx cy ax ay bx by' dx dy = vol ax ay bx by' cx cy dx dy := by
  unfold vol lz
  grind
theorem tri_turn (ax ay bx by' cx cy : Int) : tri cx cy ax ay bx by' = tri ax ay bx by' cx cy := by
  unfold tri
  grind
/-! ### fractions, places, circles, lifts -/
abbrev sIsPl : Stmt := topS 8
abbrev sCheckP : Stmt := topS 9
theorem scIsPl : FnScope ["value", "x", "y", "d"] ["value"] (defScope sIsPl) := ⟨rfl, rfl, rfl, by decide +kernel, rfl, by decide +kernel, by decide +kernel⟩
theorem scCheckP : FnScope ["value", "name"] ["value", "name"] (defScope sCheckP) := ⟨rfl, rfl, rfl, by decide +kernel, rfl, by decide +kernel, by decide +kernel⟩
section
variable {P : Program} {w : World} {K : PySem.W.Frag} {mg : Str → Option Value} {base : Heap}
theorem three_line : 3 ≤ sizeLine := by decide
theorem a30_ (u v z : V) : atI [u, v, z] 0 = some u := rfl
theorem a31_ (u v z : V) : atI [u, v, z] 1 = some v := rfl
theorem a32_ (u v z : V) : atI [u, v, z] 2 = some z := rfl
def Tup2 (H : Hp) (p : Addr) (x y : Int) : Prop := H p = some (.tup [.int x, .int y])
def Pla (H : Hp) (p : Addr) (x y d : Int) : Prop := H p = some (.tup [.int x, .int y, .int d])
/-- a new thing is handed back, all else stands -/
def newRes (H : Hp) (Q : VK) (o : HO) : Prop := ∀ (p : Addr) H', Same H H' → H p = none → H' p = some o → Q (.ref p) H'
/-! fraction -/
def gcf (t b : Int) : Int := ((Nat.gcd t.natAbs b.natAbs : Nat) : Int)
def spFrac : Sp := fun vs H Q _ => ∃ t b : Int, vs = [.int t, .int b] ∧ 0 < b ∧ b.natAbs < 2 ^ 8000 ∧ newRes H Q (.tup [.int (t / gcf t b), .int (b / gcf t b)])
theorem gcf_pos {t b : Int} (h : 0 < b) : 0 < gcf t b := Int.natCast_pos.mpr (Nat.gcd_pos_of_pos_right _ (by omega))
theorem gcf_le {t b : Int} (h : 0 < b) : (gcf t b).natAbs ≤ b.natAbs := by
  unfold gcf
  rw [Int.natAbs_natCast]
  exact Nat.le_of_dvd (by omega) (Nat.gcd_dvd_right _ _)
/-! places -/
/-- a place -/
def spIsPl : Sp := fun vs H Q _ => ∃ (t : Addr) (x y d : Int), vs = [.ref t] ∧ Pla H t x y d ∧ PlOk x y d ∧ Q (.bl true) H
set_option pp.maxSteps 300 in
theorem ok_ispl {f : Addr} {fd : FuncData} {k : Nat} (F : Fun K "is_place" "is_place" sIsPl f fd)
    (misinstance : mg "isinstance" = none) (mtuple : mg "tuple" = none) (mint : mg "int" = none) (mlen : mg "len" = none) (mgcd : mg "gcd" = some (.builtin "math.gcd")) : FnOk P w K mg base CX0 (k + 1) f fd ["value"] spIsPl := by
  refine F.ok scIsPl (fun vs H Q E h => ?_) (fun cdv A outer s H vs Q E hr h => ?_)
  · obtain ⟨t, x, y, d, rfl, _⟩ := h
    rfl
  · obtain ⟨t, x, y, d, rfl, h, p, q⟩ := h
    have nd := scIsPl.nd
    obtain ⟨x1, x2, y1, y2, d1, d2, g1⟩ := p
    refine ⟨_, (pss_cons (ps_if (PW.pt (pw_or (pt_not (pt_val (pe_callB call_isi (by rfl) misinstance (by decide +kernel) (pa_cons (pv 0) (pa_cons (pe_bltn (v := .ty "tuple") (by rfl) mtuple (by decide +kernel) rfl) pa_nil))))) (pw_or1 (pt_cmpR op_ne (pe_callB call_len_seq (by rfl) mlen (by decide +kernel) (pa_cons (pv 0) pa_nil)) pe_int (nomark _))))) (pss_one (ps_ret pe_bl)) pss_nil) (pss_cons (ps_asg (pv 0) (pg_tup (by rfl) (pgs_cons (pg_name (i := 1) nd rfl (.inl rfl)) (pgs_cons (pg_name (i := 2) nd rfl (.inl rfl)) (pgs_cons (pg_name (i := 3) nd rfl (.inl rfl)) pgs_nil))))) (pss_cons (ps_if (PW.pt (pw_or (pt_not (pt_val (pe_callB call_isi (by rfl) misinstance (by decide +kernel) (pa_cons (pv 1) (pa_cons (pe_bltn (v := .ty "int") (by rfl) mint (by decide +kernel) rfl) pa_nil))))) (pw_or (pt_not (pt_val (pe_callB call_isi (by rfl) misinstance (by decide +kernel) (pa_cons (pv 2) (pa_cons (pe_bltn (v := .ty "int") (by rfl) mint (by decide +kernel) rfl) pa_nil))))) (pw_or1 (pt_not (pt_val (pe_callB call_isi (by rfl) misinstance (by decide +kernel) (pa_cons (pv 3) (pa_cons (pe_bltn (v := .ty "int") (by rfl) mint (by decide +kernel) rfl) pa_nil))))))))) (pss_one (ps_ret pe_bl)) pss_nil) (pss_cons (ps_if (PW.pt (pw_or (pt_cmpR op_isIB (pv 1) pe_bl (nomark _)) (pw_or (pt_cmpR op_isIB (pv 1) pe_bl (nomark _)) (pw_or (pt_cmpR op_isIB (pv 2) pe_bl (nomark _)) (pw_or (pt_cmpR op_isIB (pv 2) pe_bl (nomark _)) (pw_or (pt_cmpR op_isIB (pv 3) pe_bl (nomark _)) (pw_or1 (pt_cmpR op_lt (pv 3) pe_int (nomark _))))))))) (pss_one (ps_ret pe_bl)) pss_nil) (pss_cons (ps_if (PW.pt (pw_or (pt_not (pt_chain op_lt op_lt (pe_un un_neg (pe_op op_pow pe_int pe_int)) (pv 1) (pe_op op_pow pe_int pe_int))) (pw_or (pt_not (pt_chain op_lt op_lt (pe_un un_neg (pe_op op_pow pe_int pe_int)) (pv 2) (pe_op op_pow pe_int pe_int))) (pw_or1 (pt_cmpR op_ge (pv 3) (pe_op op_pow pe_int pe_int) (nomark _)))))) (pss_one (ps_ret pe_bl)) pss_nil) (pss_one (ps_ret (pe_or (pe_cmpR op_eq (pv 3) pe_int (nomark _)) (pe_one (pe_cmpR op_eq (pe_callBfun cr_gcd3 (by rfl) mgcd (pa_cons (pv 1) (pa_cons (pv 2) (pa_cons (pv 3) pa_nil)))) pe_int (nomark _))))))))))), ?_⟩
    repeat array_get_dec
    refine w_itt x1 ?_
    repeat array_get_dec
    refine w_ntt x2 ?_
    repeat array_get_dec
    refine w_itt y1 ?_
    repeat array_get_dec
    refine w_ntt y2 ?_
    repeat array_get_dec
    refine w_itf (p := (10 : Int) ^ (30 : Int).toNat ≤ d) (fun z => absurd d2 (Int.not_lt.mpr z)) ?_
    refine ⟨_, rfl, rfl, _, rfl, ite2 (fun _ => q) fun _ => ?_⟩
    repeat array_get_dec
    have e : Nat.gcd (Nat.gcd x.natAbs y.natAbs) d.natAbs = 1 := g1
    rw [e]
    exact q
def spCheckP : Sp := fun vs H Q _ => ∃ (t : Addr) (x y d : Int) (z : Str), vs = [.ref t, .str z] ∧ Pla H t x y d ∧ PlOk x y d ∧ Q .non H
theorem ok_checkp {f fS : Addr} {fd fdS : FuncData} {k : Nat} (F : Fun K "check_place" "check_place" sCheckP f fd)
    (GS : FnOk P w K mg base CX0 (k + 1) fS fdS ["value"] spIsPl) (gS : mg "is_place" = some (.ref fS)) (kS : PySem.W.keepIn K (.ref fS) = true) (bS : Binds K fdS ["value"] []) : FnOk P w K mg base CX0 (k + 2) f fd ["value", "name"] spCheckP := by
  refine F.ok scCheckP (fun vs H Q E h => ?_) (fun cdv A outer s H vs Q E hr h => ?_)
  · obtain ⟨t, x, y, d, z, rfl, _⟩ := h
    rfl
  · obtain ⟨t, x, y, d, z, rfl, h, p, q⟩ := h
    exact ⟨_, pss_one (ps_if (pt_not (pt_val (pe_call GS hr (by rfl) gS kS bS .nil pass0 (pa_cons (pv 0) pa_nil)))) (pss_one ps_never) pss_nil), _, rfl, t, x, y, d, rfl, h, p, _, rfl, q⟩
end
/-! ### circles: the mathematics -/
def cX1 (ax ay bx by' cx cy : Int) : Int := lz (bx - ax) (by' - ay) * (cy - ay) - lz (cx - ax) (cy - ay) * (by' - ay)
def cY1 (ax ay bx by' cx cy : Int) : Int := lz (cx - ax) (cy - ay) * (bx - ax) - lz (bx - ax) (by' - ay) * (cx - ax)
def cXn (ax ay bx by' cx cy : Int) : Int := ax * (2 * tri ax ay bx by' cx cy) + cX1 ax ay bx by' cx cy
def cYn (ax ay bx by' cx cy : Int) : Int := ay * (2 * tri ax ay bx by' cx cy) + cY1 ax ay bx by' cx cy
def cDn (ax ay bx by' cx cy : Int) : Int := 2 * tri ax ay bx by' cx cy
def cTop (ax ay bx by' cx cy : Int) : Int := cX1 ax ay bx by' cx cy * cX1 ax ay bx by' cx cy + cY1 ax ay bx by' cx cy * cY1 ax ay bx by' cx cy
def cBot (ax ay bx by' cx cy : Int) : Int := 2 * tri ax ay bx by' cx cy * (2 * tri ax ay bx by' cx cy)
/-- the centre's numbers -/
def ctx (ax ay bx by' cx cy : Int) : Int := (cXn ax ay bx by' cx cy).fdiv (gs (cXn ax ay bx by' cx cy) (cYn ax ay bx by' cx cy) (cDn ax ay bx by' cx cy))
def cty (ax ay bx by' cx cy : Int) : Int := (cYn ax ay bx by' cx cy).fdiv (gs (cXn ax ay bx by' cx cy) (cYn ax ay bx by' cx cy) (cDn ax ay bx by' cx cy))
def ctd (ax ay bx by' cx cy : Int) : Int := (cDn ax ay bx by' cx cy).fdiv (gs (cXn ax ay bx by' cx cy) (cYn ax ay bx by' cx cy) (cDn ax ay bx by' cx cy))
theorem cmL {i j : Int} (h : i.natAbs < 2 ^ 63) : CMul i j := .inl ⟨by omega, by omega⟩
theorem cmR {i j : Int} (h : j.natAbs < 2 ^ 63) : CMul i j := .inr ⟨by omega, by omega⟩
theorem df_bits {a b : Int} (ha : -1000000 ≤ a ∧ a ≤ 1000000) (hb : -1000000 ≤ b ∧ b ≤ 1000000) : (b - a).natAbs < 2 ^ 21 := by omega
theorem lz_bits {u v : Int} (hu : u.natAbs < 2 ^ 21) (hv : v.natAbs < 2 ^ 21) : (lz u v).natAbs < 2 ^ 43 := nb_add (wide_lt hu hu) (wide_lt hv hv)
structure Six (ax ay bx by' cx cy : Int) : Prop where
  a : Bd 1000000 ax ay
  b : Bd 1000000 bx by'
  c : Bd 1000000 cx cy
section
variable {ax ay bx by' cx cy : Int}
theorem Six.u1 (h : Six ax ay bx by' cx cy) : (bx - ax).natAbs < 2 ^ 21 := df_bits ⟨h.a.1, h.a.2.1⟩ ⟨h.b.1, h.b.2.1⟩
theorem Six.v1 (h : Six ax ay bx by' cx cy) : (by' - ay).natAbs < 2 ^ 21 := df_bits h.a.2.2 h.b.2.2
theorem Six.u2 (h : Six ax ay bx by' cx cy) : (cx - ax).natAbs < 2 ^ 21 := df_bits ⟨h.a.1, h.a.2.1⟩ ⟨h.c.1, h.c.2.1⟩
theorem Six.v2 (h : Six ax ay bx by' cx cy) : (cy - ay).natAbs < 2 ^ 21 := df_bits h.a.2.2 h.c.2.2
theorem Six.l1 (h : Six ax ay bx by' cx cy) : (lz (bx - ax) (by' - ay)).natAbs < 2 ^ 43 := lz_bits h.u1 h.v1
theorem Six.l2 (h : Six ax ay bx by' cx cy) : (lz (cx - ax) (cy - ay)).natAbs < 2 ^ 43 := lz_bits h.u2 h.v2
theorem Six.t (h : Six ax ay bx by' cx cy) : (tri ax ay bx by' cx cy).natAbs < 2 ^ 43 := nb_sub (wide_lt h.u1 h.v2) (wide_lt h.v1 h.u2)
theorem Six.t2 (h : Six ax ay bx by' cx cy) : (2 * tri ax ay bx by' cx cy).natAbs < 2 ^ 44 := by
  have := h.t
  omega
theorem Six.x1 (h : Six ax ay bx by' cx cy) : (cX1 ax ay bx by' cx cy).natAbs < 2 ^ 65 := nb_sub (wide_lt h.l1 h.v2) (wide_lt h.l2 h.v1)
theorem Six.y1 (h : Six ax ay bx by' cx cy) : (cY1 ax ay bx by' cx cy).natAbs < 2 ^ 65 := nb_sub (wide_lt h.l2 h.u1) (wide_lt h.l1 h.u2)
theorem Six.xn (h : Six ax ay bx by' cx cy) : (cXn ax ay bx by' cx cy).natAbs < 2 ^ 66 := nb_add (wide_lt (a := 21) (by have := h.a.1; have := h.a.2.1; omega) h.t2) h.x1
theorem Six.yn (h : Six ax ay bx by' cx cy) : (cYn ax ay bx by' cx cy).natAbs < 2 ^ 66 := nb_add (wide_lt (a := 21) (by have := h.a.2.2; omega) h.t2) h.y1
theorem Six.place (h : Six ax ay bx by' cx cy) (t : tri ax ay bx by' cx cy ≠ 0) : PlOk (ctx ax ay bx by' cx cy) (cty ax ay bx by' cx cy) (ctd ax ay bx by' cx cy) := by
  have h1 := h.xn
  have h2 := h.yn
  have h3 := h.t2
  exact place_ok (show cDn ax ay bx by' cx cy ≠ 0 by unfold cDn; omega) (by omega) (by omega) (by unfold cDn; omega)
/-- the centre is as far from all three, times its last number's square -/
theorem centre_far (t : tri ax ay bx by' cx cy ≠ 0) : ∃ g : Int, g ≠ 0 ∧ g * ctx ax ay bx by' cx cy = cXn ax ay bx by' cx cy ∧ g * cty ax ay bx by' cx cy = cYn ax ay bx by' cx cy ∧ g * ctd ax ay bx by' cx cy = cDn ax ay bx by' cx cy := by
  have hd : cDn ax ay bx by' cx cy ≠ 0 := by unfold cDn; omega
  exact ⟨_, gs_ne hd, mul_fdiv (gs_dvd (g3_dx _ _ _)), mul_fdiv (gs_dvd (g3_dy _ _ _)), mul_fdiv (gs_dvd (g3_dd _ _ _))⟩
theorem spread_scale (g x y d u v : Int) : g * g * spread x y d u v = spread (g * x) (g * y) (g * d) u v := by
  unfold spread
  grind
theorem far_a : spread (cXn ax ay bx by' cx cy) (cYn ax ay bx by' cx cy) (cDn ax ay bx by' cx cy) ax ay = cTop ax ay bx by' cx cy := by
  unfold spread cXn cYn cDn cTop
  grind
theorem far_b : spread (cXn ax ay bx by' cx cy) (cYn ax ay bx by' cx cy) (cDn ax ay bx by' cx cy) bx by' = cTop ax ay bx by' cx cy := by
  unfold spread cXn cYn cDn cTop cX1 cY1 tri lz
  grind
theorem far_c : spread (cXn ax ay bx by' cx cy) (cYn ax ay bx by' cx cy) (cDn ax ay bx by' cx cy) cx cy = cTop ax ay bx by' cx cy := by
  unfold spread cXn cYn cDn cTop cX1 cY1 tri lz
  grind
theorem sq_cancel {g p q : Int} (h : g ≠ 0) (e : g * g * p = g * g * q) : p = q := Int.eq_of_mul_eq_mul_left (Int.mul_ne_zero h h) e
theorem centre_ab (t : tri ax ay bx by' cx cy ≠ 0) : spread (ctx ax ay bx by' cx cy) (cty ax ay bx by' cx cy) (ctd ax ay bx by' cx cy) ax ay = spread (ctx ax ay bx by' cx cy) (cty ax ay bx by' cx cy) (ctd ax ay bx by' cx cy) bx by' := by
  obtain ⟨g, hg, e1, e2, e3⟩ := centre_far t
  refine sq_cancel hg ?_
  rw [spread_scale, spread_scale, e1, e2, e3, far_a, far_b]
theorem centre_ac (t : tri ax ay bx by' cx cy ≠ 0) : spread (ctx ax ay bx by' cx cy) (cty ax ay bx by' cx cy) (ctd ax ay bx by' cx cy) ax ay = spread (ctx ax ay bx by' cx cy) (cty ax ay bx by' cx cy) (ctd ax ay bx by' cx cy) cx cy := by
  obtain ⟨g, hg, e1, e2, e3⟩ := centre_far t
  refine sq_cancel hg ?_
  rw [spread_scale, spread_scale, e1, e2, e3, far_a, far_c]
end
section
variable {P : Program} {w : World} {K : PySem.W.Frag} {mg : Str → Option Value} {base : Heap}
def spLift : Sp := fun vs H Q _ => ∃ (a b : Addr) (ax ay bx by' : Int), vs = [.ref a, .ref b] ∧ Sit H a ax ay ∧ Sit H b bx by' ∧ Bd 1000000 ax ay ∧ Bd 1000000 bx by' ∧ newRes H Q (.tup [.int (bx - ax), .int (by' - ay), .int (lz (bx - ax) (by' - ay))])
def spPlOf : Sp := fun vs H Q _ => ∃ x y d : Int, vs = [.int x, .int y, .int d] ∧ d ≠ 0 ∧ d.natAbs < 2 ^ 8000 ∧ newRes H Q (.tup [.int (x.fdiv (gs x y d)), .int (y.fdiv (gs x y d)), .int (d.fdiv (gs x y d))])
theorem gs_div {x y d : Int} (h : d ≠ 0) (hd : d.natAbs < 2 ^ 8000) (z : Int) : CDivE z (gs x y d) := ⟨gs_ne h, by rw [gs_abs]; exact Nat.lt_of_le_of_lt (g3_le h) hd⟩
/-- the circle's tuple: a place and a fraction -/
structure Cir (H : Hp) (p : Addr) (X Y D n m : Int) : Prop where
  ex : ∃ pc pf : Addr, H p = some (.tup [.ref pc, .ref pf]) ∧ Pla H pc X Y D ∧ Tup2 H pf n m
def spCirT (K : PySem.W.Frag) : Sp := fun vs H Q _ => ∃ (a b c : Addr) (ax ay bx by' cx cy : Int), vs = [.ref a, .ref b, .ref c] ∧ Sit H a ax ay ∧ Sit H b bx by' ∧ Sit H c cx cy ∧ Six ax ay bx by' cx cy ∧ tri ax ay bx by' cx cy ≠ 0 ∧
  ∀ (p : Addr) H', Same H H' → H p = none → Cir H' p (ctx ax ay bx by' cx cy) (cty ax ay bx by' cx cy) (ctd ax ay bx by' cx cy) (cTop ax ay bx by' cx cy / gcf (cTop ax ay bx by' cx cy) (cBot ax ay bx by' cx cy)) (cBot ax ay bx by' cx cy / gcf (cTop ax ay bx by' cx cy) (cBot ax ay bx by' cx cy)) → Q (.ref p) H'
theorem sq_pos {t : Int} (h : t ≠ 0) : 0 < t * t := by
  have z := sq_nn t
  have w : t * t ≠ 0 := Int.mul_ne_zero h h
  omega
theorem g3_shift (a b x y d : Int) : g3 (a * d + x) (b * d + y) d = g3 x y d := by
  have key : ∀ a b x y : Int, g3 x y d ∣ g3 (a * d + x) (b * d + y) d := fun a b x y => by
    have h1 := g3_dx x y d
    have h2 := g3_dy x y d
    have h3 := g3_dd x y d
    refine Nat.dvd_gcd (Nat.dvd_gcd ?_ ?_) (Int.ofNat_dvd_left.mp h3)
    · exact Int.ofNat_dvd_left.mp (Int.dvd_add (Int.dvd_mul_of_dvd_right h3) h1)
    · exact Int.ofNat_dvd_left.mp (Int.dvd_add (Int.dvd_mul_of_dvd_right h3) h2)
  refine Nat.dvd_antisymm ?_ (key a b x y)
  have z := key (-a) (-b) (a * d + x) (b * d + y)
  rwa [show -a * d + (a * d + x) = x by grind, show -b * d + (b * d + y) = y by grind] at z
theorem gs_shift (a b x y d : Int) : gs (a * d + x) (b * d + y) d = gs x y d := by
  unfold gs
  rw [g3_shift]
theorem shift_fdiv {g a d x : Int} (hg : g ≠ 0) (hd : g ∣ d) (hx : g ∣ x) : (a * d + x).fdiv g = a * d.fdiv g + x.fdiv g := by
  have e1 := mul_fdiv hd
  have e2 := mul_fdiv hx
  have : a * d + x = g * (a * d.fdiv g + x.fdiv g) := by grind
  rw [this]
  exact Int.mul_fdiv_cancel_left _ hg
theorem cgcf_scale {s t b : Int} (h : 0 < s) : gcf (s * t) (s * b) = s * gcf t b := by
  unfold gcf
  rw [Int.natAbs_mul, Int.natAbs_mul, Nat.gcd_mul_left, Int.natCast_mul, Int.natAbs_of_nonneg (Int.le_of_lt h)]
theorem cfrac_scale {s t b z : Int} (h : 0 < s) : s * z / gcf (s * t) (s * b) = z / gcf t b := by
  rw [cgcf_scale h]
  exact Int.mul_ediv_mul_of_pos _ _ h
theorem cir_is {ax ay bx by' cx cy : Int} (t : tri ax ay bx by' cx cy ≠ 0) : ∃ X Y D : Int, X = (cX1 ax ay bx by' cx cy).fdiv (gs (cX1 ax ay bx by' cx cy) (cY1 ax ay bx by' cx cy) (2 * tri ax ay bx by' cx cy)) ∧ Y = (cY1 ax ay bx by' cx cy).fdiv (gs (cX1 ax ay bx by' cx cy) (cY1 ax ay bx by' cx cy) (2 * tri ax ay bx by' cx cy)) ∧ D = (2 * tri ax ay bx by' cx cy).fdiv (gs (cX1 ax ay bx by' cx cy) (cY1 ax ay bx by' cx cy) (2 * tri ax ay bx by' cx cy)) ∧
    ctx ax ay bx by' cx cy = ax * D + X ∧ cty ax ay bx by' cx cy = ay * D + Y ∧ ctd ax ay bx by' cx cy = D ∧ 0 < D * D ∧ cTop ax ay bx by' cx cy / gcf (cTop ax ay bx by' cx cy) (cBot ax ay bx by' cx cy) = (X * X + Y * Y) / gcf (X * X + Y * Y) (D * D) ∧ cBot ax ay bx by' cx cy / gcf (cTop ax ay bx by' cx cy) (cBot ax ay bx by' cx cy) = D * D / gcf (X * X + Y * Y) (D * D) := by
  have hd : 2 * tri ax ay bx by' cx cy ≠ 0 := by omega
  have hg := gs_ne (x := cX1 ax ay bx by' cx cy) (y := cY1 ax ay bx by' cx cy) hd
  have ex := mul_fdiv (gs_dvd (g3_dx (cX1 ax ay bx by' cx cy) (cY1 ax ay bx by' cx cy) (2 * tri ax ay bx by' cx cy)))
  have ey := mul_fdiv (gs_dvd (g3_dy (cX1 ax ay bx by' cx cy) (cY1 ax ay bx by' cx cy) (2 * tri ax ay bx by' cx cy)))
  have ed := mul_fdiv (gs_dvd (g3_dd (cX1 ax ay bx by' cx cy) (cY1 ax ay bx by' cx cy) (2 * tri ax ay bx by' cx cy)))
  have sh := gs_shift ax ay (cX1 ax ay bx by' cx cy) (cY1 ax ay bx by' cx cy) (2 * tri ax ay bx by' cx cy)
  refine ⟨_, _, _, rfl, rfl, rfl, ?_, ?_, ?_, ?_⟩
  · unfold ctx cXn cYn cDn
    rw [sh]
    exact shift_fdiv hg (gs_dvd (g3_dd _ _ _)) (gs_dvd (g3_dx _ _ _))
  · unfold cty cXn cYn cDn
    rw [sh]
    exact shift_fdiv hg (gs_dvd (g3_dd _ _ _)) (gs_dvd (g3_dy _ _ _))
  · unfold ctd cXn cYn cDn
    rw [sh]
  · unfold cTop cBot
    generalize (gs (cX1 ax ay bx by' cx cy) (cY1 ax ay bx by' cx cy) (2 * tri ax ay bx by' cx cy)) = g at *
    generalize (cX1 ax ay bx by' cx cy).fdiv g = X at *
    generalize (cY1 ax ay bx by' cx cy).fdiv g = Y at *
    generalize hD : (2 * tri ax ay bx by' cx cy).fdiv g = D at *
    rw [← ex, ← ey, ← ed]
    have D0 : D ≠ 0 := fun z => hd (by rw [← ed, z, Int.mul_zero])
    have e1 : g * X * (g * X) + g * Y * (g * Y) = g * g * (X * X + Y * Y) := by grind
    have e2 : g * D * (g * D) = g * g * (D * D) := by grind
    rw [e1, e2]
    exact ⟨sq_pos D0, cfrac_scale (sq_pos hg), cfrac_scale (sq_pos hg)⟩
set_option pp.maxSteps 300 in
/-- four sites -/
def sp4 (K : PySem.W.Frag) (ok : Int → Int → Int → Int → Int → Int → Int → Int → Prop) (v : Int → Int → Int → Int → Int → Int → Int → Int → V) : Sp := fun vs H Q _ => ∃ (a b c d : Addr) (ax ay bx by' cx cy dx dy : Int), vs = [.ref a, .ref b, .ref c, .ref d] ∧ Sit H a ax ay ∧ Sit H b bx by' ∧ Sit H c cx cy ∧ Sit H d dx dy ∧ Six ax ay bx by' cx cy ∧ Bd 1000000 dx dy ∧ ok ax ay bx by' cx cy dx dy ∧ ∀ H', Same H H' → Q (v ax ay bx by' cx cy dx dy) H'
theorem sg_small (n : Int) : -1 ≤ sg n ∧ sg n ≤ 1 := by
  unfold sg
  split
  · omega
  · split <;> omega
def lsd (ax ay bx by' cx cy dx dy : Int) : Int := sg (vol ax ay bx by' cx cy dx dy) * sg (tri ax ay bx by' cx cy)
theorem hov_is (ax ay bx by' cx cy dx dy : Int) : ((ax - dx) * (ax - dx) + (ay - dy) * (ay - dy)) * ((by' - dy) * (cx - dx) - (bx - dx) * (cy - dy)) + ((bx - dx) * (bx - dx) + (by' - dy) * (by' - dy)) * ((ax - dx) * (cy - dy) - (ay - dy) * (cx - dx)) + ((cx - dx) * (cx - dx) + (cy - dy) * (cy - dy)) * ((ay - dy) * (bx - dx) - (ax - dx) * (by' - dy)) = vol ax ay bx by' cx cy dx dy := by
  unfold vol lz
  grind
def spSpread : Sp := fun vs H Q _ => ∃ (p s : Addr) (x y d u v : Int), vs = [.ref p, .ref s] ∧ Pla H p x y d ∧ PlOk x y d ∧ Sit H s u v ∧ Bd 1000000 u v ∧ Q (.int (spread x y d u v)) H
theorem tri_ne {t : Int} (h : t ≠ 0) : ¬ (V.int t = V.int 0) := fun z => h (V.int.inj z)
def spSquare (K : PySem.W.Frag) : Sp := fun vs H Q _ => ∃ (p s : Addr) (x y d u v : Int), vs = [.ref p, .ref s] ∧ Pla H p x y d ∧ PlOk x y d ∧ Sit H s u v ∧ Bd 1000000 u v ∧
  newRes H Q (.tup [.int (spread x y d u v / gcf (spread x y d u v) (d * d)), .int (d * d / gcf (spread x y d u v) (d * d))])
def spNearer (K : PySem.W.Frag) : Sp := fun vs H Q _ => ∃ (p s t : Addr) (x y d u v u2 v2 : Int), vs = [.ref p, .ref s, .ref t] ∧ Pla H p x y d ∧ PlOk x y d ∧ Sit H s u v ∧ Bd 1000000 u v ∧ Sit H t u2 v2 ∧ Bd 1000000 u2 v2 ∧
  Q (.int (sg (spread x y d u v - spread x y d u2 v2))) H
end
/-! ### hulls: chains of sorted sites -/
abbrev Pt := Int × Int
def crs (u v : Pt) : Int := u.1 * v.2 - u.2 * v.1
def vec (a b : Pt) : Pt := (b.1 - a.1, b.2 - a.2)
/-- the double area, above 0 for a turn to the left -/
def tn (a b c : Pt) : Int := (b.1 - a.1) * (c.2 - a.2) - (b.2 - a.2) * (c.1 - a.1)
/-- to the right, or straight up -/
def fwd (u : Pt) : Prop := 0 < u.1 ∨ (u.1 = 0 ∧ 0 < u.2)
def lt2 (a b : Pt) : Prop := a.1 < b.1 ∨ (a.1 = b.1 ∧ a.2 < b.2)
theorem fwd_vec {a b : Pt} : fwd (vec a b) ↔ lt2 a b := by
  unfold fwd vec lt2
  simp only
  omega
theorem lt2_tr {a b c : Pt} (h : lt2 a b) (k : lt2 b c) : lt2 a c := by
  unfold lt2 at *
  omega
theorem lt2_irr {a : Pt} : ¬ lt2 a a := by
  unfold lt2
  omega
theorem lt2_tri {a b : Pt} (h : a ≠ b) : lt2 a b ∨ lt2 b a := by
  unfold lt2
  have : a.1 ≠ b.1 ∨ a.2 ≠ b.2 := by
    by_cases c : a.1 = b.1
    · exact .inr fun d => h (Prod.ext c d)
    · exact .inl c
  omega
theorem ltge (a b : Int) : a < b ∨ b ≤ a := by omega
theorem mul_nn {a b : Int} (h : 0 ≤ a) (k : 0 ≤ b) : 0 ≤ a * b := Int.mul_nonneg h k
theorem of_mul_nn {a b : Int} (h : 0 ≤ a * b) (k : 0 < b) : 0 ≤ a := by
  rcases ltge a 0 with z | z
  · have := Int.mul_neg_of_neg_of_pos z k
    omega
  · exact z
theorem of_mul_pos {a b : Int} (h : 0 < a * b) (k : 0 < b) : 0 < a := by
  rcases ltge 0 a with z | z
  · exact z
  · have := Int.mul_nonpos_of_nonpos_of_nonneg z (Int.le_of_lt k)
    omega
/-- what goes forward is ordered by its slope -/
theorem crs_tr {u v w : Pt} (fu : fwd u) (fv : fwd v) (fw : fwd w) (h : 0 ≤ crs u v) (k : 0 ≤ crs v w) : 0 ≤ crs u w := by
  obtain ⟨u1, u2⟩ := u
  obtain ⟨v1, v2⟩ := v
  obtain ⟨w1, w2⟩ := w
  unfold crs fwd at *
  simp only at *
  rcases fv with v0 | ⟨v0, v3⟩
  · have e : (u1 * w2 - u2 * w1) * v1 = (u1 * v2 - u2 * v1) * w1 + (v1 * w2 - v2 * w1) * u1 := by grind
    have p1 := mul_nn h (show 0 ≤ w1 by omega)
    have p2 := mul_nn k (show 0 ≤ u1 by omega)
    exact of_mul_nn (by omega) v0
  · subst v0
    have w0 : w1 = 0 := by
      have : 0 ≤ -(v2 * w1) := by omega
      rcases ltge 0 w1 with z | z
      · have := Int.mul_pos v3 z
        omega
      · omega
    subst w0
    have := mul_nn (show 0 ≤ u1 by omega) (show 0 ≤ w2 by omega)
    omega
theorem crs_tr_lt {u v w : Pt} (fu : fwd u) (fv : fwd v) (fw : fwd w) (h : 0 < crs u v) (k : 0 ≤ crs v w) : 0 < crs u w := by
  obtain ⟨u1, u2⟩ := u
  obtain ⟨v1, v2⟩ := v
  obtain ⟨w1, w2⟩ := w
  unfold crs fwd at *
  simp only at *
  have u0 : 0 < u1 := by
    rcases fu with z | ⟨z, y⟩
    · exact z
    · subst z
      have := mul_nn (show 0 ≤ u2 by omega) (show 0 ≤ v1 by omega)
      omega
  rcases fv with v0 | ⟨v0, v3⟩
  · have e : (u1 * w2 - u2 * w1) * v1 = (u1 * v2 - u2 * v1) * w1 + (v1 * w2 - v2 * w1) * u1 := by grind
    refine of_mul_pos (b := v1) ?_ v0
    rw [e]
    rcases fw with w0 | ⟨w0, w3⟩
    · have p1 := Int.mul_pos h w0
      have p2 := mul_nn k (Int.le_of_lt u0)
      omega
    · subst w0
      have p1 := Int.mul_pos (Int.mul_pos v0 w3) u0
      grind
  · subst v0
    have w0 : w1 = 0 := by
      rcases ltge 0 w1 with z | z
      · have := Int.mul_pos v3 z
        omega
      · omega
    subst w0
    have := Int.mul_pos u0 (show 0 < w2 by omega)
    omega
theorem crs_neg (u v : Pt) : crs u v = -crs v u := by
  unfold crs
  grind
theorem tn_crs (a b c : Pt) : tn a b c = crs (vec a b) (vec a c) ∧ tn a b c = crs (vec a b) (vec b c) ∧ tn a b c = crs (vec a c) (vec b c) := by
  unfold tn crs vec
  simp only
  grind
theorem tn_rot (a b c : Pt) : tn a b c = tn b c a := by
  unfold tn
  grind
theorem tn_swap (a b c : Pt) : tn b a c = -tn a b c := by
  unfold tn
  grind
theorem tn_end (a b : Pt) : tn a b a = 0 ∧ tn a b b = 0 := by
  unfold tn
  grind
/-- a further one behind an edge, over it -/
theorem over_next {a b c d : Pt} (ab : lt2 a b) (bc : lt2 b c) (cd : lt2 c d) (h : 0 ≤ tn a b c) (k : 0 ≤ tn b c d) : 0 ≤ tn a b d := by
  rw [(tn_crs a b c).2.1] at h
  rw [(tn_crs b c d).2.1] at k
  have fab := fwd_vec.mpr ab
  have fbc := fwd_vec.mpr bc
  have fcd := fwd_vec.mpr cd
  have t := crs_tr fab fbc fcd h k
  have e : tn a b d = crs (vec a b) (vec b c) + crs (vec a b) (vec c d) := by
    unfold tn crs vec
    grind
  omega
/-- behind a: what is over an edge a, b is over a, s, if s is not over a, b -/
theorem over_fore {a b s p : Pt} (ab : lt2 a b) (as : lt2 a s) (ap : lt2 a p) (h : tn a b s ≤ 0) (k : 0 ≤ tn a b p) : 0 ≤ tn a s p := by
  rw [(tn_crs a b s).1] at h
  rw [(tn_crs a b p).1] at k
  rw [(tn_crs a s p).1]
  exact crs_tr (fwd_vec.mpr as) (fwd_vec.mpr ab) (fwd_vec.mpr ap) (by rw [crs_neg]; omega) k
/-- before a: what is over the edge that ends there is over the next one, too -/
theorem over_back {c a s p : Pt} (ca : lt2 c a) (as : lt2 a s) (pa : lt2 p a) (h : 0 ≤ tn c a s) (k : 0 ≤ tn c a p) : 0 ≤ tn a s p := by
  rw [(tn_crs c a s).2.1] at h
  have k2 : 0 ≤ crs (vec p a) (vec c a) := by
    have : tn c a p = crs (vec p a) (vec c a) := by
      unfold tn crs vec
      grind
    omega
  have t := crs_tr (fwd_vec.mpr pa) (fwd_vec.mpr ca) (fwd_vec.mpr as) k2 h
  have : tn a s p = crs (vec p a) (vec a s) := by
    unfold tn crs vec
    grind
  omega
/-! the program's chain, the last one ahead -/
def popF (least : Int) (s : Pt) : List Pt → List Pt
  | b :: a :: r => if tn a b s < least then popF least s (a :: r) else b :: a :: r
  | l => l
def pushF (least : Int) (st : List Pt) (s : Pt) : List Pt := s :: popF least s st
/-- the edges of a chain: the later one first -/
def Edg : List Pt → List (Pt × Pt)
  | b :: a :: r => (b, a) :: Edg (a :: r)
  | _ => []
def Cvx (least : Int) : List Pt → Prop
  | c :: b :: a :: r => least ≤ tn a b c ∧ Cvx least (b :: a :: r)
  | _ => True
/-- what stands of the chain of the sites P -/
structure Chn (least : Int) (P st : List Pt) : Prop where
  cvx : Cvx least st
  srt : st.Pairwise fun x y => lt2 y x
  sub : ∀ x ∈ st, x ∈ P
  top : ∀ p ∈ P, ∀ x, st.head? = some x → p = x ∨ lt2 p x
  bot : ∀ p ∈ P, ∀ x, st.getLast? = some x → p = x ∨ lt2 x p
  low : ∀ e ∈ Edg st, ∀ p ∈ P, 0 ≤ tn e.2 e.1 p
theorem edg_over {least : Int} (l0 : 0 ≤ least) {s : Pt} : ∀ (r : List Pt) (b a : Pt), Cvx least (b :: a :: r) → (b :: a :: r).Pairwise (fun x y => lt2 y x) → lt2 b s → 0 ≤ tn a b s → ∀ e ∈ Edg (b :: a :: r), 0 ≤ tn e.2 e.1 s
  | [], b, a, _, _, _, h, e, he => by
    have : e = (b, a) := by simpa [Edg] using he
    rw [this]
    exact h
  | z :: r, b, a, cv, so, bs, h, e, he => by
    rcases List.mem_cons.mp (show e ∈ (b, a) :: Edg (a :: z :: r) from he) with rfl | he
    · exact h
    · have ab : lt2 a b := (List.pairwise_cons.mp so).1 a List.mem_cons_self
      have so2 := (List.pairwise_cons.mp so).2
      have za : lt2 z a := (List.pairwise_cons.mp so2).1 z List.mem_cons_self
      exact edg_over l0 r a z cv.2 so2 (lt2_tr ab bs) (over_next za ab bs (Int.le_trans l0 cv.1) h) e he
/-- one put on -/
theorem chn_push {least : Int} (l0 : 0 ≤ least) (l1 : least ≤ 1) {P : List Pt} {s : Pt} (hs : ∀ p ∈ P, lt2 p s) : ∀ (st : List Pt), st ≠ [] → Cvx least st → st.Pairwise (fun x y => lt2 y x) → (∀ x ∈ st, x ∈ P) → (∀ p ∈ P, ∀ x, st.getLast? = some x → p = x ∨ lt2 x p) → (∀ e ∈ Edg st, ∀ p ∈ P, 0 ≤ tn e.2 e.1 p) →
    (∀ p ∈ P, ∀ b, st.head? = some b → lt2 b p → 0 ≤ tn b s p) → Chn least (P ++ [s]) (pushF least st s)
  | [], h, _, _, _, _, _, _ => absurd rfl h
  | [b], _, _, _, sub, bot, _, cover => by
    have bP := sub b List.mem_cons_self
    refine ⟨True.intro, ?_, ?_, ?_, ?_, ?_⟩
    · exact List.pairwise_cons.mpr ⟨fun x hx => by rw [List.mem_singleton.mp hx]; exact hs b bP, List.pairwise_singleton _ _⟩
    · intro x hx
      rcases List.mem_cons.mp hx with rfl | hx
      · exact List.mem_append_right _ (List.mem_singleton.mpr rfl)
      · exact List.mem_append_left _ (sub x hx)
    · intro p hp x hx
      obtain rfl : s = x := Option.some.inj hx
      rcases List.mem_append.mp hp with m | m
      · exact .inr (hs p m)
      · exact .inl (List.mem_singleton.mp m)
    · intro p hp x hx
      obtain rfl : b = x := Option.some.inj hx
      rcases List.mem_append.mp hp with m | m
      · exact bot p m b rfl
      · rw [List.mem_singleton.mp m]
        exact .inr (hs b bP)
    · intro e he p hp
      have : e = (s, b) := by simpa [Edg, pushF, popF] using he
      subst this
      rcases List.mem_append.mp hp with m | m
      · rcases bot p m b rfl with rfl | q
        · rw [(tn_end p s).1]
          exact Int.le_refl _
        · exact cover p m b rfl q
      · rw [List.mem_singleton.mp m, (tn_end b s).2]
        exact Int.le_refl _
  | b :: a :: r, _, cv, so, sub, bot, low, cover => by
    have so2 := (List.pairwise_cons.mp so).2
    have ab : lt2 a b := (List.pairwise_cons.mp so).1 a List.mem_cons_self
    have bP := sub b List.mem_cons_self
    have aP := sub a (List.mem_cons_of_mem _ List.mem_cons_self)
    by_cases c : tn a b s < least
    · have e : pushF least (b :: a :: r) s = pushF least (a :: r) s := by
        unfold pushF
        rw [popF, if_pos c]
      rw [e]
      refine chn_push l0 l1 hs (a :: r) (by simp) ?_ so2 (fun x hx => sub x (List.mem_cons_of_mem _ hx)) (fun p hp x hx => bot p hp x ?_) (fun e he => low e ?_) (fun p hp x hx q => ?_)
      · cases r with
        | nil => exact True.intro
        | cons z r => exact cv.2
      · exact hx
      · exact List.mem_cons_of_mem _ he
      · obtain rfl : a = x := Option.some.inj hx
        exact over_fore ab (hs a aP) q (by omega) (low (b, a) List.mem_cons_self p hp)
    · have e : pushF least (b :: a :: r) s = s :: b :: a :: r := by
        unfold pushF
        rw [popF, if_neg c]
      rw [e]
      have pos : 0 ≤ tn a b s := by omega
      refine ⟨⟨by omega, cv⟩, ?_, ?_, ?_, ?_, ?_⟩
      · exact List.pairwise_cons.mpr ⟨fun x hx => hs x (sub x hx), so⟩
      · intro x hx
        rcases List.mem_cons.mp hx with rfl | hx
        · exact List.mem_append_right _ (List.mem_singleton.mpr rfl)
        · exact List.mem_append_left _ (sub x hx)
      · intro p hp x hx
        obtain rfl : s = x := Option.some.inj hx
        rcases List.mem_append.mp hp with m | m
        · exact .inr (hs p m)
        · exact .inl (List.mem_singleton.mp m)
      · intro p hp x hx
        have hx : (b :: a :: r).getLast? = some x := hx
        rcases List.mem_append.mp hp with m | m
        · exact bot p m x hx
        · rw [List.mem_singleton.mp m]
          exact .inr (hs x (sub x (List.mem_of_getLast? hx)))
      · intro e he p hp
        rcases List.mem_append.mp hp with m | m
        · rcases List.mem_cons.mp (show e ∈ (s, b) :: Edg (b :: a :: r) from he) with rfl | he
          · by_cases q : p = b
            · rw [q, (tn_end b s).1]
              exact Int.le_refl _
            · rcases lt2_tri q with z | z
              · exact over_back ab (hs b bP) z pos (low (b, a) List.mem_cons_self p m)
              · exact cover p m b rfl z
          · exact low e he p m
        · rw [List.mem_singleton.mp m]
          rcases List.mem_cons.mp (show e ∈ (s, b) :: Edg (b :: a :: r) from he) with rfl | he
          · rw [(tn_end b s).2]
            exact Int.le_refl _
          · exact edg_over l0 r b a cv so (hs b bP) pos e he
/-- the whole chain of sorted sites -/
theorem chn_all {least : Int} (l0 : 0 ≤ least) (l1 : least ≤ 1) : ∀ (rows : List Pt) (p0 : Pt), (p0 :: rows).Pairwise lt2 → Chn least (p0 :: rows) (rows.foldl (pushF least) [p0]) := by
  have go : ∀ (rows P st : List Pt), st ≠ [] → Chn least P st → (P ++ rows).Pairwise lt2 → Chn least (P ++ rows) (rows.foldl (pushF least) st) := by
    intro rows
    induction rows with
    | nil => intro P st _ h _; rw [List.append_nil]; exact h
    | cons s rows ih =>
      intro P st ne h so
      have e : P ++ s :: rows = (P ++ [s]) ++ rows := by rw [List.append_assoc]; rfl
      rw [e] at so ⊢
      have hs : ∀ p ∈ P, lt2 p s := fun p hp => (List.pairwise_append.mp (List.pairwise_append.mp so).1).2.2 p hp s (List.mem_singleton.mpr rfl)
      refine ih _ _ (by unfold pushF; simp) (chn_push l0 l1 hs st ne h.cvx h.srt h.sub h.bot h.low fun p hp b hb q => ?_) so
      rcases h.top p hp b hb with rfl | z
      · exact absurd q lt2_irr
      · exact absurd (lt2_tr q z) lt2_irr
  intro rows p0 so
  refine go rows [p0] [p0] (by simp) ⟨True.intro, List.pairwise_singleton _ _, fun x hx => hx, fun p hp x hx => ?_, fun p hp x hx => ?_, fun e he => ?_⟩ so
  · rw [List.mem_singleton.mp hp]
    exact .inl (Option.some.inj hx)
  · rw [List.mem_singleton.mp hp]
    exact .inl (Option.some.inj hx)
  · cases he
theorem over_fore_lt {a b s p : Pt} (ab : lt2 a b) (as : lt2 a s) (ap : lt2 a p) (h : tn a b s < 0) (k : 0 ≤ tn a b p) : 0 < tn a s p := by
  rw [(tn_crs a b s).1] at h
  rw [(tn_crs a b p).1] at k
  rw [(tn_crs a s p).1]
  exact crs_tr_lt (fwd_vec.mpr as) (fwd_vec.mpr ab) (fwd_vec.mpr ap) (by rw [crs_neg]; omega) k
/-- what stands within an edge's reach is off its line -/
def Off (P : List Pt) (st : List Pt) : Prop := ∀ e ∈ Edg st, ∀ p ∈ P, lt2 e.2 p → lt2 p e.1 → 0 < tn e.2 e.1 p
/-- with 0: no site is left out of an edge that it lies on -/
theorem off_push {P : List Pt} {s : Pt} (hs : ∀ p ∈ P, lt2 p s) : ∀ (st : List Pt), st ≠ [] → st.Pairwise (fun x y => lt2 y x) → (∀ x ∈ st, x ∈ P) → (∀ e ∈ Edg st, ∀ p ∈ P, 0 ≤ tn e.2 e.1 p) → Off P st →
    (∀ p ∈ P, ∀ b, st.head? = some b → lt2 b p → 0 < tn b s p) → Off (P ++ [s]) (pushF 0 st s)
  | [], h, _, _, _, _, _ => absurd rfl h
  | [b], _, _, _, _, _, cover => by
    intro e he p hp h1 h2
    have : e = (s, b) := by simpa [Edg, pushF, popF] using he
    subst this
    rcases List.mem_append.mp hp with m | m
    · exact cover p m b rfl h1
    · rw [List.mem_singleton.mp m] at h2
      exact absurd h2 lt2_irr
  | b :: a :: r, _, so, sub, low, off, cover => by
    have so2 := (List.pairwise_cons.mp so).2
    have ab : lt2 a b := (List.pairwise_cons.mp so).1 a List.mem_cons_self
    have aP := sub a (List.mem_cons_of_mem _ List.mem_cons_self)
    have bP := sub b List.mem_cons_self
    by_cases c : tn a b s < 0
    · have e : pushF 0 (b :: a :: r) s = pushF 0 (a :: r) s := by
        unfold pushF
        rw [popF, if_pos c]
      rw [e]
      refine off_push hs (a :: r) (by simp) so2 (fun x hx => sub x (List.mem_cons_of_mem _ hx)) (fun e he => low e (List.mem_cons_of_mem _ he)) (fun e he => off e (List.mem_cons_of_mem _ he)) (fun p hp x hx q => ?_)
      obtain rfl : a = x := Option.some.inj hx
      exact over_fore_lt ab (hs a aP) q c (low (b, a) List.mem_cons_self p hp)
    · have e : pushF 0 (b :: a :: r) s = s :: b :: a :: r := by
        unfold pushF
        rw [popF, if_neg c]
      rw [e]
      intro e he p hp h1 h2
      rcases List.mem_cons.mp (show e ∈ (s, b) :: Edg (b :: a :: r) from he) with rfl | he
      · rcases List.mem_append.mp hp with m | m
        · exact cover p m b rfl h1
        · rw [List.mem_singleton.mp m] at h2
          exact absurd h2 lt2_irr
      · rcases List.mem_append.mp hp with m | m
        · exact off e he p m h1 h2
        · -- s lies behind all edges
          have mem : ∀ (l : List Pt) (e : Pt × Pt), e ∈ Edg l → e.1 ∈ l := by
            intro l
            induction l with
            | nil => intro e h; cases h
            | cons x l ih =>
              intro e h
              cases l with
              | nil => cases h
              | cons y l =>
                rcases List.mem_cons.mp (show e ∈ (x, y) :: Edg (y :: l) from h) with rfl | h
                · exact List.mem_cons_self
                · exact List.mem_cons_of_mem _ (ih e h)
          rw [List.mem_singleton.mp m] at h2
          exact absurd (lt2_tr h2 (hs e.1 (sub e.1 (mem _ e he)))) lt2_irr
theorem off_all : ∀ (rows : List Pt) (p0 : Pt), (p0 :: rows).Pairwise lt2 → Off (p0 :: rows) (rows.foldl (pushF 0) [p0]) := by
  have go : ∀ (rows P st : List Pt), st ≠ [] → Chn 0 P st → Off P st → (P ++ rows).Pairwise lt2 → Off (P ++ rows) (rows.foldl (pushF 0) st) := by
    intro rows
    induction rows with
    | nil => intro P st _ _ h _; rw [List.append_nil]; exact h
    | cons s rows ih =>
      intro P st ne h off so
      have e : P ++ s :: rows = (P ++ [s]) ++ rows := by rw [List.append_assoc]; rfl
      rw [e] at so ⊢
      have hs : ∀ p ∈ P, lt2 p s := fun p hp => (List.pairwise_append.mp (List.pairwise_append.mp so).1).2.2 p hp s (List.mem_singleton.mpr rfl)
      have cov : ∀ p ∈ P, ∀ b, st.head? = some b → ¬ lt2 b p := fun p hp b hb q => by
        rcases h.top p hp b hb with rfl | z
        · exact absurd q lt2_irr
        · exact absurd (lt2_tr q z) lt2_irr
      exact ih _ _ (by unfold pushF; simp) (chn_push (by decide) (by decide) hs st ne h.cvx h.srt h.sub h.bot h.low fun p hp b hb q => absurd q (cov p hp b hb)) (off_push hs st ne h.srt h.sub h.low off fun p hp b hb q => absurd q (cov p hp b hb)) so
  intro rows p0 so
  refine go rows [p0] [p0] (by simp) (chn_all (by decide) (by decide) [] p0 (List.pairwise_singleton _ _)) (fun e he => ?_) so
  cases he
/-! turned about -/
def ng (p : Pt) : Pt := (-p.1, -p.2)
theorem ng_ng (p : Pt) : ng (ng p) = p := by
  unfold ng
  exact Prod.ext (Int.neg_neg _) (Int.neg_neg _)
theorem tn_ng (a b c : Pt) : tn (ng a) (ng b) (ng c) = tn a b c := by
  unfold tn ng
  simp only
  grind
theorem lt2_ng {a b : Pt} : lt2 (ng a) (ng b) ↔ lt2 b a := by
  unfold lt2 ng
  simp only
  omega
theorem pop_ng (least : Int) (s : Pt) : ∀ st : List Pt, popF least (ng s) (st.map ng) = (popF least s st).map ng
  | [] => rfl
  | [b] => rfl
  | b :: a :: r => by
    rw [List.map_cons, List.map_cons, popF, popF, tn_ng]
    by_cases c : tn a b s < least
    · rw [if_pos c, if_pos c]
      exact pop_ng least s (a :: r)
    · rw [if_neg c, if_neg c]
      rfl
theorem fold_ng (least : Int) : ∀ (rows st : List Pt), (rows.map ng).foldl (pushF least) (st.map ng) = (rows.foldl (pushF least) st).map ng
  | [], _ => rfl
  | s :: rows, st => by
    rw [List.map_cons, List.foldl_cons, List.foldl_cons]
    have : pushF least (st.map ng) (ng s) = (pushF least st s).map ng := by
      unfold pushF
      rw [pop_ng]
      rfl
    rw [this]
    exact fold_ng least rows (pushF least st s)
/-! ### the next one on a border -/
theorem crs_par {u v w : Pt} (fu : fwd u) (fv : fwd v) (h : crs u v = 0) (k : 0 < crs u w) : 0 < crs v w := by
  obtain ⟨u1, u2⟩ := u
  obtain ⟨v1, v2⟩ := v
  obtain ⟨w1, w2⟩ := w
  unfold crs fwd at *
  simp only at *
  rcases fv with v0 | ⟨v0, v3⟩
  · have u0 : 0 < u1 := by
      rcases fu with z | ⟨z, y⟩
      · exact z
      · subst z
        have := Int.mul_pos y v0
        omega
    have e : (v1 * w2 - v2 * w1) * u1 = (u1 * w2 - u2 * w1) * v1 - (u1 * v2 - u2 * v1) * w1 := by grind
    rw [h, Int.zero_mul, Int.sub_zero] at e
    have := Int.mul_pos k v0
    exact of_mul_pos (b := u1) (by omega) u0
  · subst v0
    have u0 : u1 = 0 := by
      rcases ltge 0 u1 with z | z
      · have := Int.mul_pos z v3
        omega
      · rcases fu with y | ⟨y, _⟩
        · omega
        · exact y
    subst u0
    have u3 : 0 < u2 := by omega
    have w0 : w1 < 0 := by
      rcases ltge w1 0 with z | z
      · exact z
      · have := mul_nn (Int.le_of_lt u3) z
        omega
    have := Int.mul_neg_of_pos_of_neg v3 w0
    omega
/-- p stands between a and b, in the order of the sites -/
def Btw (a p b : Pt) : Prop := (lt2 a p ∧ lt2 p b) ∨ (lt2 b p ∧ lt2 p a)
/-- no site on the right -/
def Sup (rows : List Pt) (a b : Pt) : Prop := a ∈ rows ∧ b ∈ rows ∧ a ≠ b ∧ ∀ p ∈ rows, 0 ≤ tn a b p
/-- and none on the way -/
def Nxt (rows : List Pt) (a b : Pt) : Prop := Sup rows a b ∧ ∀ p ∈ rows, tn a b p = 0 → ¬ Btw a p b
def NoRow (rows : List Pt) : Prop := ∀ a ∈ rows, ∀ b ∈ rows, a ≠ b → ∃ p ∈ rows, tn a b p ≠ 0
def dist2 (a b : Pt) : Int := (b.1 - a.1) ^ 2 + (b.2 - a.2) ^ 2
theorem sup_line {rows : List Pt} {a b c : Pt} (h : Sup rows a b) (k : Sup rows a c) : tn a b c = 0 := by
  have h1 := h.2.2.2 c k.2.1
  have h2 := k.2.2.2 b h.2.1
  have e : tn a c b = -tn a b c := by
    unfold tn
    grind
  omega
/-- on the same side of a -/
theorem sup_side {rows : List Pt} (nr : NoRow rows) {a b c : Pt} (h : Sup rows a b) (k : Sup rows a c) : ¬ Btw b a c := by
  intro z
  obtain ⟨p, hp, np⟩ := nr a h.1 b h.2.1 h.2.2.1
  have pos : 0 < tn a b p := by
    have := h.2.2.2 p hp
    omega
  have nn := k.2.2.2 p hp
  have l := sup_line h k
  rcases z with ⟨z1, z2⟩ | ⟨z1, z2⟩
  · -- b < a < c
    have e0 : crs (vec b a) (vec a c) = 0 := by
      have : crs (vec b a) (vec a c) = -tn a b c := by
        unfold crs vec tn
        grind
      omega
    have e1 : crs (vec a c) (vec a p) = tn a c p := ((tn_crs a c p).1).symm
    rcases Int.lt_or_eq_of_le nn with q | q
    · have e2 : crs (vec b a) (vec p a) = tn a b p := by
        unfold crs vec tn
        grind
      have := crs_par (w := vec p a) (fwd_vec.mpr z1) (fwd_vec.mpr z2) e0 (by omega)
      have e3 : crs (vec a c) (vec p a) = -tn a c p := by
        unfold crs vec tn
        grind
      omega
    · have e2 : crs (vec b a) (vec p a) = tn a b p := by
        unfold crs vec tn
        grind
      have := crs_par (w := vec p a) (fwd_vec.mpr z1) (fwd_vec.mpr z2) e0 (by omega)
      have e3 : crs (vec a c) (vec p a) = -tn a c p := by
        unfold crs vec tn
        grind
      omega
  · -- c < a < b
    have e0 : crs (vec a b) (vec c a) = 0 := by
      have : crs (vec a b) (vec c a) = -tn a b c := by
        unfold crs vec tn
        grind
      omega
    have e1 : crs (vec a b) (vec a p) = tn a b p := ((tn_crs a b p).1).symm
    have := crs_par (w := vec a p) (fwd_vec.mpr z2) (fwd_vec.mpr z1) e0 (by omega)
    have e3 : crs (vec c a) (vec a p) = -tn a c p := by
      unfold crs vec tn
      grind
    omega
theorem btw_cases {a b c : Pt} (ab : a ≠ b) (ac : a ≠ c) (bc : b ≠ c) : Btw b a c ∨ Btw a b c ∨ Btw a c b := by
  unfold Btw
  rcases lt2_tri ab with x | x <;> rcases lt2_tri ac with y | y <;> rcases lt2_tri bc with z | z <;> first
    | exact .inl (.inl ⟨x, y⟩)
    | exact .inl (.inr ⟨y, x⟩)
    | exact .inr (.inl (.inl ⟨x, z⟩))
    | exact .inr (.inl (.inr ⟨z, x⟩))
    | exact .inr (.inr (.inl ⟨y, z⟩))
    | exact .inr (.inr (.inr ⟨z, y⟩))
/-- on a line, what is between is nearer -/
theorem btw_near {a b c : Pt} (l : tn a b c = 0) (h : Btw a b c) : dist2 a b < dist2 a c := by
  obtain ⟨a1, a2⟩ := a
  obtain ⟨b1, b2⟩ := b
  obtain ⟨c1, c2⟩ := c
  unfold Btw lt2 tn dist2 at *
  simp only at *
  generalize hx : b1 - a1 = x at *
  generalize hy : b2 - a2 = y at *
  generalize hu : c1 - a1 = u at *
  generalize hv : c2 - a2 = v at *
  have l : x * v = y * u := by omega
  have sq : ∀ p q : Int, (0 ≤ p ∧ p ≤ q) ∨ (q ≤ p ∧ p ≤ 0) → p ^ 2 ≤ q ^ 2 := fun p q h => by
    have e : q ^ 2 - p ^ 2 = (q - p) * (q + p) := by grind
    have : 0 ≤ (q - p) * (q + p) := by
      rcases h with ⟨h1, h2⟩ | ⟨h1, h2⟩
      · exact mul_nn (by omega) (by omega)
      · have := mul_nn (show 0 ≤ p - q by omega) (show 0 ≤ -(q + p) by omega)
        grind
    omega
  have sq2 : ∀ p q : Int, (0 ≤ p ∧ p < q) ∨ (q < p ∧ p ≤ 0) → p ^ 2 < q ^ 2 := fun p q h => by
    have e : q ^ 2 - p ^ 2 = (q - p) * (q + p) := by grind
    have : 0 < (q - p) * (q + p) := by
      rcases h with ⟨h1, h2⟩ | ⟨h1, h2⟩
      · exact Int.mul_pos (by omega) (by omega)
      · have := Int.mul_pos (show 0 < p - q by omega) (show 0 < -(q + p) by omega)
        grind
    omega
  have h' : ((0 < x ∨ (x = 0 ∧ 0 < y)) ∧ (x < u ∨ (x = u ∧ y < v))) ∨ ((u < x ∨ (u = x ∧ v < y)) ∧ (x < 0 ∨ (x = 0 ∧ y < 0))) := by omega
  have l2 : (v - y) * x = y * (u - x) := by grind
  clear h
  rcases h' with ⟨h1, h2⟩ | ⟨h2, h1⟩
  · rcases h1 with h1 | ⟨h1, h3⟩
    · rcases h2 with h2 | ⟨h2, h4⟩
      · have q := sq2 x u (.inl ⟨by omega, h2⟩)
        have : y ^ 2 ≤ v ^ 2 := by
          rcases ltge y 0 with z | z
          · have := mul_nn (show 0 ≤ -y by omega) (show 0 ≤ u - x by omega)
            have := of_mul_nn (a := y - v) (b := x) (by grind) h1
            exact sq y v (.inr ⟨by omega, by omega⟩)
          · have := mul_nn z (show 0 ≤ u - x by omega)
            have := of_mul_nn (a := v - y) (b := x) (by omega) h1
            exact sq y v (.inl ⟨z, by omega⟩)
        omega
      · subst h2
        have := Int.mul_pos (show 0 < v - y by omega) h1
        rw [Int.sub_self, Int.mul_zero] at l2
        omega
    · subst h1
      have u0 : u = 0 := by
        rw [Int.mul_zero, Int.sub_zero] at l2
        rcases Int.mul_eq_zero.mp l2.symm with z | z
        · omega
        · exact z
      subst u0
      have := sq2 y v (.inl ⟨by omega, by omega⟩)
      omega
  · rcases h1 with h1 | ⟨h1, h3⟩
    · rcases h2 with h2 | ⟨h2, h4⟩
      · have q := sq2 x u (.inr ⟨h2, by omega⟩)
        have : y ^ 2 ≤ v ^ 2 := by
          rcases ltge y 0 with z | z
          · have := mul_nn (show 0 ≤ -y by omega) (show 0 ≤ x - u by omega)
            have := of_mul_nn (a := y - v) (b := -x) (by grind) (by omega)
            exact sq y v (.inr ⟨by omega, by omega⟩)
          · have := mul_nn z (show 0 ≤ x - u by omega)
            have := of_mul_nn (a := v - y) (b := -x) (by grind) (by omega)
            exact sq y v (.inl ⟨z, by omega⟩)
        omega
      · subst h2
        have := Int.mul_pos (show 0 < y - v by omega) (show 0 < -u by omega)
        rw [Int.sub_self, Int.mul_zero] at l2
        grind
    · subst h1
      have u0 : u = 0 := by
        rw [Int.mul_zero, Int.sub_zero] at l2
        rcases Int.mul_eq_zero.mp l2.symm with z | z
        · omega
        · exact z
      subst u0
      have := sq2 y v (.inr ⟨by omega, by omega⟩)
      omega
/-- the next one is the nearest of those with no site on the right -/
theorem nxt_near {rows : List Pt} (nr : NoRow rows) {a b c : Pt} (h : Nxt rows a b) (k : Sup rows a c) : c = b ∨ dist2 a b < dist2 a c := by
  by_cases e : c = b
  · exact .inl e
  · refine .inr (btw_near (sup_line h.1 k) ?_)
    rcases btw_cases h.1.2.2.1 k.2.2.1 (Ne.symm e) with z | z | z
    · exact absurd z (sup_side nr h.1 k)
    · exact z
    · exact absurd z (h.2 c k.2.1 (sup_line h.1 k))
/-! ### the ring -/
def Pr (R : Pt → Pt → Prop) : List Pt → Prop
  | a :: b :: r => R a b ∧ Pr R (b :: r)
  | _ => True
theorem pr_app {R : Pt → Pt → Prop} : ∀ {l : List Pt} {q : Pt} {u : List Pt}, Pr R (l ++ [q]) → Pr R (q :: u) → Pr R (l ++ q :: u)
  | [], _, _, _, k => k
  | [a], q, u, h, k => ⟨h.1, k⟩
  | a :: b :: l, q, u, h, k => ⟨h.1, pr_app (l := b :: l) h.2 k⟩
theorem pr_rev {R : Pt → Pt → Prop} : ∀ {st : List Pt}, (∀ e ∈ Edg st, R e.2 e.1) → Pr R st.reverse
  | [], _ => True.intro
  | [b], _ => True.intro
  | b :: a :: r, h => by
    have ih : Pr R (a :: r).reverse := pr_rev fun e he => h e (List.mem_cons_of_mem _ he)
    rw [List.reverse_cons] at ih ⊢
    rw [List.reverse_cons, List.append_assoc]
    exact pr_app ih ⟨h (b, a) List.mem_cons_self, True.intro⟩
theorem edg_mem : ∀ (l : List Pt) (e : Pt × Pt), e ∈ Edg l → e.1 ∈ l ∧ e.2 ∈ l
  | [], _, h => nomatch h
  | [_], _, h => nomatch h
  | x :: y :: l, e, h => by
    rcases List.mem_cons.mp (show e ∈ (x, y) :: Edg (y :: l) from h) with rfl | h
    · exact ⟨List.mem_cons_self, List.mem_cons_of_mem _ List.mem_cons_self⟩
    · have := edg_mem (y :: l) e h
      exact ⟨List.mem_cons_of_mem _ this.1, List.mem_cons_of_mem _ this.2⟩
theorem edg_lt : ∀ (l : List Pt), l.Pairwise (fun x y => lt2 y x) → ∀ e ∈ Edg l, lt2 e.2 e.1
  | [], _, _, h => nomatch h
  | [_], _, _, h => nomatch h
  | x :: y :: l, so, e, h => by
    rcases List.mem_cons.mp (show e ∈ (x, y) :: Edg (y :: l) from h) with rfl | h
    · exact (List.pairwise_cons.mp so).1 y List.mem_cons_self
    · exact edg_lt (y :: l) (List.pairwise_cons.mp so).2 e h
theorem edg_map (f : Pt → Pt) : ∀ (l : List Pt) (e : Pt × Pt), e ∈ Edg l → (f e.1, f e.2) ∈ Edg (l.map f)
  | [], _, h => nomatch h
  | [_], _, h => nomatch h
  | x :: y :: l, e, h => by
    rcases List.mem_cons.mp (show e ∈ (x, y) :: Edg (y :: l) from h) with rfl | h
    · exact List.mem_cons_self
    · exact List.mem_cons_of_mem _ (edg_map f (y :: l) e h)
def stk (least : Int) (rows : List Pt) : List Pt := rows.foldl (pushF least) []
theorem stk_cons (least : Int) (p0 : Pt) (rows : List Pt) : stk least (p0 :: rows) = rows.foldl (pushF least) [p0] := rfl
theorem stk_ng (least : Int) (rows : List Pt) : stk least (rows.map ng) = (stk least rows).map ng := fold_ng least rows []
theorem fold_ne (least : Int) : ∀ (rows st : List Pt), st ≠ [] → rows.foldl (pushF least) st ≠ []
  | [], _, h => h
  | s :: rows, st, _ => fold_ne least rows (pushF least st s) (by unfold pushF; simp)
/-- each edge of a chain leads to the next one on the border -/
theorem stk_nxt {rows : List Pt} (so : rows.Pairwise lt2) : ∀ e ∈ Edg (stk 0 rows), Nxt rows e.2 e.1 := by
  cases rows with
  | nil => intro e h; cases h
  | cons p0 rows =>
    intro e he
    have c := chn_all (least := 0) (by decide) (by decide) rows p0 so
    have o := off_all rows p0 so
    have lt := edg_lt _ c.srt e he
    have m := edg_mem _ e he
    refine ⟨⟨c.sub _ m.2, c.sub _ m.1, fun z => lt2_irr (z ▸ lt), c.low e he⟩, fun p hp z q => ?_⟩
    rcases q with ⟨q1, q2⟩ | ⟨q1, q2⟩
    · have := o e he p hp q1 q2
      omega
    · exact lt2_irr (lt2_tr (lt2_tr q1 q2) lt)
theorem nxt_ng {rows : List Pt} {a b : Pt} (h : Nxt (rows.reverse.map ng) (ng a) (ng b)) : Nxt rows a b := by
  have inj : ∀ {x y : Pt}, ng x = ng y → x = y := fun {x y} e => by rw [← ng_ng x, e, ng_ng]
  have mem : ∀ x, ng x ∈ rows.reverse.map ng → x ∈ rows := fun x hx => by
    obtain ⟨y, my, e⟩ := List.mem_map.mp hx
    rw [← inj e]
    exact List.mem_reverse.mp my
  have mem2 : ∀ x ∈ rows, ng x ∈ rows.reverse.map ng := fun x hx => List.mem_map.mpr ⟨x, List.mem_reverse.mpr hx, rfl⟩
  obtain ⟨⟨h1, h2, h3, h4⟩, h5⟩ := h
  refine ⟨⟨mem a h1, mem b h2, fun z => h3 (by rw [z]), fun p hp => ?_⟩, fun p hp z q => ?_⟩
  · rw [← tn_ng]
    exact h4 _ (mem2 p hp)
  · refine h5 (ng p) (mem2 p hp) (by rw [tn_ng]; exact z) ?_
    rcases q with ⟨q1, q2⟩ | ⟨q1, q2⟩
    · exact .inr ⟨lt2_ng.mpr q2, lt2_ng.mpr q1⟩
    · exact .inl ⟨lt2_ng.mpr q2, lt2_ng.mpr q1⟩
theorem rev_srt {rows : List Pt} (so : rows.Pairwise lt2) : (rows.reverse.map ng).Pairwise lt2 := by
  rw [List.pairwise_map, List.pairwise_reverse]
  exact so.imp fun h => lt2_ng.mpr h
theorem stk_nxt_rev {rows : List Pt} (so : rows.Pairwise lt2) : ∀ e ∈ Edg (stk 0 rows.reverse), Nxt rows e.2 e.1 := fun e he => by
  refine nxt_ng (stk_nxt (rev_srt so) (ng e.1, ng e.2) ?_)
  rw [stk_ng]
  exact edg_map ng _ e he
/-- the ends of a chain -/
theorem stk_ends {least : Int} (l0 : 0 ≤ least) (l1 : least ≤ 1) {rows : List Pt} {p0 q : Pt} (so : rows.Pairwise lt2) (h0 : rows.head? = some p0) (hq : rows.getLast? = some q) (n2 : p0 ≠ q) : ∃ m, stk least rows = q :: (m ++ [p0]) ∧ ∀ x ∈ m, lt2 p0 x ∧ lt2 x q := by
  cases rows with
  | nil => cases h0
  | cons r0 rows =>
    obtain rfl := Option.some.inj h0
    have c := chn_all l0 l1 rows r0 so
    rw [stk_cons]
    have ne := fold_ne least rows [r0] (by simp)
    generalize rows.foldl (pushF least) [r0] = S at c ne
    have r0in : r0 ∈ r0 :: rows := List.mem_cons_self
    have first : ∀ p ∈ r0 :: rows, p = r0 ∨ lt2 r0 p := fun p hp => by
      rcases List.mem_cons.mp hp with e | m
      · exact .inl e
      · exact .inr ((List.pairwise_cons.mp so).1 p m)
    have last : ∀ p ∈ r0 :: rows, p = q ∨ lt2 p q := fun p hp => by
      obtain ⟨ys, ey⟩ := List.getLast?_eq_some_iff.mp hq
      rw [ey] at hp so
      rcases List.mem_append.mp hp with m | m
      · exact .inr ((List.pairwise_append.mp so).2.2 p m q (List.mem_singleton.mpr rfl))
      · exact .inl (List.mem_singleton.mp m)
    have qin : q ∈ r0 :: rows := List.mem_of_getLast? hq
    cases S with
    | nil => exact absurd rfl ne
    | cons t S =>
      have ht : t = q := by
        rcases c.top q qin t rfl with e | z
        · exact e.symm
        · rcases last t (c.sub t List.mem_cons_self) with e | y
          · exact e
          · exact absurd (lt2_tr z y) lt2_irr
      subst ht
      rcases List.eq_nil_or_concat S with rfl | ⟨m, b, rfl⟩
      · exfalso
        rcases c.bot r0 r0in t rfl with e | z
        · exact n2 e
        · rcases last r0 r0in with e | y
          · exact n2 e
          · exact lt2_irr (lt2_tr z y)
      · rw [List.concat_eq_append] at c ⊢
        have hb : b = r0 := by
          have gl : (t :: (m ++ [b])).getLast? = some b := by
            rw [← List.cons_append, List.getLast?_append]
            rfl
          rcases c.bot r0 r0in b gl with e | z
          · exact e.symm
          · rcases first b (c.sub b (List.mem_cons_of_mem _ (List.mem_append_right _ (List.mem_singleton.mpr rfl)))) with e | y
            · exact e
            · exact absurd (lt2_tr z y) lt2_irr
        subst hb
        refine ⟨m, rfl, fun x hx => ⟨?_, (List.pairwise_cons.mp c.srt).1 x (List.mem_append_left _ hx)⟩⟩
        exact (List.pairwise_append.mp (List.pairwise_cons.mp c.srt).2).2.2 x hx b (List.mem_singleton.mpr rfl)
/-- the border as the program tells it, closed: from the least site on, each one's next one, and back -/
theorem ring {rows : List Pt} {p0 q : Pt} (so : rows.Pairwise lt2) (h0 : rows.head? = some p0) (hq : rows.getLast? = some q) (n2 : p0 ≠ q) :
    ∃ mid, (stk 0 rows).reverse.dropLast ++ (stk 0 rows.reverse).reverse.dropLast = p0 :: mid ∧ p0 ∉ mid ∧ Pr (Nxt rows) (p0 :: mid ++ [p0]) := by
  obtain ⟨m, e, hm⟩ := stk_ends (by decide) (by decide) (least := 0) so h0 hq n2
  have so' := rev_srt so
  obtain ⟨m', e', hm'⟩ := stk_ends (by decide) (by decide) (least := 0) so' (p0 := ng q) (q := ng p0) (by rw [List.head?_map, List.head?_reverse, hq]; rfl) (by rw [List.getLast?_map, List.getLast?_reverse, h0]; rfl) (fun z => n2 (by rw [← ng_ng p0, ← ng_ng q, z]))
  have e2 : stk 0 rows.reverse = p0 :: (m'.map ng ++ [q]) := by
    have := congrArg (List.map ng) e'
    rw [← stk_ng, List.map_map, show (ng ∘ ng) = id from funext ng_ng, List.map_id, List.map_cons, List.map_append, List.map_cons, List.map_nil, ng_ng, ng_ng] at this
    exact this
  have k1 := pr_rev (stk_nxt so)
  have k2 := pr_rev (stk_nxt_rev so)
  rw [e] at k1 ⊢
  rw [e2] at k2 ⊢
  have r1 : (q :: (m ++ [p0])).reverse = (p0 :: m.reverse) ++ [q] := by simp
  have r2 : (p0 :: (m'.map ng ++ [q])).reverse = q :: ((m'.map ng).reverse ++ [p0]) := by simp
  rw [r1] at k1 ⊢
  rw [r2] at k2 ⊢
  refine ⟨m.reverse ++ q :: (m'.map ng).reverse, ?_, fun z => ?_, ?_⟩
  · rw [List.dropLast_concat, show q :: ((m'.map ng).reverse ++ [p0]) = (q :: (m'.map ng).reverse) ++ [p0] from rfl, List.dropLast_concat]
    rfl
  · rcases List.mem_append.mp z with z | z
    · exact lt2_irr (hm p0 (List.mem_reverse.mp z)).1
    · rcases List.mem_cons.mp z with z | z
      · exact n2 z
      · obtain ⟨x, hx, ex⟩ := List.mem_map.mp (List.mem_reverse.mp z)
        have := (hm' x hx).2
        rw [← ex, ng_ng] at this
        exact lt2_irr this
  · have := pr_app k1 k2
    simpa using this
/-! ### one ring alone -/
theorem nxt_uniq {rows : List Pt} (nr : NoRow rows) {a b c : Pt} (h : Nxt rows a b) (k : Nxt rows a c) : b = c := by
  rcases nxt_near nr h k.1 with e | z
  · exact e.symm
  · rcases nxt_near nr k h.1 with e | y
    · exact e
    · omega
theorem pr_tail {R : Pt → Pt → Prop} : ∀ (l : List Pt) {m : List Pt}, Pr R (l ++ m) → Pr R m
  | [], _, h => h
  | [a], m, h => by
    cases m with
    | nil => exact True.intro
    | cons b m => exact h.2
  | a :: b :: l, m, h => pr_tail (b :: l) h.2
theorem ring_det {R : Pt → Pt → Prop} (fn : ∀ a b c, R a b → R a c → b = c) {p : Pt} : ∀ (s1 s2 : List Pt) (x : Pt), Pr R (x :: (s1 ++ [p])) → Pr R (x :: (s2 ++ [p])) → p ∉ s1 → p ∉ s2 → s1 = s2
  | [], [], _, _, _, _, _ => rfl
  | [], z :: s2, x, h, k, _, n => by
    have : p = z := fn x p z h.1 k.1
    exact absurd (this ▸ List.mem_cons_self) n
  | y :: s1, [], x, h, k, n, _ => by
    have : y = p := fn x y p h.1 k.1
    exact absurd (this ▸ List.mem_cons_self) n
  | y :: s1, z :: s2, x, h, k, n1, n2 => by
    have e : y = z := fn x y z h.1 k.1
    subst e
    rw [ring_det fn s1 s2 y h.2 k.2 (fun m => n1 (List.mem_cons_of_mem _ m)) (fun m => n2 (List.mem_cons_of_mem _ m))]
theorem ring_nodup {R : Pt → Pt → Prop} (fn : ∀ a b c, R a b → R a c → b = c) {p : Pt} : ∀ (s : List Pt) (x : Pt), Pr R (x :: (s ++ [p])) → p ∉ s → (x :: s).Nodup
  | s, x, h, n => by
    refine List.nodup_cons.mpr ⟨fun m => ?_, ?_⟩
    · obtain ⟨B, D, rfl⟩ := List.append_of_mem m
      have k : Pr R (x :: (D ++ [p])) := by
        have e : x :: (B ++ x :: D ++ [p]) = (x :: B) ++ x :: (D ++ [p]) := by simp
        rw [e] at h
        exact pr_tail _ h
      have := congrArg List.length (ring_det fn _ D x h k n fun m => n (List.mem_append_right _ (List.mem_cons_of_mem _ m)))
      rw [List.length_append, List.length_cons] at this
      omega
    · cases s with
      | nil => exact List.nodup_nil
      | cons y s => exact ring_nodup fn s y h.2 fun m => n (List.mem_cons_of_mem _ m)
/-- whatever has the ring's ends and goes from next one to next one is this ring -/
theorem ring_is {rows : List Pt} (nr : NoRow rows) {p0 : Pt} {mid m2 : List Pt} (h : Pr (Nxt rows) (p0 :: (mid ++ [p0]))) (k : Pr (Nxt rows) (p0 :: (m2 ++ [p0]))) (n1 : p0 ∉ mid) (n2 : p0 ∉ m2) : mid = m2 :=
  ring_det (R := Nxt rows) (fun _ _ _ => nxt_uniq nr) mid m2 p0 h k n1 n2
/-- a line through two sites that has all on it has all in a row -/
theorem noRow_of {rows : List Pt} {p0 q : Pt} (h0 : p0 ∈ rows) (hq : q ∈ rows) (n2 : p0 ≠ q) (ne : ∃ p ∈ rows, tn p0 q p ≠ 0) : NoRow rows := by
  intro a ha b hb nab
  obtain ⟨p, hp, np⟩ := ne
  refine Classical.byContradiction fun all => ?_
  have all : ∀ p ∈ rows, tn a b p = 0 := fun p hp => Classical.byContradiction fun z => all ⟨p, hp, z⟩
  have e1 := all p0 h0
  have e2 := all q hq
  have e3 := all p hp
  -- three on one line
  have key : tn p0 q p * (b.1 - a.1) = 0 ∧ tn p0 q p * (b.2 - a.2) = 0 := by
    unfold tn at *
    constructor <;> grind
  have : b.1 - a.1 = 0 ∧ b.2 - a.2 = 0 := ⟨by
    rcases Int.mul_eq_zero.mp key.1 with z | z
    · exact absurd z np
    · exact z, by
    rcases Int.mul_eq_zero.mp key.2 with z | z
    · exact absurd z np
    · exact z⟩
  exact nab (Prod.ext (by omega) (by omega))
/-! ### corners -/
/-- the next corner: no site on the right, none beyond on the line -/
def NxC (rows : List Pt) (a b : Pt) : Prop := Sup rows a b ∧ ∀ p ∈ rows, tn a b p = 0 → p = a ∨ p = b ∨ Btw a p b
theorem edg_split : ∀ {S : List Pt} {e : Pt × Pt}, e ∈ Edg S → ∃ l r, S = l ++ e.1 :: e.2 :: r
  | [], _, h => nomatch h
  | [_], _, h => nomatch h
  | x :: y :: l, e, h => by
    rcases List.mem_cons.mp (show e ∈ (x, y) :: Edg (y :: l) from h) with rfl | h
    · exact ⟨[], l, rfl⟩
    · obtain ⟨m, r, k⟩ := edg_split (S := y :: l) h
      exact ⟨x :: m, r, by rw [k]; rfl⟩
theorem edg_of : ∀ (l : List Pt) (b a : Pt) (r : List Pt), (b, a) ∈ Edg (l ++ b :: a :: r)
  | [], _, _, _ => List.mem_cons_self
  | [x], b, a, r => List.mem_cons_of_mem _ List.mem_cons_self
  | x :: y :: l, b, a, r => List.mem_cons_of_mem _ (edg_of (y :: l) b a r)
theorem cvx_suf {least : Int} : ∀ (l : List Pt) {m : List Pt}, Cvx least (l ++ m) → Cvx least m
  | [], _, h => h
  | x :: l, m, h => by
    refine cvx_suf l ?_
    have h : Cvx least (x :: (l ++ m)) := h
    generalize l ++ m = k at h
    match k, h with
    | [], _ => exact True.intro
    | [_], _ => exact True.intro
    | [_, _], h => exact True.intro
    | a :: b :: c :: k, h => exact h.2
theorem edg_up {least : Int} {S : List Pt} (cv : Cvx least S) {e : Pt × Pt} (he : e ∈ Edg S) : S.head? = some e.1 ∨ ∃ c, (c, e.1) ∈ Edg S ∧ least ≤ tn e.2 e.1 c := by
  obtain ⟨l, r, rfl⟩ := edg_split he
  rcases List.eq_nil_or_concat l with rfl | ⟨l, c, rfl⟩
  · exact .inl rfl
  · rw [List.concat_eq_append, List.append_assoc] at *
    exact .inr ⟨c, edg_of l c e.1 (e.2 :: r), (cvx_suf l cv).1⟩
theorem edg_dn {least : Int} {S : List Pt} (cv : Cvx least S) {e : Pt × Pt} (he : e ∈ Edg S) : S.getLast? = some e.2 ∨ ∃ z, (e.2, z) ∈ Edg S ∧ least ≤ tn z e.2 e.1 := by
  obtain ⟨l, r, rfl⟩ := edg_split he
  cases r with
  | nil =>
    left
    rw [List.getLast?_append]
    rfl
  | cons z r =>
    refine .inr ⟨z, ?_, (cvx_suf l cv).1⟩
    have e2 : l ++ e.1 :: e.2 :: z :: r = (l ++ [e.1]) ++ e.2 :: z :: r := by simp
    rw [e2]
    exact edg_of _ _ _ _
/-- strictly over -/
theorem over_next_lt {a b c p : Pt} (ab : lt2 a b) (bc : lt2 b c) (bp : lt2 b p) (h : 0 < tn a b c) (k : 0 ≤ tn b c p) : 0 < tn a b p := by
  rw [(tn_crs a b c).2.1] at h
  rw [(tn_crs b c p).1] at k
  rw [(tn_crs a b p).2.1]
  exact crs_tr_lt (fwd_vec.mpr ab) (fwd_vec.mpr bc) (fwd_vec.mpr bp) h k
theorem crs_tr_lt2 {u v w : Pt} (fu : fwd u) (fv : fwd v) (fw : fwd w) (h : 0 ≤ crs u v) (k : 0 < crs v w) : 0 < crs u w := by
  rcases Int.lt_or_eq_of_le h with q | q
  · exact crs_tr_lt fu fv fw q (Int.le_of_lt k)
  · have e : crs v u = 0 := by rw [crs_neg, ← q]; rfl
    exact crs_par fv fu e k
theorem over_prev_lt {z a b p : Pt} (za : lt2 z a) (ab : lt2 a b) (pa : lt2 p a) (h : 0 < tn z a b) (k : 0 ≤ tn z a p) : 0 < tn a b p := by
  rw [(tn_crs z a b).2.1] at h
  have k2 : 0 ≤ crs (vec p a) (vec z a) := by
    have : tn z a p = crs (vec p a) (vec z a) := by
      unfold tn crs vec
      grind
    omega
  have t := crs_tr_lt2 (fwd_vec.mpr pa) (fwd_vec.mpr za) (fwd_vec.mpr ab) k2 h
  have : tn a b p = crs (vec p a) (vec a b) := by
    unfold tn crs vec
    grind
  omega
theorem stk_nxc {rows : List Pt} (so : rows.Pairwise lt2) : ∀ e ∈ Edg (stk 1 rows), NxC rows e.2 e.1 := by
  cases rows with
  | nil => intro e h; cases h
  | cons p0 rows =>
    intro e he
    have c := chn_all (least := 1) (by decide) (by decide) rows p0 so
    have lt := edg_lt _ c.srt e he
    have m := edg_mem _ e he
    refine ⟨⟨c.sub _ m.2, c.sub _ m.1, fun z => lt2_irr (z ▸ lt), c.low e he⟩, fun p hp z => ?_⟩
    by_cases pa : p = e.2
    · exact .inl pa
    by_cases pb : p = e.1
    · exact .inr (.inl pb)
    refine .inr (.inr ?_)
    have below : lt2 p e.1 := by
      rcases lt2_tri pb with q | q
      · exact q
      · exfalso
        rcases edg_up c.cvx he with hd | ⟨d, hd, k⟩
        · rcases c.top p hp e.1 hd with w | w
          · exact pb w
          · exact lt2_irr (lt2_tr w q)
        · have := over_next_lt (a := e.2) (b := e.1) (c := d) lt (edg_lt _ c.srt _ hd) q (by omega) (c.low _ hd p hp)
          omega
    have above : lt2 e.2 p := by
      rcases lt2_tri pa with q | q
      · exfalso
        rcases edg_dn c.cvx he with hd | ⟨d, hd, k⟩
        · rcases c.bot p hp e.2 hd with w | w
          · exact pa w
          · exact lt2_irr (lt2_tr w q)
        · have := over_prev_lt (z := d) (a := e.2) (b := e.1) (p := p) (edg_lt _ c.srt _ hd) lt q (by omega) (c.low _ hd p hp)
          omega
      · exact q
    exact .inl ⟨above, below⟩
theorem nxc_ng {rows : List Pt} {a b : Pt} (h : NxC (rows.reverse.map ng) (ng a) (ng b)) : NxC rows a b := by
  have inj : ∀ {x y : Pt}, ng x = ng y → x = y := fun {x y} e => by rw [← ng_ng x, e, ng_ng]
  have mem : ∀ x, ng x ∈ rows.reverse.map ng → x ∈ rows := fun x hx => by
    obtain ⟨y, my, e⟩ := List.mem_map.mp hx
    rw [← inj e]
    exact List.mem_reverse.mp my
  have mem2 : ∀ x ∈ rows, ng x ∈ rows.reverse.map ng := fun x hx => List.mem_map.mpr ⟨x, List.mem_reverse.mpr hx, rfl⟩
  obtain ⟨⟨h1, h2, h3, h4⟩, h5⟩ := h
  refine ⟨⟨mem a h1, mem b h2, fun z => h3 (by rw [z]), fun p hp => ?_⟩, fun p hp z => ?_⟩
  · rw [← tn_ng]
    exact h4 _ (mem2 p hp)
  · rcases h5 (ng p) (mem2 p hp) (by rw [tn_ng]; exact z) with q | q | q
    · exact .inl (inj q)
    · exact .inr (.inl (inj q))
    · refine .inr (.inr ?_)
      rcases q with ⟨q1, q2⟩ | ⟨q1, q2⟩
      · exact .inr ⟨lt2_ng.mp q2, lt2_ng.mp q1⟩
      · exact .inl ⟨lt2_ng.mp q2, lt2_ng.mp q1⟩
theorem stk_nxc_rev {rows : List Pt} (so : rows.Pairwise lt2) : ∀ e ∈ Edg (stk 1 rows.reverse), NxC rows e.2 e.1 := fun e he => by
  refine nxc_ng (stk_nxc (rev_srt so) (ng e.1, ng e.2) ?_)
  rw [stk_ng]
  exact edg_map ng _ e he
/-- the corners as the program tells them, closed -/
theorem ringC {rows : List Pt} {p0 q : Pt} (so : rows.Pairwise lt2) (h0 : rows.head? = some p0) (hq : rows.getLast? = some q) (n2 : p0 ≠ q) :
    ∃ mid, (stk 1 rows).reverse.dropLast ++ (stk 1 rows.reverse).reverse.dropLast = p0 :: mid ∧ p0 ∉ mid ∧ Pr (NxC rows) (p0 :: mid ++ [p0]) := by
  obtain ⟨m, e, hm⟩ := stk_ends (by decide) (by decide) (least := 1) so h0 hq n2
  have so' := rev_srt so
  obtain ⟨m', e', hm'⟩ := stk_ends (by decide) (by decide) (least := 1) so' (p0 := ng q) (q := ng p0) (by rw [List.head?_map, List.head?_reverse, hq]; rfl) (by rw [List.getLast?_map, List.getLast?_reverse, h0]; rfl) (fun z => n2 (by rw [← ng_ng p0, ← ng_ng q, z]))
  have e2 : stk 1 rows.reverse = p0 :: (m'.map ng ++ [q]) := by
    have := congrArg (List.map ng) e'
    rw [← stk_ng, List.map_map, show (ng ∘ ng) = id from funext ng_ng, List.map_id, List.map_cons, List.map_append, List.map_cons, List.map_nil, ng_ng, ng_ng] at this
    exact this
  have k1 := pr_rev (stk_nxc so)
  have k2 := pr_rev (stk_nxc_rev so)
  rw [e] at k1 ⊢
  rw [e2] at k2 ⊢
  have r1 : (q :: (m ++ [p0])).reverse = (p0 :: m.reverse) ++ [q] := by simp
  have r2 : (p0 :: (m'.map ng ++ [q])).reverse = q :: ((m'.map ng).reverse ++ [p0]) := by simp
  rw [r1] at k1 ⊢
  rw [r2] at k2 ⊢
  refine ⟨m.reverse ++ q :: (m'.map ng).reverse, ?_, fun z => ?_, ?_⟩
  · rw [List.dropLast_concat, show q :: ((m'.map ng).reverse ++ [p0]) = (q :: (m'.map ng).reverse) ++ [p0] from rfl, List.dropLast_concat]
    rfl
  · rcases List.mem_append.mp z with z | z
    · exact lt2_irr (hm p0 (List.mem_reverse.mp z)).1
    · rcases List.mem_cons.mp z with z | z
      · exact n2 z
      · obtain ⟨x, hx, ex⟩ := List.mem_map.mp (List.mem_reverse.mp z)
        have := (hm' x hx).2
        rw [← ex, ng_ng] at this
        exact lt2_irr this
  · have := pr_app k1 k2
    simpa using this
/-- just one corner is next -/
theorem nxc_uniq {rows : List Pt} (nr : NoRow rows) {a b c : Pt} (h : NxC rows a b) (k : NxC rows a c) : b = c := by
  refine Classical.byContradiction fun n => ?_
  have l := sup_line h.1 k.1
  have l2 : tn a c b = 0 := by
    have : tn a c b = -tn a b c := by
      unfold tn
      grind
    omega
  rcases h.2 c k.1.2.1 l with e | e | z
  · exact k.1.2.2.1 e.symm
  · exact n e.symm
  · rcases k.2 b h.1.2.1 l2 with e | e | y
    · exact h.1.2.2.1 e.symm
    · exact n e
    · unfold Btw at *
      rcases z with ⟨z1, z2⟩ | ⟨z1, z2⟩ <;> rcases y with ⟨y1, y2⟩ | ⟨y1, y2⟩
      · exact lt2_irr (lt2_tr z2 y2)
      · exact lt2_irr (lt2_tr (lt2_tr z1 z2) y2)
      · exact lt2_irr (lt2_tr (lt2_tr z1 z2) y1)
      · exact lt2_irr (lt2_tr z1 y1)
/-! ### lines over a way from 0 to 1, the lowest one -/
abbrev Ln := Int × Int
def lv (l : Ln) (t : Rat) : Rat := (l.1 : Rat) + (l.2 : Rat) * t
def Below (Ls : List Ln) (l : Ln) (a b : Rat) : Prop := ∀ m, a < m → m < b → ∀ x ∈ Ls, x ≠ l → lv l m < lv x m
/-- lowest at t, and just behind it -/
def Lead (Ls : List Ln) (l : Ln) (t : Rat) : Prop := ∀ x ∈ Ls, lv l t < lv x t ∨ (lv l t = lv x t ∧ l.2 ≤ x.2)
def Env (Ls : List Ln) : Rat → Ln → List (Rat × Ln) → Prop
  | t, l, [] => t < 1 ∧ Lead Ls l t ∧ Below Ls l t 1
  | t, l, (u, k) :: r => t < u ∧ Lead Ls l t ∧ Below Ls l t u ∧ l ≠ k ∧ lv l u = lv k u ∧ k ∈ Ls ∧ Env Ls u k r
/-- from t on l is the lowest one, as long as no other one that falls faster is met -/
theorem below_of_lead {Ls : List Ln} {l : Ln} {t u : Rat} (h : Lead Ls l t) (hl : l ∈ Ls) (c : ∀ x ∈ Ls, x.2 < l.2 → lv l u ≤ lv x u) : Below Ls l t u := by
  intro m h1 h2 x hx ne
  by_cases s : x.2 < l.2
  · have h3 := c x hx s
    rcases h x hx with e | ⟨e, f⟩
    · unfold lv at *
      have s' : (x.2 : Rat) < (l.2 : Rat) := by exact_mod_cast s
      have k : ((l.2 : Rat) - x.2) * (u - m) > 0 := Rat.mul_pos (by grind) (by grind)
      grind
    · omega
  · have s' : (l.2 : Rat) ≤ (x.2 : Rat) := by exact_mod_cast (show l.2 ≤ x.2 by omega)
    have k0 : 0 ≤ ((x.2 : Rat) - l.2) * (m - t) := Rat.mul_nonneg (by grind) (by grind)
    rcases h x hx with e | ⟨e, f⟩
    · unfold lv at *
      grind
    · have n : x.2 ≠ l.2 := fun z => ne (by
        unfold lv at e
        have e1 : (x.1 : Rat) = (l.1 : Rat) := by grind
        have e1 : x.1 = l.1 := by exact_mod_cast e1
        exact Prod.ext e1 z)
      have s2 : (l.2 : Rat) < (x.2 : Rat) := by exact_mod_cast (show l.2 < x.2 by omega)
      have k : ((x.2 : Rat) - l.2) * (m - t) > 0 := Rat.mul_pos (by grind) (by grind)
      unfold lv at *
      grind
/-- where k is the first one that is met, it leads -/
theorem lead_next {Ls : List Ln} {l k : Ln} {t u : Rat} (h : Lead Ls l t) (tu : t < u) (e : lv l u = lv k u) (kl : k.2 < l.2) (c : ∀ x ∈ Ls, x.2 < l.2 → lv l u < lv x u ∨ (lv l u = lv x u ∧ k.2 ≤ x.2)) : Lead Ls k u := by
  intro x hx
  by_cases s : x.2 < l.2
  · rcases c x hx s with q | ⟨q, r⟩
    · exact .inl (by grind)
    · exact .inr ⟨by grind, r⟩
  · have s' : (l.2 : Rat) ≤ (x.2 : Rat) := by exact_mod_cast (show l.2 ≤ x.2 by omega)
    have k0 : 0 ≤ ((x.2 : Rat) - l.2) * (u - t) := Rat.mul_nonneg (by grind) (by grind)
    have le : lv l u ≤ lv x u := by
      rcases h x hx with q | ⟨q, r⟩
      · unfold lv at *
        grind
      · unfold lv at *
        grind
    by_cases q : lv l u = lv x u
    · exact .inr ⟨by grind, by omega⟩
    · exact .inl (by grind)
/-! the program's own look for the next line -/
def nextStep (l : Ln) (acc : Int × Int × Ln) (o : Ln) : Int × Int × Ln :=
  if o.2 < l.2 then
    if (o.1 - l.1) * acc.2.1 - acc.1 * (l.2 - o.2) < 0 ∨ ((o.1 - l.1) * acc.2.1 - acc.1 * (l.2 - o.2) = 0 ∧ o.2 < acc.2.2.2) then (o.1 - l.1, l.2 - o.2, o) else acc
  else acc
def nextLine (Ls : List Ln) (l : Ln) : Int × Int × Ln := Ls.foldl (nextStep l) (1, 1, l)
/-- what stands behind some of the lines -/
structure NextInv (Ls : List Ln) (l : Ln) (a : Int × Int × Ln) : Prop where
  pos : 0 < a.2.1
  is : a = (1, 1, l) ∨ (a.2.2 ∈ Ls ∧ a.2.2.2 < l.2 ∧ a = (a.2.2.1 - l.1, l.2 - a.2.2.2, a.2.2))
  all : ∀ o ∈ Ls, o.2 < l.2 → a.1 * (l.2 - o.2) < (o.1 - l.1) * a.2.1 ∨ (a.1 * (l.2 - o.2) = (o.1 - l.1) * a.2.1 ∧ a.2.2.2 ≤ o.2)
/-- fractions: a < b and b ≤ c -/
theorem fr_lt_le {a1 a2 b1 b2 c1 c2 : Int} (ha : 0 < a2) (hb : 0 < b2) (hc : 0 < c2) (h1 : a1 * b2 < b1 * a2) (h2 : b1 * c2 ≤ c1 * b2) : a1 * c2 < c1 * a2 := by
  have e1 : a1 * b2 * c2 < b1 * a2 * c2 := Int.mul_lt_mul_of_pos_right h1 hc
  have e2 : b1 * c2 * a2 ≤ c1 * b2 * a2 := Int.mul_le_mul_of_nonneg_right h2 (by omega)
  have e3 : (a1 * c2) * b2 < (c1 * a2) * b2 := by grind
  exact Int.lt_of_mul_lt_mul_right e3 (by omega)
theorem fr_eq_le {a1 a2 b1 b2 c1 c2 : Int} (ha : 0 < a2) (hb : 0 < b2) (hc : 0 < c2) (h1 : a1 * b2 = b1 * a2) (h2 : b1 * c2 ≤ c1 * b2) : a1 * c2 ≤ c1 * a2 := by
  have e1 : a1 * b2 * c2 = b1 * a2 * c2 := by rw [h1]
  have e2 : b1 * c2 * a2 ≤ c1 * b2 * a2 := Int.mul_le_mul_of_nonneg_right h2 (by omega)
  have e3 : (a1 * c2) * b2 ≤ (c1 * a2) * b2 := by grind
  exact Int.le_of_mul_le_mul_right e3 hb
theorem next_inv {l : Ln} (Ls done : List Ln) (a : Int × Int × Ln) (h : NextInv done l a) : NextInv (done ++ Ls) l (Ls.foldl (nextStep l) a) := by
  induction Ls generalizing done a with
  | nil => rw [List.append_nil]; exact h
  | cons o r ih =>
    have step : NextInv (done ++ [o]) l (nextStep l a o) := by
      unfold nextStep
      by_cases s : o.2 < l.2
      · rw [if_pos s]
        by_cases c : (o.1 - l.1) * a.2.1 - a.1 * (l.2 - o.2) < 0 ∨ ((o.1 - l.1) * a.2.1 - a.1 * (l.2 - o.2) = 0 ∧ o.2 < a.2.2.2)
        · rw [if_pos c]
          refine ⟨by show 0 < l.2 - o.2; omega, .inr ⟨List.mem_append_right _ (List.mem_singleton.mpr rfl), s, rfl⟩, fun x hx sx => ?_⟩
          show (o.1 - l.1) * (l.2 - x.2) < (x.1 - l.1) * (l.2 - o.2) ∨ ((o.1 - l.1) * (l.2 - x.2) = (x.1 - l.1) * (l.2 - o.2) ∧ o.2 ≤ x.2)
          rcases List.mem_append.mp hx with m | m
          · have hx := h.all x m sx
            rcases c with c | ⟨c, d⟩
            · refine .inl (fr_lt_le (b1 := a.1) (b2 := a.2.1) (by omega) h.pos (by omega) (by omega) ?_)
              rcases hx with q | ⟨q, _⟩ <;> omega
            · rcases hx with q | ⟨q, r⟩
              · left
                have := fr_lt_le (a1 := -(x.1 - l.1)) (a2 := l.2 - x.2) (b1 := -a.1) (b2 := a.2.1) (c1 := -(o.1 - l.1)) (c2 := l.2 - o.2) (by omega) h.pos (by omega) (by rw [Int.neg_mul, Int.neg_mul]; omega) (by rw [Int.neg_mul, Int.neg_mul]; omega)
                rw [Int.neg_mul, Int.neg_mul] at this
                omega
              · right
                refine ⟨?_, by omega⟩
                have e1 : (o.1 - l.1) * a.2.1 = a.1 * (l.2 - o.2) := by omega
                have e2 : ((o.1 - l.1) * (l.2 - x.2)) * a.2.1 = ((x.1 - l.1) * (l.2 - o.2)) * a.2.1 := by grind
                exact Int.eq_of_mul_eq_mul_right (by have := h.pos; omega) e2
          · have e := List.mem_singleton.mp m
            subst e
            exact .inr ⟨rfl, Int.le_refl _⟩
        · rw [if_neg c]
          refine ⟨h.pos, ?_, fun x hx sx => ?_⟩
          · rcases h.is with q | ⟨q, r, e⟩
            · exact .inl q
            · exact .inr ⟨List.mem_append_left _ q, r, e⟩
          · rcases List.mem_append.mp hx with m | m
            · exact h.all x m sx
            · have e := List.mem_singleton.mp m
              subst e
              by_cases z : (x.1 - l.1) * a.2.1 - a.1 * (l.2 - x.2) = 0
              · exact .inr ⟨by omega, by
                  have : ¬ x.2 < a.2.2.2 := fun q => c (.inr ⟨z, q⟩)
                  omega⟩
              · exact .inl (by
                  have : ¬ (x.1 - l.1) * a.2.1 - a.1 * (l.2 - x.2) < 0 := fun q => c (.inl q)
                  omega)
      · rw [if_neg s]
        refine ⟨h.pos, ?_, fun x hx sx => ?_⟩
        · rcases h.is with q | ⟨q, r, e⟩
          · exact .inl q
          · exact .inr ⟨List.mem_append_left _ q, r, e⟩
        · rcases List.mem_append.mp hx with m | m
          · exact h.all x m sx
          · have e := List.mem_singleton.mp m
            subst e
            exact absurd sx s
    have := ih (done ++ [o]) (nextStep l a o) step
    rwa [List.append_assoc] at this
theorem next_ok (Ls : List Ln) (l : Ln) : NextInv Ls l (nextLine Ls l) := by
  have := next_inv (l := l) Ls [] (1, 1, l) ⟨Int.one_pos, .inl rfl, fun o ho => nomatch ho⟩
  exact this
theorem rat_mul_le {a b c : Rat} (h : 0 < c) : a * c ≤ b * c ↔ a ≤ b := by
  constructor
  · intro q
    by_cases z : a ≤ b
    · exact z
    · have := Rat.mul_pos (show 0 < a - b by grind) h
      grind
  · intro q
    have := Rat.mul_nonneg (show 0 ≤ b - a by grind) (show 0 ≤ c by grind)
    grind
/-- where two lines meet, as fractions -/
theorem lv_at {l x : Ln} {n d : Int} (hd : 0 < d) : (lv l ((n : Rat) / d) ≤ lv x ((n : Rat) / d) ↔ n * (l.2 - x.2) ≤ (x.1 - l.1) * d) ∧ (lv l ((n : Rat) / d) = lv x ((n : Rat) / d) ↔ n * (l.2 - x.2) = (x.1 - l.1) * d) ∧ (lv l ((n : Rat) / d) < lv x ((n : Rat) / d) ↔ n * (l.2 - x.2) < (x.1 - l.1) * d) := by
  have hd' : (0 : Rat) < (d : Rat) := by exact_mod_cast hd
  have key : ∀ z : Ln, lv z ((n : Rat) / d) * d = ((z.1 * d + z.2 * n : Int) : Rat) := fun z => by
    unfold lv
    have : (n : Rat) / d * d = n := Rat.div_mul_cancel (by grind)
    push_cast
    grind
  have a : lv l ((n : Rat) / d) ≤ lv x ((n : Rat) / d) ↔ l.1 * d + l.2 * n ≤ x.1 * d + x.2 * n := by
    rw [← rat_mul_le hd', key, key]
    exact_mod_cast Iff.rfl
  have b : lv x ((n : Rat) / d) ≤ lv l ((n : Rat) / d) ↔ x.1 * d + x.2 * n ≤ l.1 * d + l.2 * n := by
    rw [← rat_mul_le hd', key, key]
    exact_mod_cast Iff.rfl
  have e : n * (l.2 - x.2) - (x.1 - l.1) * d = (l.1 * d + l.2 * n) - (x.1 * d + x.2 * n) := by grind
  refine ⟨a.trans (by omega), ?_, ?_⟩
  · constructor
    · intro h
      have := a.mp (by grind)
      have := b.mp (by grind)
      omega
    · intro h
      have := a.mpr (by omega)
      have := b.mpr (by omega)
      grind
  · constructor
    · intro h
      have := mt b.mpr (by grind)
      omega
    · intro h
      have := mt b.mp (by omega)
      grind
/-- the program's spans behind the first one -/
def spansF (Ls : List Ln) : Nat → Ln → List (Int × Int × Ln)
  | 0, _ => []
  | n + 1, l => if (nextLine Ls l).1 ≥ (nextLine Ls l).2.1 then [] else nextLine Ls l :: spansF Ls n (nextLine Ls l).2.2
/-- how many fall faster -/
def faster (Ls : List Ln) (l : Ln) : Nat := (Ls.filter fun x => decide (x.2 < l.2)).length
theorem faster_lt {Ls : List Ln} {l k : Ln} (hk : k ∈ Ls) (h : k.2 < l.2) : faster Ls k < faster Ls l := by
  unfold faster
  have sub : ∀ (L : List Ln), (L.filter fun x => decide (x.2 < k.2)).length ≤ (L.filter fun x => decide (x.2 < l.2)).length := fun L => by
    induction L with
    | nil => exact Nat.le_refl _
    | cons a r ih =>
      rw [List.filter_cons, List.filter_cons]
      by_cases c : a.2 < k.2
      · rw [if_pos (decide_eq_true c), if_pos (decide_eq_true (by omega))]
        simpa using ih
      · rw [if_neg (by simpa using c)]
        split
        · exact Nat.le_succ_of_le ih
        · exact ih
  induction Ls with
  | nil => cases hk
  | cons a r ih =>
    rw [List.filter_cons, List.filter_cons]
    rcases List.mem_cons.mp hk with rfl | m
    · rw [if_neg (by simp), if_pos (decide_eq_true h)]
      exact Nat.lt_succ_of_le (sub r)
    · have := ih m
      by_cases c : a.2 < k.2
      · rw [if_pos (decide_eq_true c), if_pos (decide_eq_true (by omega))]
        simpa using this
      · rw [if_neg (by simpa using c)]
        split
        · exact Nat.lt_succ_of_lt this
        · exact this
theorem env_spans (Ls : List Ln) : ∀ (n : Nat) (l : Ln) (t : Rat), faster Ls l < n → l ∈ Ls → Lead Ls l t → t < 1 → Env Ls t l ((spansF Ls n l).map fun s => ((s.1 : Rat) / s.2.1, s.2.2)) := by
  intro n
  induction n with
  | zero => intro l t h; omega
  | succ n ih =>
    intro l t hn hl hL ht
    have N := next_ok Ls l
    unfold spansF
    generalize nextLine Ls l = a at N
    obtain ⟨top, bot, k⟩ := a
    have pos : 0 < bot := N.pos
    have all : ∀ o ∈ Ls, o.2 < l.2 → top * (l.2 - o.2) < (o.1 - l.1) * bot ∨ (top * (l.2 - o.2) = (o.1 - l.1) * bot ∧ k.2 ≤ o.2) := N.all
    have is : (top, bot, k) = (1, 1, l) ∨ (k ∈ Ls ∧ k.2 < l.2 ∧ (top, bot, k) = (k.1 - l.1, l.2 - k.2, k)) := N.is
    have at1 : ∀ o ∈ Ls, o.2 < l.2 → lv l ((top : Rat) / bot) ≤ lv o ((top : Rat) / bot) := fun o ho s => (lv_at pos).1.mpr (by rcases all o ho s with q | ⟨q, _⟩ <;> omega)
    show Env Ls t l ((if top ≥ bot then [] else (top, bot, k) :: spansF Ls n k).map fun s => ((s.1 : Rat) / s.2.1, s.2.2))
    by_cases c : top ≥ bot
    · rw [if_pos c]
      refine ⟨ht, hL, below_of_lead hL hl fun x hx s => ?_⟩
      have q := all x hx s
      have := (lv_at (l := l) (x := x) (n := 1) (d := 1) (by decide)).1.mpr (by
        have h1 : bot * (l.2 - x.2) ≤ top * (l.2 - x.2) := Int.mul_le_mul_of_nonneg_right c (by omega)
        have h2 : bot * (l.2 - x.2) ≤ bot * (x.1 - l.1) := by rw [Int.mul_comm bot (x.1 - l.1)]; rcases q with q | ⟨q, _⟩ <;> omega
        have := Int.le_of_mul_le_mul_left h2 pos
        omega)
      have e1 : ((1 : Int) : Rat) / ((1 : Int) : Rat) = 1 := by grind
      rwa [e1] at this
    · rw [if_neg c]
      have lt1 : top < bot := by omega
      rcases is with q | ⟨hk, kl, q⟩
      · have : top = 1 := congrArg (·.1) q
        have : bot = 1 := congrArg (·.2.1) q
        omega
      · have et : top = k.1 - l.1 := congrArg (·.1) q
        have eb : bot = l.2 - k.2 := congrArg (·.2.1) q
        have kl : k.2 < l.2 := kl
        have pos' : (0 : Rat) < (bot : Rat) := by exact_mod_cast pos
        have meet : lv l ((top : Rat) / bot) = lv k ((top : Rat) / bot) := (lv_at pos).2.1.mpr (by rw [et, eb])
        have tu : t < (top : Rat) / bot := by
          have kl' : (k.2 : Rat) < (l.2 : Rat) := by exact_mod_cast kl
          rcases hL k hk with z | ⟨z, w⟩
          · -- l stands below k at t, and they meet there
            by_cases w : t < (top : Rat) / bot
            · exact w
            · have : 0 ≤ ((l.2 : Rat) - k.2) * (t - (top : Rat) / bot) := Rat.mul_nonneg (by grind) (by grind)
              unfold lv at *
              grind
          · omega
        have u1 : (top : Rat) / bot < 1 := by
          rw [Rat.div_lt_iff pos']
          have : (top : Rat) < (bot : Rat) := by exact_mod_cast lt1
          grind
        refine ⟨tu, hL, below_of_lead hL hl at1, fun (z : l = k) => absurd kl (by rw [z]; omega), meet, hk, ih k _ ?_ hk ?_ u1⟩
        · have := faster_lt (l := l) hk kl
          omega
        · refine lead_next hL tu meet kl fun x hx s => ?_
          rcases all x hx s with q | ⟨q, r⟩
          · exact .inl ((lv_at pos).2.2.mpr q)
          · exact .inr ⟨(lv_at pos).2.1.mpr q, r⟩
/-! ### what is met between stops -/
theorem Env.lt1 {Ls : List Ln} : ∀ {r : List (Rat × Ln)} {t : Rat} {l : Ln}, Env Ls t l r → t < 1
  | [], _, _, h => h.1
  | (u, k) :: r, t, l, h => by
    obtain ⟨h1, _, _, _, _, _, h2⟩ := h
    have := Env.lt1 h2
    grind
theorem Env.lead {Ls : List Ln} : ∀ {r : List (Rat × Ln)} {t : Rat} {l : Ln}, Env Ls t l r → Lead Ls l t
  | [], _, _, h => h.2.1
  | (u, k) :: r, t, l, h => h.2.1
theorem Env.mem {Ls : List Ln} : ∀ {r : List (Rat × Ln)} {t : Rat} {l : Ln}, Env Ls t l r → ∀ x ∈ r, x.2 ∈ Ls
  | [], _, _, _, x, hx => nomatch hx
  | (u, k) :: r, t, l, h, x, hx => by
    obtain ⟨_, _, _, _, _, h1, h2⟩ := h
    rcases List.mem_cons.mp hx with rfl | m
    · exact h1
    · exact Env.mem h2 x m
theorem lv_ext {l k : Ln} {u : Rat} (e : lv l u = lv k u) (s : l.2 = k.2) : l = k := by
  unfold lv at e
  rw [s] at e
  have e1 : (l.1 : Rat) = (k.1 : Rat) := by grind
  exact Prod.ext (by exact_mod_cast e1) s
theorem Env.slope {Ls : List Ln} : ∀ {r : List (Rat × Ln)} {t : Rat} {l : Ln}, l ∈ Ls → Env Ls t l r → ∀ x ∈ r, x.2.2 < l.2
  | [], _, _, _, _, x, hx => nomatch hx
  | (u, k) :: r, t, l, hl, h, x, hx => by
    obtain ⟨_, _, _, ne, e, h1, h2⟩ := h
    have kl : k.2 < l.2 := by
      rcases h2.lead l hl with z | ⟨z, w⟩
      · grind
      · have : k.2 ≠ l.2 := fun s => ne (lv_ext z s).symm
        omega
    rcases List.mem_cons.mp hx with rfl | m
    · exact kl
    · have := Env.slope h1 h2 x m
      omega
section
variable {S : Type} [DecidableEq S]
def walkF (near : Rat → List S) : List Rat → List S → List S
  | p :: q :: r, F => walkF near (q :: r) (F ++ (near ((p + q) / 2)).filter fun s => decide (s ∉ F))
  | _, F => F
theorem filter_all {F xs : List S} (h : ∀ s ∈ xs, s ∉ F) : (xs.filter fun s => decide (s ∉ F)) = xs := List.filter_eq_self.mpr fun s m => decide_eq_true (h s m)
theorem filter_none {F xs : List S} (h : ∀ s ∈ xs, s ∈ F) : (xs.filter fun s => decide (s ∉ F)) = [] := List.filter_eq_nil_iff.mpr fun s m => by simpa using h s m
theorem walk_env {Ls : List Ln} {near : Rat → List S} {si : Ln → List S} (hn : ∀ m l a b, l ∈ Ls → Below Ls l a b → a < m → m < b → near m = si l) (hd : ∀ l k, l ≠ k → ∀ s ∈ si l, s ∉ si k) :
    ∀ (ps : List Rat) (p : Rat) (F : List S) (t : Rat) (l : Ln) (r : List (Rat × Ln)), Env Ls t l r → l ∈ Ls → t ≤ p → (p :: ps).Pairwise (· < ·) → (p :: ps).getLast? = some 1 → (∀ x ∈ r, x.1 ∈ ps) → (∀ x ∈ r, ∀ s ∈ si x.2, s ∉ F) →
    ((t = p ∧ ∀ s ∈ si l, s ∉ F) → walkF near (p :: ps) F = F ++ (si l ++ r.flatMap fun x => si x.2)) ∧ ((∀ s ∈ si l, s ∈ F) → walkF near (p :: ps) F = F ++ r.flatMap fun x => si x.2) := by
  intro ps
  induction ps with
  | nil =>
    intro p F t l r E hl tp so la rp rF
    have p1 : p = 1 := Option.some.inj la
    have r0 : r = [] := by
      cases r with
      | nil => rfl
      | cons x r => exact nomatch rp x List.mem_cons_self
    subst r0
    refine ⟨fun ⟨e, _⟩ => ?_, fun _ => ?_⟩
    · have := E.lt1
      grind
    · show F = F ++ []
      rw [List.append_nil]
  | cons q ps ih =>
    intro p F t l r E hl tp so la rp rF
    have pq : p < q := (List.pairwise_cons.mp so).1 q List.mem_cons_self
    have so2 := (List.pairwise_cons.mp so).2
    have la2 : (q :: ps).getLast? = some 1 := by rw [← la]; rfl
    have q1 : q ≤ 1 := by
      have m1 : (1 : Rat) ∈ q :: ps := List.mem_of_getLast? la2
      rcases List.mem_cons.mp m1 with e | m
      · grind
      · have := (List.pairwise_cons.mp so2).1 1 m
        grind
    have m1 : p < (p + q) / 2 := by grind
    have m2 : (p + q) / 2 < q := by grind
    have at_ : near ((p + q) / 2) = si l := by
      cases r with
      | nil => exact hn _ l t 1 hl E.2.2 (by grind) (by grind)
      | cons x r =>
        obtain ⟨u, k⟩ := x
        have uq : q ≤ u := by
          rcases List.mem_cons.mp (rp (u, k) List.mem_cons_self) with e | m
          · have e : u = q := e
            grind
          · have := (List.pairwise_cons.mp so2).1 u m
            grind
        exact hn _ l t u hl E.2.2.1 (by grind) (by grind)
    -- the state behind the interval
    have next : ∀ F', (∀ s ∈ si l, s ∈ F') → (∀ s ∈ F', s ∈ F ∨ s ∈ si l) → walkF near (q :: ps) F' = F' ++ r.flatMap fun x => si x.2 := by
      intro F' h1 h2
      cases r with
      | nil => exact (ih q F' t l [] E hl (by grind) so2 la2 (fun x hx => nomatch hx) (fun x hx => nomatch hx)).2 h1
      | cons x r =>
        obtain ⟨u, k⟩ := x
        have sl := Env.slope hl E
        obtain ⟨tu, L0, B0, ne, e, hk, E2⟩ := E
        have sl2 := Env.slope hk E2
        by_cases c : u = q
        · subst c
          have key := (ih u F' u k r E2 hk (by grind) so2 la2 ?_ ?_).1 ⟨rfl, ?_⟩
          · rw [key, List.flatMap_cons]
          · intro x hx
            rcases List.mem_cons.mp (rp x (List.mem_cons_of_mem _ hx)) with e | m
            · exfalso
              -- all behind begin later
              have later : ∀ (r : List (Rat × Ln)) (t : Rat) (l : Ln), Env Ls t l r → ∀ x ∈ r, t < x.1 := by
                intro r
                induction r with
                | nil => intro t l _ x hx; exact nomatch hx
                | cons y r ih =>
                  intro t l h x hx
                  obtain ⟨u, k⟩ := y
                  obtain ⟨a, _, _, _, _, _, b⟩ := h
                  rcases List.mem_cons.mp hx with rfl | m
                  · exact a
                  · have := ih u k b x m
                    grind
              have := later r u k E2 x hx
              grind
            · exact m
          · intro x hx s hs hF
            rcases h2 s hF with z | z
            · exact rF x (List.mem_cons_of_mem _ hx) s hs z
            · exact hd l x.2 (fun w => by have := sl x (List.mem_cons_of_mem _ hx); rw [← w] at this; omega) s z hs
          · intro s hs hF
            rcases h2 s hF with z | z
            · exact rF (u, k) List.mem_cons_self s hs z
            · exact hd l k ne s z hs
        · refine (ih q F' t l ((u, k) :: r) ⟨tu, L0, B0, ne, e, hk, E2⟩ hl (by grind) so2 la2 ?_ ?_).2 h1
          · have uq : q < u := by
              rcases List.mem_cons.mp (rp (u, k) List.mem_cons_self) with e | m
              · exact absurd e c
              · exact (List.pairwise_cons.mp so2).1 u m
            intro x hx
            rcases List.mem_cons.mp (rp x hx) with e | m
            · exfalso
              have later : ∀ (r : List (Rat × Ln)) (t : Rat) (l : Ln), Env Ls t l r → ∀ x ∈ r, t < x.1 := by
                intro r
                induction r with
                | nil => intro t l _ x hx; exact nomatch hx
                | cons y r ih =>
                  intro t l h x hx
                  obtain ⟨u, k⟩ := y
                  obtain ⟨a, _, _, _, _, _, b⟩ := h
                  rcases List.mem_cons.mp hx with rfl | m
                  · exact a
                  · have := ih u k b x m
                    grind
              rcases List.mem_cons.mp hx with rfl | m
              · exact c e
              · have := later r u k E2 x m
                grind
            · exact m
          · intro x hx s hs hF
            rcases h2 s hF with z | z
            · exact rF x hx s hs z
            · exact hd l x.2 (fun w => by have := sl x hx; rw [← w] at this; omega) s z hs
    refine ⟨fun ⟨e, hs⟩ => ?_, fun hs => ?_⟩
    · show walkF near (q :: ps) (F ++ (near ((p + q) / 2)).filter fun s => decide (s ∉ F)) = _
      rw [at_, filter_all hs, next _ (fun s m => List.mem_append_right _ m) (fun s m => List.mem_append.mp m), List.append_assoc]
    · show walkF near (q :: ps) (F ++ (near ((p + q) / 2)).filter fun s => decide (s ∉ F)) = _
      rw [at_, filter_none hs, List.append_nil, next F hs fun s m => .inl m]
end
/-! which lines are met: those that are alone the lowest ones somewhere -/
def Alone (Ls : List Ln) (l : Ln) : Prop := l ∈ Ls ∧ ∃ m : Rat, 0 < m ∧ m < 1 ∧ ∀ x ∈ Ls, x ≠ l → lv l m < lv x m
theorem env_alone {Ls : List Ln} : ∀ {r : List (Rat × Ln)} {t : Rat} {l : Ln}, 0 ≤ t → l ∈ Ls → Env Ls t l r → ∀ x, x = l ∨ x ∈ r.map (·.2) → Alone Ls x
  | [], t, l, ht, hl, h, x, hx => by
    rcases hx with rfl | hx
    · obtain ⟨a, _, b⟩ := h
      exact ⟨hl, (t + 1) / 2, by grind, by grind, fun y hy ne => b _ (by grind) (by grind) y hy ne⟩
    · exact nomatch hx
  | (u, k) :: r, t, l, ht, hl, h, x, hx => by
    obtain ⟨a, _, b, _, _, hk, E⟩ := h
    have u1 := E.lt1
    rcases hx with rfl | hx
    · exact ⟨hl, (t + u) / 2, by grind, by grind, fun y hy ne => b _ (by grind) (by grind) y hy ne⟩
    · refine env_alone (by grind) hk E x ?_
      rcases List.mem_cons.mp hx with e | m
      · exact .inl e
      · exact .inr m
theorem alone_env {Ls : List Ln} : ∀ {r : List (Rat × Ln)} {t : Rat} {l : Ln}, l ∈ Ls → Env Ls t l r → ∀ x ∈ Ls, (∃ m, t < m ∧ m < 1 ∧ ∀ y ∈ Ls, y ≠ x → lv x m < lv y m) → x = l ∨ x ∈ r.map (·.2)
  | [], t, l, hl, h, x, hx, ⟨m, m1, m2, hm⟩ => by
    by_cases c : x = l
    · exact .inl c
    · have h1 := hm l hl (fun z => c z.symm)
      have h2 := h.2.2 m m1 m2 x hx c
      grind
  | (u, k) :: r, t, l, hl, h, x, hx, ⟨m, m1, m2, hm⟩ => by
    obtain ⟨a, _, b, ne, e, hk, E⟩ := h
    by_cases c : x = l
    · exact .inl c
    by_cases d : x = k
    · exact .inr (by rw [d]; exact List.mem_cons_self)
    · have h1 := hm l hl (fun z => c z.symm)
      by_cases w : m < u
      · have h2 := b m m1 w x hx c
        grind
      by_cases w2 : m = u
      · subst w2
        rcases E.lead x hx with z | ⟨z, _⟩ <;> grind
      · refine .inr ?_
        rcases alone_env hk E x hx ⟨m, by grind, m2, hm⟩ with z | z
        · exact absurd z d
        · exact List.mem_cons_of_mem _ z
/-! ### sites along a way -/
/-- how the squared distance changes, for a site (x, y), from (ax / ad, ay / ad) to (bx / bd, by' / bd) -/
structure Way where
  ax : Int
  ay : Int
  ad : Int
  bx : Int
  by' : Int
  bd : Int
def Way.ln (w : Way) (s : Int × Int) : Ln :=
  (w.ad * w.bd * (s.1 * s.1 + s.2 * s.2) - 2 * w.bd * (w.ax * s.1 + w.ay * s.2), 2 * w.bd * (w.ax * s.1 + w.ay * s.2) - 2 * w.ad * (w.bx * s.1 + w.by' * s.2))
def Way.rev (w : Way) : Way := ⟨w.bx, w.by', w.bd, w.ax, w.ay, w.ad⟩
theorem Way.rev_ln (w : Way) (s : Int × Int) : w.rev.ln s = ((w.ln s).1 + (w.ln s).2, -(w.ln s).2) := by
  unfold Way.rev Way.ln
  refine Prod.ext ?_ ?_
  · show w.bd * w.ad * (s.1 * s.1 + s.2 * s.2) - 2 * w.ad * (w.bx * s.1 + w.by' * s.2) = _
    grind
  · show 2 * w.ad * (w.bx * s.1 + w.by' * s.2) - 2 * w.bd * (w.ax * s.1 + w.ay * s.2) = _
    grind
def Way.px (w : Way) (n d : Int) : Int := w.ax * w.bd * (d - n) + w.bx * w.ad * n
def Way.py (w : Way) (n d : Int) : Int := w.ay * w.bd * (d - n) + w.by' * w.ad * n
def Way.pd (w : Way) (d : Int) : Int := w.ad * w.bd * d
theorem spr_diff (w : Way) (n d : Int) (s r : Int × Int) : spread (w.px n d) (w.py n d) (w.pd d) r.1 r.2 - spread (w.px n d) (w.py n d) (w.pd d) s.1 s.2 = w.pd d * (((w.ln r).1 * d + (w.ln r).2 * n) - ((w.ln s).1 * d + (w.ln s).2 * n)) := by
  unfold spread Way.px Way.py Way.pd Way.ln
  grind
theorem lv_le {l x : Ln} {n d : Int} (hd : 0 < d) : lv l ((n : Rat) / d) ≤ lv x ((n : Rat) / d) ↔ l.1 * d + l.2 * n ≤ x.1 * d + x.2 * n := by
  refine (lv_at hd).1.trans ?_
  have : n * (l.2 - x.2) - (x.1 - l.1) * d = (l.1 * d + l.2 * n) - (x.1 * d + x.2 * n) := by grind
  omega
/-- nearness at a place of the way -/
theorem near_iff {w : Way} {n d g X Y D : Int} (hg : g ≠ 0) (ha : 0 < w.ad) (hb : 0 < w.bd) (hd : 0 < d) (ex : g * X = w.px n d) (ey : g * Y = w.py n d) (ed : g * D = w.pd d) (s r : Int × Int) :
    spread X Y D s.1 s.2 ≤ spread X Y D r.1 r.2 ↔ lv (w.ln s) ((n : Rat) / d) ≤ lv (w.ln r) ((n : Rat) / d) := by
  rw [lv_le hd]
  have pos : 0 < w.pd d := Int.mul_pos (Int.mul_pos ha hb) hd
  have gg : 0 < g * g := by
    rcases Int.lt_or_gt_of_ne hg with z | z
    · exact Int.mul_pos_of_neg_of_neg z z
    · exact Int.mul_pos z z
  have e1 := spr_diff w n d s r
  rw [← ex, ← ey, ← ed, ← spread_scale, ← spread_scale] at e1
  have e2 : g * g * (spread X Y D r.1 r.2 - spread X Y D s.1 s.2) = w.pd d * (((w.ln r).1 * d + (w.ln r).2 * n) - ((w.ln s).1 * d + (w.ln s).2 * n)) := by
    rw [← ed, ← e1, Int.mul_sub]
  constructor
  · intro h
    have z : 0 ≤ g * g * (spread X Y D r.1 r.2 - spread X Y D s.1 s.2) := Int.mul_nonneg (by omega) (by omega)
    rw [e2] at z
    have := Int.nonneg_of_mul_nonneg_right z pos
    omega
  · intro h
    have z : 0 ≤ w.pd d * (((w.ln r).1 * d + (w.ln r).2 * n) - ((w.ln s).1 * d + (w.ln s).2 * n)) := Int.mul_nonneg (by omega) (by omega)
    rw [← e2] at z
    have := Int.nonneg_of_mul_nonneg_right z gg
    omega
/-- what the crossings are reckoned of -/
theorem left_is (w : Way) (s r : Int × Int) : (spread w.ax w.ay w.ad s.1 s.2 - spread w.ax w.ay w.ad r.1 r.2) * w.bd * w.bd = w.ad * w.bd * ((w.ln s).1 - (w.ln r).1) := by
  unfold spread Way.ln
  grind
theorem right_is (w : Way) (s r : Int × Int) : (spread w.bx w.by' w.bd s.1 s.2 - spread w.bx w.by' w.bd r.1 r.2) * w.ad * w.ad = w.ad * w.bd * (((w.ln s).1 + (w.ln s).2) - ((w.ln r).1 + (w.ln r).2)) := by
  unfold spread Way.ln
  grind
def qv (p : Int × Int) : Rat := (p.1 : Rat) / (p.2 : Rat)
/-- two lines that meet within the way lie on either side at its ends -/
theorem meet_signs {l k : Ln} {u : Rat} (h0 : 0 < u) (h1 : u < 1) (ne : l ≠ k) (e : lv l u = lv k u) : (l.1 - k.1) * ((l.1 + l.2) - (k.1 + k.2)) < 0 ∧ ((l.1 - k.1 : Int) : Rat) = u * (((l.1 - k.1) - ((l.1 + l.2) - (k.1 + k.2)) : Int) : Rat) := by
  have e2 : ((l.1 - k.1 : Int) : Rat) = u * (((l.1 - k.1) - ((l.1 + l.2) - (k.1 + k.2)) : Int) : Rat) := by
    unfold lv at e
    push_cast
    grind
  refine ⟨?_, e2⟩
  have m : l.2 ≠ k.2 := fun s => ne (lv_ext e s)
  generalize ha : l.1 - k.1 = a at *
  generalize hb : (l.1 + l.2) - (k.1 + k.2) = b at *
  have ab : a - b ≠ 0 := by omega
  have key : ((a * b : Int) : Rat) < 0 := by
    have ab' : ((a - b : Int) : Rat) ≠ 0 := by exact_mod_cast ab
    have sq : 0 < ((a - b : Int) : Rat) * ((a - b : Int) : Rat) := by
      by_cases z : 0 < ((a - b : Int) : Rat)
      · exact Rat.mul_pos z z
      · have z : 0 < -((a - b : Int) : Rat) := by grind
        have := Rat.mul_pos z z
        grind
    have p1 := Rat.mul_pos (Rat.mul_pos h0 (show 0 < 1 - u by grind)) sq
    have eb : ((b : Int) : Rat) = (u - 1) * ((a - b : Int) : Rat) := by
      push_cast at *
      grind
    rw [Rat.intCast_mul, e2, eb]
    grind
  exact_mod_cast key
/-- the fraction that is told of a crossing -/
theorem cross_is {w : Way} (ha : 0 < w.ad) (hb : 0 < w.bd) {s r : Int × Int} {u : Rat} {L R : Int} (eL : L = w.ad * w.bd * ((w.ln s).1 - (w.ln r).1)) (eR : R = w.ad * w.bd * (((w.ln s).1 + (w.ln s).2) - ((w.ln r).1 + (w.ln r).2)))
    (h0 : 0 < u) (h1 : u < 1) (ne : w.ln s ≠ w.ln r) (e : lv (w.ln s) u = lv (w.ln r) u) : L * R < 0 ∧ ∀ n d : Int, 0 < d → n * ((L - R).natAbs : Int) = (L.natAbs : Int) * d → qv (n, d) = u := by
  obtain ⟨h2, h3⟩ := meet_signs h0 h1 ne e
  have pos : 0 < w.ad * w.bd := Int.mul_pos ha hb
  generalize ea : (w.ln s).1 - (w.ln r).1 = a at *
  generalize eb : ((w.ln s).1 + (w.ln s).2) - ((w.ln r).1 + (w.ln r).2) = b at *
  generalize w.ad * w.bd = c at *
  subst eL eR
  have neg : c * a * (c * b) < 0 := by
    have : c * a * (c * b) = (c * c) * (a * b) := by grind
    rw [this]
    exact Int.mul_neg_of_pos_of_neg (Int.mul_pos pos pos) h2
  refine ⟨neg, fun n d hd q => ?_⟩
  have ab : a ≠ b := fun z => by
    rw [z] at h2
    have : 0 ≤ b * b := by rw [← Int.natAbs_mul_self]; exact Int.natCast_nonneg _
    omega
  have nz : ((c * a - c * b).natAbs : Int) ≠ 0 := by
    have : c * a - c * b = c * (a - b) := by grind
    rw [this]
    have := Int.mul_ne_zero (show c ≠ 0 by omega) (show a - b ≠ 0 by omega)
    omega
  have same : (c * a).natAbs = c.natAbs * a.natAbs := Int.natAbs_mul _ _
  -- the fraction's value
  have e1 : ((c * a : Int) : Rat) = u * ((c * a - c * b : Int) : Rat) := by
    push_cast at *
    grind
  have e2 : (((c * a).natAbs : Int) : Rat) = u * (((c * a - c * b).natAbs : Int) : Rat) := by
    have c1 : (((c * a).natAbs : Int) : Rat) = if c * a < 0 then -((c * a : Int) : Rat) else ((c * a : Int) : Rat) := by
      by_cases z : c * a < 0
      · rw [if_pos z, show ((c * a).natAbs : Int) = -(c * a) by omega]; push_cast; grind
      · rw [if_neg z, show ((c * a).natAbs : Int) = c * a by omega]
    have c2 : (((c * a - c * b).natAbs : Int) : Rat) = if c * a < 0 then -((c * a - c * b : Int) : Rat) else ((c * a - c * b : Int) : Rat) := by
      by_cases z : c * a < 0
      · have : 0 < c * b := by
          rcases Int.lt_trichotomy (c * b) 0 with y | y | y
          · have := Int.mul_pos_of_neg_of_neg z y
            omega
          · rw [y] at neg
            omega
          · exact y
        rw [if_pos z, show ((c * a - c * b).natAbs : Int) = -(c * a - c * b) by omega]; push_cast; grind
      · have : c * b < 0 := by
          rcases Int.lt_trichotomy (c * b) 0 with y | y | y
          · exact y
          · rw [y] at neg
            omega
          · have := Int.mul_nonneg (show 0 ≤ c * a by omega) (show 0 ≤ c * b by omega)
            omega
        rw [if_neg z, show ((c * a - c * b).natAbs : Int) = c * a - c * b by omega]
    rw [c1, c2]
    split
    · grind
    · exact e1
  generalize ((c * a).natAbs : Int) = A at *
  generalize ((c * a - c * b).natAbs : Int) = B at *
  have q' : (n : Rat) * (B : Rat) = (A : Rat) * (d : Rat) := by exact_mod_cast q
  have nz' : (B : Rat) ≠ 0 := by exact_mod_cast nz
  have hd' : (d : Rat) ≠ 0 := by exact_mod_cast (show d ≠ 0 by omega)
  show (n : Rat) / (d : Rat) = u
  rw [e2] at q'
  have : (n : Rat) = u * d := by
    have h : ((n : Rat) - u * d) * B = 0 := by grind
    rcases Rat.mul_eq_zero.mp h with z | z
    · grind
    · exact absurd z nz'
  rw [this, Rat.mul_div_cancel hd']
/-! ### what is told of a way -/
section
variable {S : Type} [DecidableEq S] (f : S → Int × Int) (w : Way) (rs : List S)
def Way.lines : List Ln := rs.map fun t => w.ln (f t)
def Way.si (l : Ln) : List S := rs.filter fun t => decide (w.ln (f t) = l)
def Way.near (m : Rat) : List S := rs.filter fun t => decide (∀ r ∈ rs, lv (w.ln (f t)) m ≤ lv (w.ln (f r)) m)
variable {f w rs}
theorem near_si {m a b : Rat} {l : Ln} (hl : l ∈ w.lines f rs) (h : Below (w.lines f rs) l a b) (h1 : a < m) (h2 : m < b) : w.near f rs m = w.si f rs l := by
  obtain ⟨t0, m0, e0⟩ := List.mem_map.mp hl
  unfold Way.near Way.si
  refine List.filter_congr fun t ht => ?_
  by_cases c : w.ln (f t) = l
  · rw [decide_eq_true c]
    refine decide_eq_true fun r hr => ?_
    by_cases d : w.ln (f r) = l
    · rw [c, d]
      exact Rat.le_refl
    · have := h m h1 h2 _ (List.mem_map.mpr ⟨r, hr, rfl⟩) d
      rw [c]
      grind
  · rw [decide_eq_false c]
    refine decide_eq_false fun z => ?_
    have h3 := h m h1 h2 _ (List.mem_map.mpr ⟨t, ht, rfl⟩) c
    have h4 := z t0 m0
    rw [e0] at h4
    grind
/-- the spans' sites -/
def OnWay (f : S → Int × Int) (w : Way) (rs L : List S) : Prop := ∃ l r, l ∈ w.lines f rs ∧ Env (w.lines f rs) 0 l r ∧ L = w.si f rs l ++ r.flatMap fun x => w.si f rs x.2
theorem env_cross {Ls : List Ln} : ∀ {r : List (Rat × Ln)} {t : Rat} {l : Ln}, 0 ≤ t → l ∈ Ls → Env Ls t l r → ∀ x ∈ r, 0 < x.1 ∧ x.1 < 1 ∧ ∃ a ∈ Ls, ∃ b ∈ Ls, a ≠ b ∧ lv a x.1 = lv b x.1
  | [], _, _, _, _, _, x, hx => nomatch hx
  | (u, k) :: r, t, l, ht, hl, h, x, hx => by
    obtain ⟨tu, _, _, ne, e, hk, E⟩ := h
    have u1 := E.lt1
    rcases List.mem_cons.mp hx with rfl | m
    · exact ⟨by show 0 < u; grind, u1, l, hl, k, hk, ne, e⟩
    · exact env_cross (by grind) hk E x m
/-- stops from 0 to 1, all crossings among them -/
def Stops (f : S → Int × Int) (w : Way) (rs : List S) (ps : List Rat) : Prop := (0 :: ps).Pairwise (· < ·) ∧ (0 :: ps).getLast? = some 1 ∧ ∀ s ∈ rs, ∀ r ∈ rs, ∀ u : Rat, 0 < u → u < 1 → w.ln (f s) ≠ w.ln (f r) → lv (w.ln (f s)) u = lv (w.ln (f r)) u → u ∈ ps
theorem due_is {L : List S} {ps : List Rat} (h : OnWay f w rs L) (hs : Stops f w rs ps) : walkF (w.near f rs) (0 :: ps) [] = L := by
  obtain ⟨l, r, hl, E, rfl⟩ := h
  obtain ⟨h1, h2, h3⟩ := hs
  have := (walk_env (near := w.near f rs) (si := w.si f rs) (fun m l a b hl hb a1 a2 => near_si hl hb a1 a2) (fun l k ne s m1 m2 => by
    have e1 : w.ln (f s) = l := of_decide_eq_true (List.mem_filter.mp m1).2
    have e2 : w.ln (f s) = k := of_decide_eq_true (List.mem_filter.mp m2).2
    exact ne (e1.symm.trans e2)) ps 0 [] 0 l r E hl (by grind) h1 h2 (fun x hx => ?_) (fun x hx s m => by simp)).1 ⟨rfl, fun s m => by simp⟩
  · rw [this, List.nil_append]
  · obtain ⟨u0, u1, a, ha, b, hb, ne, e⟩ := env_cross (by grind) hl E x hx
    obtain ⟨s, ms, rfl⟩ := List.mem_map.mp ha
    obtain ⟨q, mq, rfl⟩ := List.mem_map.mp hb
    exact h3 s ms q mq x.1 u0 u1 ne e
theorem mem_si {t : S} {l : Ln} : t ∈ w.si f rs l ↔ t ∈ rs ∧ w.ln (f t) = l := by
  unfold Way.si
  rw [List.mem_filter, decide_eq_true_eq]
theorem on_mem {L : List S} (h : OnWay f w rs L) (t : S) : t ∈ L ↔ t ∈ rs ∧ ∃ m : Rat, 0 < m ∧ m < 1 ∧ ∀ r ∈ rs, w.ln (f r) ≠ w.ln (f t) → lv (w.ln (f t)) m < lv (w.ln (f r)) m := by
  obtain ⟨l, r, hl, E, rfl⟩ := h
  have key : ∀ x, (x = l ∨ x ∈ r.map (·.2)) ↔ Alone (w.lines f rs) x := fun x => ⟨env_alone (by grind) hl E x, fun ⟨hx, m, m0, m1, hm⟩ => alone_env hl E x hx ⟨m, m0, m1, hm⟩⟩
  have al : t ∈ rs → (Alone (w.lines f rs) (w.ln (f t)) ↔ ∃ m : Rat, 0 < m ∧ m < 1 ∧ ∀ r ∈ rs, w.ln (f r) ≠ w.ln (f t) → lv (w.ln (f t)) m < lv (w.ln (f r)) m) := fun ht => by
    constructor
    · rintro ⟨_, m, m0, m1, hm⟩
      exact ⟨m, m0, m1, fun r hr ne => hm _ (List.mem_map.mpr ⟨r, hr, rfl⟩) ne⟩
    · rintro ⟨m, m0, m1, hm⟩
      refine ⟨List.mem_map.mpr ⟨t, ht, rfl⟩, m, m0, m1, fun x hx ne => ?_⟩
      obtain ⟨r, hr, rfl⟩ := List.mem_map.mp hx
      exact hm r hr ne
  rw [List.mem_append, mem_si, List.mem_flatMap]
  constructor
  · rintro (⟨ht, e⟩ | ⟨x, hx, hm⟩)
    · exact ⟨ht, (al ht).mp ((key _).mp (.inl e))⟩
    · obtain ⟨ht, e⟩ := mem_si.mp hm
      exact ⟨ht, (al ht).mp ((key _).mp (.inr (by rw [e]; exact List.mem_map.mpr ⟨x, hx, rfl⟩)))⟩
  · rintro ⟨ht, hm⟩
    rcases (key _).mpr ((al ht).mpr hm) with e | m
    · exact .inl ⟨ht, e⟩
    · obtain ⟨x, hx, e⟩ := List.mem_map.mp m
      exact .inr ⟨x, hx, mem_si.mpr ⟨ht, e.symm⟩⟩
theorem on_nodup {L : List S} (h : OnWay f w rs L) (hr : rs.Nodup) : L.Nodup := by
  obtain ⟨l, r, hl, E, rfl⟩ := h
  have one : ∀ l, (w.si f rs l).Nodup := fun l => hr.filter _
  have all : ∀ (r : List (Rat × Ln)) (t : Rat) (l : Ln), l ∈ w.lines f rs → Env (w.lines f rs) t l r → (w.si f rs l ++ r.flatMap fun x => w.si f rs x.2).Nodup := by
    intro r
    induction r with
    | nil => intro t l hl _; rw [List.flatMap_nil, List.append_nil]; exact one l
    | cons x r ih =>
      intro t l hl E
      have sl := Env.slope hl E
      obtain ⟨u, k⟩ := x
      obtain ⟨_, _, _, _, _, hk, E2⟩ := E
      have h2 := ih u k hk E2
      rw [List.flatMap_cons]
      refine List.nodup_append.mpr ⟨one l, h2, fun a ha b hb => ?_⟩
      rintro rfl
      have ea := (mem_si.mp ha).2
      rcases List.mem_append.mp hb with m | m
      · have lt : k.2 < l.2 := sl (u, k) List.mem_cons_self
        have e3 : k = l := (mem_si.mp m).2.symm.trans ea
        rw [e3] at lt
        exact absurd lt (Int.lt_irrefl _)
      · obtain ⟨y, hy, m⟩ := List.mem_flatMap.mp m
        have e2 := (mem_si.mp m).2
        have := sl y (List.mem_cons_of_mem _ hy)
        rw [← e2, ea] at this
        omega
  exact all r 0 l hl E
theorem lv_rev (w : Way) (s : Int × Int) (m : Rat) : lv (w.rev.ln s) m = lv (w.ln s) (1 - m) := by
  rw [w.rev_ln]
  unfold lv
  push_cast
  grind
theorem rev_ne (w : Way) (s r : Int × Int) : w.rev.ln s = w.rev.ln r ↔ w.ln s = w.ln r := by
  rw [w.rev_ln, w.rev_ln]
  constructor
  · intro h
    have h1 := congrArg Prod.fst h
    have h2 := congrArg Prod.snd h
    simp only at h1 h2
    exact Prod.ext (by omega) (by omega)
  · intro h
    rw [h]
/-- the way back has the same sites -/
theorem on_rev {rs' L L' : List S} (h : OnWay f w rs L) (h' : OnWay f w.rev rs' L') (hp : ∀ t, t ∈ rs' ↔ t ∈ rs) (t : S) : t ∈ L' ↔ t ∈ L := by
  rw [on_mem h, on_mem h', hp]
  refine and_congr_right fun _ => ?_
  constructor
  · rintro ⟨m, m0, m1, hm⟩
    refine ⟨1 - m, by grind, by grind, fun r hr ne => ?_⟩
    have := hm r ((hp r).mpr hr) (fun z => ne ((rev_ne w _ _).mp z))
    rwa [lv_rev, lv_rev] at this
  · rintro ⟨m, m0, m1, hm⟩
    refine ⟨1 - m, by grind, by grind, fun r hr ne => ?_⟩
    have := hm r ((hp r).mp hr) (fun z => ne ((rev_ne w _ _).mpr z))
    rw [lv_rev, lv_rev, show (1 : Rat) - (1 - m) = m by grind]
    exact this
/-- sorted lists of the same things are one -/
theorem srt_uniq {lt : S → S → Prop} (irr : ∀ x, ¬ lt x x) (tr : ∀ x y z, lt x y → lt y z → lt x z) : ∀ {l m : List S}, l.Pairwise lt → m.Pairwise lt → (∀ t, t ∈ l ↔ t ∈ m) → l = m
  | [], [], _, _, _ => rfl
  | [], y :: m, _, _, h => absurd ((h y).mpr List.mem_cons_self) (by simp)
  | x :: l, [], _, _, h => absurd ((h x).mp List.mem_cons_self) (by simp)
  | x :: l, y :: m, hl, hm, h => by
    obtain ⟨hx, sl⟩ := List.pairwise_cons.mp hl
    obtain ⟨hy, sm⟩ := List.pairwise_cons.mp hm
    have e : x = y := by
      rcases List.mem_cons.mp ((h x).mp List.mem_cons_self) with e | a
      · exact e
      · rcases List.mem_cons.mp ((h y).mpr List.mem_cons_self) with e | b
        · exact e.symm
        · exact absurd (tr _ _ _ (hx y b) (hy x a)) (irr x)
    subst e
    refine congrArg (x :: ·) (srt_uniq irr tr sl sm fun t => ?_)
    constructor
    · intro a
      rcases List.mem_cons.mp ((h t).mp (List.mem_cons_of_mem _ a)) with e | b
      · subst e
        exact absurd (hx t a) (irr t)
      · exact b
    · intro a
      rcases List.mem_cons.mp ((h t).mpr (List.mem_cons_of_mem _ a)) with e | b
      · subst e
        exact absurd (hy t a) (irr t)
      · exact b
end
/-! ### the lowest lines by a chain -/
def toL (p : Pt) : Ln := (p.1, p.2 - p.1)
theorem lv_toL (p : Pt) (t : Rat) : lv (toL p) t = (p.1 : Rat) + ((p.2 : Rat) - p.1) * t := by
  unfold lv toL
  push_cast
  rfl
/-- ascending by both numbers -/
def le2 (p q : Pt) : Prop := p.1 < q.1 ∨ (p.1 = q.1 ∧ p.2 ≤ q.2)
/-- later ones begin higher and end lower -/
def Fal (p q : Pt) : Prop := p.1 < q.1 ∧ q.2 < p.2
def domF (m : Int) : List Pt → List Pt
  | [] => []
  | p :: r => if p.2 < m then p :: domF p.2 r else domF m r
def stepP (st : List Pt) (s : Pt) : List Pt := match st with
  | [] => [s]
  | b :: r => if s.2 < b.2 then pushF 1 (b :: r) s else b :: r
theorem foldP_is : ∀ (ps : List Pt) (b : Pt) (r : List Pt), ps.foldl stepP (b :: r) = (domF b.2 ps).foldl (pushF 1) (b :: r)
  | [], _, _ => rfl
  | p :: ps, b, r => by
    rw [List.foldl_cons]
    by_cases c : p.2 < b.2
    · rw [show stepP (b :: r) p = p :: popF 1 p (b :: r) by show (if p.2 < b.2 then pushF 1 (b :: r) p else b :: r) = _; rw [if_pos c]; rfl, foldP_is ps p _, domF, if_pos c, List.foldl_cons]
      rfl
    · rw [show stepP (b :: r) p = b :: r by show (if p.2 < b.2 then pushF 1 (b :: r) p else b :: r) = _; rw [if_neg c], foldP_is ps b r, domF, if_neg c]
theorem domF_sub : ∀ (ps : List Pt) (m : Int), ∀ x ∈ domF m ps, x ∈ ps ∧ x.2 < m
  | [], _, x, h => nomatch h
  | p :: ps, m, x, h => by
    rw [domF] at h
    split at h
    · rcases List.mem_cons.mp h with rfl | h
      · exact ⟨List.mem_cons_self, by assumption⟩
      · obtain ⟨a, b⟩ := domF_sub ps _ x h
        exact ⟨List.mem_cons_of_mem _ a, by omega⟩
    · obtain ⟨a, b⟩ := domF_sub ps _ x h
      exact ⟨List.mem_cons_of_mem _ a, b⟩
theorem domF_fal : ∀ (ps : List Pt) (p : Pt), (p :: ps).Pairwise le2 → (p :: domF p.2 ps).Pairwise Fal := by
  have go : ∀ (ps : List Pt) (m : Int), ps.Pairwise le2 → (domF m ps).Pairwise Fal := by
    intro ps
    induction ps with
    | nil => intro m _; exact List.Pairwise.nil
    | cons q ps ih =>
      intro m h
      obtain ⟨h1, h2⟩ := List.pairwise_cons.mp h
      rw [domF]
      split
      · refine List.pairwise_cons.mpr ⟨fun x hx => ?_, ih _ h2⟩
        obtain ⟨a, b⟩ := domF_sub ps _ x hx
        have := h1 x a
        unfold le2 at this
        exact ⟨by omega, b⟩
      · exact ih _ h2
  intro ps p h
  obtain ⟨h1, h2⟩ := List.pairwise_cons.mp h
  refine List.pairwise_cons.mpr ⟨fun x hx => ?_, go ps _ h2⟩
  obtain ⟨a, b⟩ := domF_sub ps _ x hx
  have := h1 x a
  unfold le2 at this
  exact ⟨by omega, b⟩
/-- each one has one that is nowhere above it -/
theorem domF_dom : ∀ (ps : List Pt) (p : Pt), (p :: ps).Pairwise le2 → ∀ x ∈ p :: ps, ∃ y ∈ p :: domF p.2 ps, y.1 ≤ x.1 ∧ y.2 ≤ x.2
  | [], p, _, x, h => by
    rw [List.mem_singleton.mp h]
    exact ⟨p, List.mem_cons_self, Int.le_refl _, Int.le_refl _⟩
  | q :: ps, p, so, x, h => by
    obtain ⟨h1, h2⟩ := List.pairwise_cons.mp so
    obtain ⟨h3, h4⟩ := List.pairwise_cons.mp h2
    have hq := h1 q List.mem_cons_self
    unfold le2 at hq
    rcases List.mem_cons.mp h with rfl | h
    · exact ⟨x, List.mem_cons_self, Int.le_refl _, Int.le_refl _⟩
    · rw [domF]
      by_cases c : q.2 < p.2
      · rw [if_pos c]
        obtain ⟨y, my, a, b⟩ := domF_dom ps q h2 x h
        exact ⟨y, List.mem_cons_of_mem _ my, a, b⟩
      · rw [if_neg c]
        rcases List.mem_cons.mp h with rfl | h
        · exact ⟨p, List.mem_cons_self, by omega, by omega⟩
        · exact domF_dom ps p (List.pairwise_cons.mpr ⟨fun z hz => h1 z (List.mem_cons_of_mem _ hz), h4⟩) x (List.mem_cons_of_mem _ h)
theorem fal_tri {F : List Pt} (h : F.Pairwise Fal) {a b : Pt} (ha : a ∈ F) (hb : b ∈ F) : a = b ∨ Fal a b ∨ Fal b a := by
  induction F with
  | nil => cases ha
  | cons x F ih =>
    obtain ⟨h1, h2⟩ := List.pairwise_cons.mp h
    rcases List.mem_cons.mp ha with ea | ha
    · rcases List.mem_cons.mp hb with eb | hb
      · exact .inl (ea.trans eb.symm)
      · rw [ea]
        exact .inr (.inl (h1 b hb))
    · rcases List.mem_cons.mp hb with eb | hb
      · rw [eb]
        exact .inr (.inr (h1 a ha))
      · exact ih h2 ha hb
theorem fal_lt {F : List Pt} (h : F.Pairwise Fal) {a b : Pt} (ha : a ∈ F) (hb : b ∈ F) (l : lt2 a b) : Fal a b := by
  rcases fal_tri h ha hb with rfl | z | z
  · exact absurd l lt2_irr
  · exact z
  · unfold lt2 at l
    unfold Fal at z
    omega
/-- where the lines of an edge meet, and how far others lie above -/
theorem meet_at {a b : Pt} (f : Fal a b) : ∃ u : Rat, 0 < u ∧ u < 1 ∧ lv (toL a) u = lv (toL b) u ∧ (∀ t : Rat, lv (toL a) t < lv (toL b) t ↔ t < u) ∧ ∀ p : Pt, (0 ≤ tn a b p → lv (toL a) u ≤ lv (toL p) u) ∧ (0 < tn a b p → lv (toL a) u < lv (toL p) u) := by
  obtain ⟨f1, f2⟩ := f
  have A : (0 : Rat) < (b.1 : Rat) - a.1 := by
    have : (a.1 : Rat) < (b.1 : Rat) := by exact_mod_cast f1
    grind
  have B : (0 : Rat) < (a.2 : Rat) - b.2 := by
    have : (b.2 : Rat) < (a.2 : Rat) := by exact_mod_cast f2
    grind
  generalize hA : (b.1 : Rat) - a.1 = α at A
  generalize hB : (a.2 : Rat) - b.2 = β at B
  have s : (0 : Rat) < α + β := by grind
  have e : α / (α + β) * (α + β) = α := Rat.div_mul_cancel (by grind)
  generalize hu : α / (α + β) = u at e
  have u0 : 0 < u := by
    refine Classical.byContradiction fun z => ?_
    have : 0 ≤ -u * (α + β) := Rat.mul_nonneg (by grind) (by grind)
    grind
  have u1 : u < 1 := by
    refine Classical.byContradiction fun z => ?_
    have : 0 ≤ (u - 1) * (α + β) := Rat.mul_nonneg (by grind) (by grind)
    grind
  have key : ∀ p : Pt, (lv (toL p) u - lv (toL a) u) * (α + β) = ((tn a b p : Int) : Rat) := fun p => by
    rw [lv_toL, lv_toL]
    unfold tn
    push_cast
    grind
  have dif : ∀ t : Rat, lv (toL b) t - lv (toL a) t = (u - t) * (α + β) := fun t => by
    rw [lv_toL, lv_toL]
    grind
  refine ⟨u, u0, u1, ?_, fun t => ?_, fun p => ⟨fun h => ?_, fun h => ?_⟩⟩
  · have := dif u
    grind
  · have d := dif t
    constructor
    · intro h
      refine Classical.byContradiction fun z => ?_
      have : 0 ≤ (t - u) * (α + β) := Rat.mul_nonneg (by grind) (by grind)
      grind
    · intro h
      have : 0 < (u - t) * (α + β) := Rat.mul_pos (by grind) s
      grind
  · have k := key p
    have h' : (0 : Rat) ≤ ((tn a b p : Int) : Rat) := by exact_mod_cast h
    refine Classical.byContradiction fun z => ?_
    have : 0 < (lv (toL a) u - lv (toL p) u) * (α + β) := Rat.mul_pos (by grind) s
    grind
  · have k := key p
    have h' : (0 : Rat) < ((tn a b p : Int) : Rat) := by exact_mod_cast h
    refine Classical.byContradiction fun z => ?_
    have : 0 ≤ (lv (toL a) u - lv (toL p) u) * (α + β) := Rat.mul_nonneg (by grind) (by grind)
    grind
theorem toL_ne {a b : Pt} (h : a ≠ b) : toL a ≠ toL b := fun e => h (by
  unfold toL at e
  have e1 := congrArg Prod.fst e
  have e2 := congrArg Prod.snd e
  simp only at e1 e2
  exact Prod.ext e1 (by omega))
theorem env_chainF {F : List Pt} (fal : F.Pairwise Fal) : ∀ (r : List Pt) (c : Pt) (t : Rat), Pr (fun a b => NxC F a b ∧ lt2 a b) (c :: r) → c ∈ F → (∀ z, (c :: r).getLast? = some z → ∀ p ∈ F, z.2 ≤ p.2) → t < 1 → Lead (F.map toL) (toL c) t →
    ∃ us : List (Rat × Ln), us.map (·.2) = r.map toL ∧ Env (F.map toL) t (toL c) us := by
  intro r
  induction r with
  | nil =>
    intro c t _ hc la t1 ld
    refine ⟨[], rfl, t1, ld, below_of_lead ld (List.mem_map_of_mem hc) fun x hx _ => ?_⟩
    obtain ⟨p, hp, rfl⟩ := List.mem_map.mp hx
    have h := la c rfl p hp
    have h' : (c.2 : Rat) ≤ (p.2 : Rat) := by exact_mod_cast h
    rw [lv_toL, lv_toL]
    grind
  | cons k r ih =>
    intro c t pr hc la t1 ld
    obtain ⟨⟨nx, lt⟩, pr2⟩ := pr
    have hk : k ∈ F := nx.1.2.1
    have f := fal_lt fal hc hk lt
    obtain ⟨u, u0, u1, eq, before, over⟩ := meet_at f
    have kl : (toL k).2 < (toL c).2 := by
      unfold toL
      unfold Fal at f
      simp only
      omega
    have tu : t < u := by
      rw [← before t]
      rcases ld (toL k) (List.mem_map_of_mem hk) with z | ⟨_, z⟩
      · exact z
      · omega
    have low : ∀ x ∈ F.map toL, lv (toL c) u ≤ lv x u := fun x hx => by
      obtain ⟨p, hp, rfl⟩ := List.mem_map.mp hx
      exact (over p).1 (nx.1.2.2.2 p hp)
    have ld2 : Lead (F.map toL) (toL k) u := lead_next ld tu eq kl fun x hx s => by
      obtain ⟨p, hp, rfl⟩ := List.mem_map.mp hx
      by_cases z : tn c k p = 0
      · right
        have e0 : lv (toL c) u ≤ lv (toL p) u := (over p).1 (by omega)
        have on : p = c ∨ p = k ∨ Btw c p k := nx.2 p hp z
        have ord : p = c ∨ p = k ∨ (Fal c p ∧ Fal p k) := by
          rcases on with h | h | h
          · exact .inl h
          · exact .inr (.inl h)
          · right; right
            rcases h with ⟨h1, h2⟩ | ⟨h1, h2⟩
            · exact ⟨fal_lt fal hc hp h1, fal_lt fal hp hk h2⟩
            · exact absurd (lt2_tr (lt2_tr h1 h2) lt) lt2_irr
        have ek : (toL k).2 ≤ (toL p).2 := by
          rcases ord with rfl | rfl | ⟨_, h⟩
          · omega
          · exact Int.le_refl _
          · unfold Fal at h
            unfold toL
            simp only
            omega
        refine ⟨?_, ek⟩
        -- on the line through both: as high where these meet
        have swap : 0 ≤ tn c k p ∧ tn c k p ≤ 0 := by omega
        obtain ⟨u', _, _, eq', before', over'⟩ := meet_at f
        have key : (lv (toL p) u - lv (toL c) u) * (((k.1 : Rat) - c.1) + ((c.2 : Rat) - k.2)) = ((tn c k p : Int) : Rat) := by
          have d : lv (toL c) u - lv (toL k) u = 0 := by grind
          rw [lv_toL, lv_toL] at d
          rw [lv_toL, lv_toL]
          unfold tn
          push_cast
          grind
        rw [z] at key
        have pos : (0 : Rat) < ((k.1 : Rat) - c.1) + ((c.2 : Rat) - k.2) := by
          have h1 : (c.1 : Rat) < (k.1 : Rat) := by exact_mod_cast f.1
          have h2 : (k.2 : Rat) < (c.2 : Rat) := by exact_mod_cast f.2
          grind
        have : lv (toL p) u - lv (toL c) u = 0 := by
          rcases Rat.mul_eq_zero.mp key with h | h
          · exact h
          · grind
        grind
      · left
        exact (over p).2 (by have := nx.1.2.2.2 p hp; omega)
    obtain ⟨us, e, env⟩ := ih k u pr2 hk (fun z hz p hp => la z (by rw [List.getLast?_cons_cons]; exact hz) p hp) u1 ld2
    refine ⟨(u, toL k) :: us, by rw [List.map_cons, List.map_cons, e], tu, ld, below_of_lead ld (List.mem_map_of_mem hc) fun x hx _ => low x hx, toL_ne fun e => ?_, eq, List.mem_map_of_mem hk, env⟩
    rw [e] at lt
    exact lt2_irr lt
/-- those that are left out lie above others -/
theorem env_dom {F ps : List Pt} (sub : ∀ x ∈ F, x ∈ ps) (dom : ∀ x ∈ ps, ∃ y ∈ F, y.1 ≤ x.1 ∧ y.2 ≤ x.2) : ∀ {us : List (Rat × Ln)} {t : Rat} {l : Ln}, 0 ≤ t → Env (F.map toL) t l us → Env (ps.map toL) t l us := by
  have up : ∀ {x y : Pt} {t : Rat}, 0 ≤ t → t ≤ 1 → y.1 ≤ x.1 → y.2 ≤ x.2 → lv (toL y) t ≤ lv (toL x) t := fun {x y t} t0 t1 a b => by
    have h1 : (y.1 : Rat) ≤ (x.1 : Rat) := by exact_mod_cast a
    have h2 : (y.2 : Rat) ≤ (x.2 : Rat) := by exact_mod_cast b
    have p1 : 0 ≤ ((x.1 : Rat) - y.1) * (1 - t) := Rat.mul_nonneg (by grind) (by grind)
    have p2 : 0 ≤ ((x.2 : Rat) - y.2) * t := Rat.mul_nonneg (by grind) t0
    rw [lv_toL, lv_toL]
    grind
  have up_lt : ∀ {x y : Pt} {t : Rat}, 0 < t → t < 1 → y.1 ≤ x.1 → y.2 ≤ x.2 → y ≠ x → lv (toL y) t < lv (toL x) t := fun {x y t} t0 t1 a b ne => by
    have h1 : (y.1 : Rat) ≤ (x.1 : Rat) := by exact_mod_cast a
    have h2 : (y.2 : Rat) ≤ (x.2 : Rat) := by exact_mod_cast b
    rw [lv_toL, lv_toL]
    by_cases c : y.1 = x.1
    · have d : y.2 < x.2 := by
        have : y.2 ≠ x.2 := fun z => ne (Prod.ext c z)
        omega
      have h3 : (y.2 : Rat) < (x.2 : Rat) := by exact_mod_cast d
      have p2 : 0 < ((x.2 : Rat) - y.2) * t := Rat.mul_pos (by grind) t0
      rw [c]
      grind
    · have h3 : (y.1 : Rat) < (x.1 : Rat) := by exact_mod_cast (show y.1 < x.1 by omega)
      have p1 : 0 < ((x.1 : Rat) - y.1) * (1 - t) := Rat.mul_pos (by grind) (by grind)
      have p2 : 0 ≤ ((x.2 : Rat) - y.2) * t := Rat.mul_nonneg (by grind) (by grind)
      grind
  have lead : ∀ {t : Rat} {l : Ln}, 0 ≤ t → t < 1 → Lead (F.map toL) l t → Lead (ps.map toL) l t := fun {t l} t0 t1 h x hx => by
    obtain ⟨p, hp, rfl⟩ := List.mem_map.mp hx
    obtain ⟨y, hy, a, b⟩ := dom p hp
    have u1 := up t0 (by grind) a b
    rcases h (toL y) (List.mem_map_of_mem hy) with z | ⟨z, z2⟩
    · left; grind
    · by_cases c : lv (toL y) t < lv (toL p) t
      · left; grind
      · right
        refine ⟨by grind, ?_⟩
        by_cases q : y = p
        · rw [← q]; exact z2
        · by_cases t00 : t = 0
          · subst t00
            rw [lv_toL, lv_toL] at c u1
            have e1 : (y.1 : Rat) = (p.1 : Rat) := by grind
            have e1 : y.1 = p.1 := by exact_mod_cast e1
            have : (toL y).2 ≤ (toL p).2 := by
              unfold toL
              simp only
              omega
            omega
          · exact absurd (up_lt (by grind) t1 a b q) c
  have below : ∀ {t u : Rat} {l : Ln}, 0 ≤ t → u ≤ 1 → Below (F.map toL) l t u → Below (ps.map toL) l t u := fun {t u l} t0 u1 h m h1 h2 x hx ne => by
    obtain ⟨p, hp, rfl⟩ := List.mem_map.mp hx
    obtain ⟨y, hy, a, b⟩ := dom p hp
    by_cases c : toL y = l
    · subst c
      exact up_lt (by grind) (by grind) a b fun e => ne (by rw [e])
    · have := h m h1 h2 (toL y) (List.mem_map_of_mem hy) c
      have := up (t := m) (by grind) (by grind) a b
      grind
  intro us
  induction us with
  | nil => intro t l t0 h; exact ⟨h.1, lead t0 h.1 h.2.1, below t0 (by grind) h.2.2⟩
  | cons x us ih =>
    intro t l t0 h
    obtain ⟨u, k⟩ := x
    obtain ⟨tu, ld, bl, ne, e, hk, E⟩ := h
    have u1 : u < 1 := by
      cases us with
      | nil => exact E.1
      | cons y us =>
        have go : ∀ (r : List (Rat × Ln)) (t : Rat) (l : Ln), Env (F.map toL) t l r → t < 1 := by
          intro r
          induction r with
          | nil => intro t l h; exact h.1
          | cons y r ih => intro t l h; obtain ⟨a, _, _, _, _, _, b⟩ := h; have := ih _ _ b; grind
        exact go _ _ _ E
    refine ⟨tu, lead t0 (by grind) ld, below t0 (by grind) bl, ne, e, ?_, ih (by grind) E⟩
    obtain ⟨p, hp, rfl⟩ := List.mem_map.mp hk
    exact List.mem_map_of_mem (sub p hp)
/-- the chain of ascending lines tells what is met -/
theorem chain_env {p0 : Pt} {ps : List Pt} (so : (p0 :: ps).Pairwise le2) : ∃ r us, ((p0 :: ps).foldl stepP []).reverse = p0 :: r ∧ us.map (·.2) = r.map toL ∧ Env ((p0 :: ps).map toL) 0 (toL p0) us := by
  have fal := domF_fal ps p0 so
  have e0 : (p0 :: ps).foldl stepP [] = stk 1 (p0 :: domF p0.2 ps) := by
    rw [List.foldl_cons]
    show ps.foldl stepP [p0] = _
    rw [foldP_is]
    rfl
  rw [e0]
  generalize hF : p0 :: domF p0.2 ps = F at fal
  have hp0 : p0 ∈ F := by rw [← hF]; exact List.mem_cons_self
  have soF : F.Pairwise lt2 := fal.imp fun h => .inl h.1
  have ch : Chn 1 F (stk 1 F) := by
    rw [← hF] at soF ⊢
    exact chn_all (by decide) (by decide) _ _ soF
  have nx := stk_nxc soF
  have ne : stk 1 F ≠ [] := by
    rw [← hF]
    exact fold_ne 1 (domF p0.2 ps) [p0] (by simp)
  obtain ⟨z, ez⟩ : ∃ z, (stk 1 F).getLast? = some z := ⟨_, List.getLast?_eq_some_getLast ne⟩
  have z0 : z = p0 := by
    have zF := ch.sub z (List.mem_of_getLast? ez)
    rcases ch.bot p0 hp0 z ez with h | h
    · exact h.symm
    · rw [← hF] at zF
      rcases List.mem_cons.mp zF with h2 | h2
      · exact h2
      · have := (List.pairwise_cons.mp (hF ▸ soF)).1 z h2
        exact absurd (lt2_tr this h) lt2_irr
  obtain ⟨r, er⟩ : ∃ r, (stk 1 F).reverse = p0 :: r := by
    have : (stk 1 F).reverse.head? = some p0 := by rw [List.head?_reverse, ez, z0]
    cases hr : (stk 1 F).reverse with
    | nil => rw [hr] at this; cases this
    | cons a r => rw [hr] at this; cases this; exact ⟨r, rfl⟩
  have pr : Pr (fun a b => NxC F a b ∧ lt2 a b) (p0 :: r) := by
    rw [← er]
    exact pr_rev fun e he => ⟨nx e he, edg_lt _ ch.srt e he⟩
  have top : ∀ z, (p0 :: r).getLast? = some z → ∀ p ∈ F, z.2 ≤ p.2 := fun y hy p hp => by
    rw [← er, List.getLast?_reverse] at hy
    have yF := ch.sub y (List.mem_of_head? hy)
    rcases ch.top p hp y hy with rfl | h
    · exact Int.le_refl _
    · have := (fal_lt fal hp yF h).2
      omega
  have lead : Lead (F.map toL) (toL p0) 0 := fun x hx => by
    obtain ⟨p, hp, rfl⟩ := List.mem_map.mp hx
    have e1 : ∀ q : Pt, lv (toL q) 0 = (q.1 : Rat) := fun q => by
      rw [lv_toL]
      grind
    rw [e1, e1]
    rcases fal_tri fal hp0 hp with rfl | h | h
    · exact .inr ⟨rfl, Int.le_refl _⟩
    · left
      exact_mod_cast h.1
    · rw [← hF] at hp
      rcases List.mem_cons.mp hp with rfl | h2
      · exact .inr ⟨rfl, Int.le_refl _⟩
      · have := (List.pairwise_cons.mp (hF ▸ fal)).1 p h2
        unfold Fal at this h
        omega
  obtain ⟨us, e1, env⟩ := env_chainF fal r p0 0 pr hp0 top (by grind) lead
  refine ⟨r, us, er, e1, env_dom (F := F) (fun x hx => ?_) ?_ (by grind) env⟩
  · rw [← hF] at hx
    rcases List.mem_cons.mp hx with rfl | h
    · exact List.mem_cons_self
    · exact List.mem_cons_of_mem _ (domF_sub ps _ x h).1
  · rw [← hF]
    exact domF_dom ps p0 so
/-- no three sites stand so that the whole way is as far from all -/
theorem three_far {k v1 v2 w1 w2 d1 d2 e1 e2 : Int} (hk : 0 < k) (hw : ¬ (w1 = 0 ∧ w2 = 0)) (pd : w1 * d1 + w2 * d2 = 0) (pe : w1 * e1 + w2 * e2 = 0) (qd : d1 * v1 + d2 * v2 + k * (d1 * d1 + d2 * d2) = 0) (qe : e1 * v1 + e2 * v2 + k * (e1 * e1 + e2 * e2) = 0)
    (nd : ¬ (d1 = 0 ∧ d2 = 0)) (ne : ¬ (e1 = 0 ∧ e2 = 0)) : d1 = e1 ∧ d2 = e2 := by
  have par : d1 * e2 = d2 * e1 := by
    by_cases c : w1 = 0
    · subst c
      have w0 : w2 ≠ 0 := fun z => hw ⟨rfl, z⟩
      have a : d2 = 0 := by
        have : w2 * d2 = 0 := by omega
        exact (Int.mul_eq_zero.mp this).resolve_left w0
      have b : e2 = 0 := by
        have : w2 * e2 = 0 := by omega
        exact (Int.mul_eq_zero.mp this).resolve_left w0
      rw [a, b]
      omega
    · have : w1 * (d1 * e2 - d2 * e1) = 0 := by grind
      have := (Int.mul_eq_zero.mp this).resolve_left c
      omega
  have a1 : k * ((d1 * d1 + d2 * d2) * e1 - (e1 * e1 + e2 * e2) * d1) = 0 := by grind
  have a2 : k * ((d1 * d1 + d2 * d2) * e2 - (e1 * e1 + e2 * e2) * d2) = 0 := by grind
  have b1 := (Int.mul_eq_zero.mp a1).resolve_left (by omega)
  have b2 := (Int.mul_eq_zero.mp a2).resolve_left (by omega)
  have sq : ∀ x : Int, 0 ≤ x * x := fun x => by
    rcases Int.le_total 0 x with h | h
    · exact Int.mul_nonneg h h
    · exact Int.mul_nonneg_of_nonpos_of_nonpos h h
  have sq0 : ∀ x y : Int, x * x + y * y = 0 → x = 0 ∧ y = 0 := fun x y h => by
    have h1 := sq x
    have h2 := sq y
    have h3 : x * x = 0 := by omega
    have h4 : y * y = 0 := by omega
    exact ⟨(Int.mul_eq_zero.mp h3).elim id id, (Int.mul_eq_zero.mp h4).elim id id⟩
  have de : (e1 * e1 + e2 * e2) * ((d1 * d1 + d2 * d2) - (d1 * e1 + d2 * e2)) = 0 := by grind
  have dd : (d1 * d1 + d2 * d2) * ((e1 * e1 + e2 * e2) - (d1 * e1 + d2 * e2)) = 0 := by grind
  have c1 := (Int.mul_eq_zero.mp de).resolve_left fun z => ne (sq0 _ _ z)
  have c2 := (Int.mul_eq_zero.mp dd).resolve_left fun z => nd (sq0 _ _ z)
  have fin := sq0 (d1 - e1) (d2 - e2) (by grind)
  exact ⟨by omega, by omega⟩
/-! ### lines of sites, by both ends -/
/-- a site's line, told by its heights at both ends -/
def Way.pt (w : Way) (s : Int × Int) : Pt := ((w.ln s).1, (w.ln s).1 + (w.ln s).2)
theorem Way.toL_pt (w : Way) (s : Int × Int) : toL (w.pt s) = w.ln s := by
  unfold toL Way.pt
  refine Prod.ext rfl ?_
  show (w.ln s).1 + (w.ln s).2 - (w.ln s).1 = _
  omega
theorem Way.pt_inj {w : Way} {s r : Int × Int} : w.pt s = w.pt r ↔ w.ln s = w.ln r := by
  constructor
  · intro h
    rw [← w.toL_pt, ← w.toL_pt, h]
  · intro h
    unfold Way.pt
    rw [h]
/-- two places in lowest terms with the same ratios are one -/
theorem low_one {ax ay ad bx by' bd : Int} (ha : 1 ≤ ad) (hb : 1 ≤ bd) (ga : Nat.gcd (Nat.gcd ax.natAbs ay.natAbs) ad.natAbs = 1) (gb : Nat.gcd (Nat.gcd bx.natAbs by'.natAbs) bd.natAbs = 1) (h1 : bd * ax = ad * bx) (h2 : bd * ay = ad * by') : ax = bx ∧ ay = by' ∧ ad = bd := by
  have go : ∀ {ax ay ad bx by' bd : Int}, Nat.gcd (Nat.gcd ax.natAbs ay.natAbs) ad.natAbs = 1 → bd * ax = ad * bx → bd * ay = ad * by' → ad.natAbs ∣ bd.natAbs := by
    intro ax ay ad bx by' bd g e1 e2
    have d1 : ad.natAbs ∣ bd.natAbs * ax.natAbs := by
      rw [← Int.natAbs_mul, e1, Int.natAbs_mul]
      exact Nat.dvd_mul_right _ _
    have d2 : ad.natAbs ∣ bd.natAbs * ay.natAbs := by
      rw [← Int.natAbs_mul, e2, Int.natAbs_mul]
      exact Nat.dvd_mul_right _ _
    have d3 : ad.natAbs ∣ bd.natAbs * ad.natAbs := Nat.dvd_mul_left _ _
    have d := Nat.dvd_gcd (Nat.dvd_gcd d1 d2) d3
    rw [Nat.gcd_mul_left, Nat.gcd_mul_left, g, Nat.mul_one] at d
    exact d
  have e : ad.natAbs = bd.natAbs := Nat.dvd_antisymm (go ga h1 h2) (go gb h1.symm h2.symm)
  have e' : ad = bd := by omega
  subst e'
  refine ⟨?_, ?_, rfl⟩
  · exact Int.eq_of_mul_eq_mul_left (by omega) h1
  · exact Int.eq_of_mul_eq_mul_left (by omega) h2
/-- at most two sites share a line -/
theorem two_far {w : Way} (ha : 1 ≤ w.ad) (hb : 1 ≤ w.bd) (ga : Nat.gcd (Nat.gcd w.ax.natAbs w.ay.natAbs) w.ad.natAbs = 1) (gb : Nat.gcd (Nat.gcd w.bx.natAbs w.by'.natAbs) w.bd.natAbs = 1) (ne : ¬ (w.ax = w.bx ∧ w.ay = w.by' ∧ w.ad = w.bd)) {s r t : Int × Int} (e1 : w.ln s = w.ln r) (e2 : w.ln s = w.ln t) (n1 : r ≠ s) (n2 : t ≠ s) : r = t := by
  have hw : ¬ (2 * w.bd * w.ax - 2 * w.ad * w.bx = 0 ∧ 2 * w.bd * w.ay - 2 * w.ad * w.by' = 0) := fun ⟨h1, h2⟩ => ne (low_one ha hb ga gb (by rw [Int.mul_assoc, Int.mul_assoc] at h1; omega) (by rw [Int.mul_assoc, Int.mul_assoc] at h2; omega))
  have k0 : 0 < w.ad * w.bd := Int.mul_pos (by omega) (by omega)
  obtain ⟨s1, s2⟩ := s
  obtain ⟨r1, r2⟩ := r
  obtain ⟨t1, t2⟩ := t
  unfold Way.ln at e1 e2
  have a1 := congrArg Prod.fst e1
  have a2 := congrArg Prod.snd e1
  have b1 := congrArg Prod.fst e2
  have b2 := congrArg Prod.snd e2
  simp only at a1 a2 b1 b2
  have := three_far (k := w.ad * w.bd) (v1 := 2 * (w.ad * w.bd) * s1 - 2 * w.bd * w.ax) (v2 := 2 * (w.ad * w.bd) * s2 - 2 * w.bd * w.ay) (d1 := r1 - s1) (d2 := r2 - s2) (e1 := t1 - s1) (e2 := t2 - s2) k0 hw (by grind) (by grind) (by grind) (by grind)
    (fun ⟨h1, h2⟩ => n1 (Prod.ext (show r1 = s1 by omega) (show r2 = s2 by omega))) (fun ⟨h1, h2⟩ => n2 (Prod.ext (show t1 = s1 by omega) (show t2 = s2 by omega)))
  exact Prod.ext (show r1 = t1 by omega) (show r2 = t2 by omega)
/-! the program's chain of lines, at addresses -/
section
variable {S : Type} (g : S → Pt)
def popC (s : S) : List S → List S
  | b :: a :: r => if tn (g a) (g b) (g s) < 1 then popC s (a :: r) else b :: a :: r
  | l => l
def stepC (st : List S) (s : S) : List S := match st with
  | [] => [s]
  | b :: r => if (g s).2 < (g b).2 then s :: popC g s (b :: r) else b :: r
def chC (us : List S) : List S := us.foldl (stepC g) []
theorem popC_map (s : S) : ∀ st : List S, (popC g s st).map g = popF 1 (g s) (st.map g)
  | [] => rfl
  | [_] => rfl
  | b :: a :: r => by
    rw [popC, List.map_cons, List.map_cons, popF]
    split
    · exact popC_map s (a :: r)
    · rfl
theorem chC_map (us : List S) : (chC g us).map g = (us.map g).foldl stepP [] := by
  have go : ∀ (us st : List S), (us.foldl (stepC g) st).map g = (us.map g).foldl stepP (st.map g) := by
    intro us
    induction us with
    | nil => intro st; rfl
    | cons u us ih =>
      intro st
      rw [List.foldl_cons, ih, List.map_cons, List.foldl_cons]
      congr 1
      cases st with
      | nil => rfl
      | cons b r =>
        show (if (g u).2 < (g b).2 then u :: popC g u (b :: r) else b :: r).map g = if (g u).2 < (g b).2 then pushF 1 (g b :: r.map g) (g u) else g b :: r.map g
        split
        · rw [List.map_cons, popC_map]
          rfl
        · rfl
  exact go us []
theorem popC_sub (s : S) : ∀ (st : List S), ∀ x ∈ popC g s st, x ∈ st
  | [], _, h => h
  | [_], _, h => h
  | b :: a :: r, x, h => by
    rw [popC] at h
    split at h
    · exact List.mem_cons_of_mem _ (popC_sub s (a :: r) x h)
    · exact h
theorem popC_len (s : S) : ∀ (st : List S), (popC g s st).length ≤ st.length
  | [] => Nat.le_refl _
  | [_] => Nat.le_refl _
  | b :: a :: r => by
    rw [popC]
    split
    · exact Nat.le_trans (popC_len s (a :: r)) (Nat.le_succ _)
    · exact Nat.le_refl _
theorem popC_srt {R : S → S → Prop} (s : S) : ∀ {st : List S}, st.Pairwise R → (popC g s st).Pairwise R
  | [], h => h
  | [_], h => h
  | b :: a :: r, h => by
    rw [popC]
    split
    · exact popC_srt s (st := a :: r) (List.pairwise_cons.mp h).2
    · exact h
theorem chC_snoc {us : List S} {i : Nat} {t : S} (h : us[i]? = some t) : chC g (us.take (i + 1)) = stepC g (chC g (us.take i)) t := by
  unfold chC
  rw [List.take_add_one, h, List.foldl_append]
  rfl
theorem stepC_sub (s : S) (st : List S) : ∀ x ∈ stepC g st s, x = s ∨ x ∈ st := by
  intro x h
  cases st with
  | nil => exact .inl (List.mem_singleton.mp h)
  | cons b r =>
    unfold stepC at h
    simp only at h
    split at h
    · rcases List.mem_cons.mp h with h | h
      · exact .inl h
      · exact .inr (popC_sub g s _ x h)
    · exact .inr h
theorem stepC_len (s : S) (st : List S) : (stepC g st s).length ≤ st.length + 1 := by
  cases st with
  | nil => exact Nat.le_refl _
  | cons b r =>
    unfold stepC
    simp only
    split
    · have := popC_len g s (b :: r)
      rw [List.length_cons]
      omega
    · exact Nat.le_succ _
theorem chC_sub (us : List S) : ∀ x ∈ chC g us, x ∈ us := by
  have go : ∀ (us st : List S), ∀ x ∈ us.foldl (stepC g) st, x ∈ us ∨ x ∈ st := by
    intro us
    induction us with
    | nil => exact fun st x h => .inr h
    | cons u us ih =>
      intro st x h
      rcases ih _ x h with h | h
      · exact .inl (List.mem_cons_of_mem _ h)
      · rcases stepC_sub g u st x h with rfl | h
        · exact .inl List.mem_cons_self
        · exact .inr h
  intro x h
  rcases go us [] x h with h | h
  · exact h
  · cases h
theorem chC_len (us : List S) : (chC g us).length ≤ us.length := by
  have go : ∀ (us st : List S), (us.foldl (stepC g) st).length ≤ us.length + st.length := by
    intro us
    induction us with
    | nil => intro st; rw [List.foldl_nil, List.length_nil]; omega
    | cons u us ih =>
      intro st
      have h1 := ih (stepC g st u)
      have h2 := stepC_len g u st
      rw [List.foldl_cons, List.length_cons]
      omega
  exact go us []
end
/-- the chain and the twins, behind some of the ascending lines: f tells the site of each, tv the twin -/
structure TwOk {S T : Type} (g : S → Pt) (f : S → T) (R : S → S → Prop) (tv : T → Option S) (pre st : List S) : Prop where
  sub : ∀ c ∈ st, c ∈ pre
  fal : st.Pairwise fun a b => Fal (g b) (g a)
  low : ∀ b, st.head? = some b → ∀ τ ∈ pre, (g b).2 ≤ (g τ).2
  keys : ∀ x, (tv x).isSome = true → ∃ τ ∈ pre, f τ = x
  all : ∀ c ∈ st, ∀ τ ∈ pre, g τ = g c → τ = c ∨ tv (f c) = some τ
  is : ∀ c ∈ st, ∀ v, tv (f c) = some v → v ∈ pre ∧ g v = g c ∧ v ≠ c ∧ R c v
  ne : pre ≠ [] → st ≠ []
section
variable {S T : Type} [DecidableEq T] {g : S → Pt} {f : S → T} {R : S → S → Prop} {tv : T → Option S} {pre st : List S} {x b : S}
theorem TwOk.nil : TwOk g f R (fun _ => none) [] [] where
  sub := fun _ h => by cases h
  fal := List.Pairwise.nil
  low := fun _ h => by cases h
  keys := fun _ h => by cases h
  all := fun _ h => by cases h
  is := fun _ h => by cases h
  ne := fun h => absurd rfl h
theorem TwOk.top (h : TwOk g f R tv pre st) (hb : st.head? = some b) : ∀ c ∈ st, c = b ∨ Fal (g c) (g b) := fun c hc => by
  cases st with
  | nil => cases hc
  | cons a l =>
    cases hb
    rcases List.mem_cons.mp hc with e | m
    · exact .inl e
    · exact .inr ((List.pairwise_cons.mp h.fal).1 c m)
theorem TwOk.push (h : TwOk g f R tv pre st) (ord : ∀ τ ∈ pre, le2 (g τ) (g x)) (nf : ∀ τ ∈ pre, f τ ≠ f x) (lt : ∀ b, st.head? = some b → (g x).2 < (g b).2) : TwOk g f R tv (pre ++ [x]) (x :: popC g x st) := by
  have below : ∀ c ∈ st, (g x).2 < (g c).2 := fun c hc => by
    cases hs : st.head? with
    | none => rw [List.head?_eq_none_iff.mp hs] at hc; cases hc
    | some b =>
      have h1 := lt b hs
      rcases h.top hs c hc with rfl | h2
      · exact h1
      · have := h2.2
        omega
  have belowP : ∀ τ ∈ pre, (g x).2 < (g τ).2 := fun τ hτ => by
    cases hs : st.head? with
    | none => exact absurd (List.head?_eq_none_iff.mp hs) (h.ne (List.ne_nil_of_mem hτ))
    | some b =>
      have h1 := lt b hs
      have h2 := h.low b hs τ hτ
      omega
  refine ⟨fun c hc => ?_, ?_, fun b' hb τ hτ => ?_, fun y hy => ?_, fun c hc τ hτ e => ?_, fun c hc v hv => ?_, fun _ => by simp⟩
  · rcases List.mem_cons.mp hc with rfl | m
    · simp
    · exact List.mem_append_left _ (h.sub c (popC_sub g x st c m))
  · refine List.pairwise_cons.mpr ⟨fun a ha => ?_, popC_srt g x h.fal⟩
    have ma := popC_sub g x st a ha
    have h1 := below a ma
    have h2 := ord a (h.sub a ma)
    unfold le2 at h2
    exact ⟨by omega, h1⟩
  · cases hb
    rcases List.mem_append.mp hτ with m | m
    · exact Int.le_of_lt (belowP τ m)
    · rw [List.mem_singleton.mp m]
      exact Int.le_refl _
  · obtain ⟨τ, m, e⟩ := h.keys y hy
    exact ⟨τ, List.mem_append_left _ m, e⟩
  · rcases List.mem_cons.mp hc with rfl | mc
    · rcases List.mem_append.mp hτ with m | m
      · have := belowP τ m
        rw [e] at this
        omega
      · exact .inl (List.mem_singleton.mp m)
    · have mc := popC_sub g x st c mc
      rcases List.mem_append.mp hτ with m | m
      · exact h.all c mc τ m e
      · rw [List.mem_singleton.mp m] at e
        have := below c mc
        rw [e] at this
        omega
  · rcases List.mem_cons.mp hc with rfl | mc
    · obtain ⟨τ, m, e⟩ := h.keys (f c) (by rw [hv]; rfl)
      exact absurd e (nf τ m)
    · obtain ⟨h1, h2⟩ := h.is c (popC_sub g x st c mc) v hv
      exact ⟨List.mem_append_left _ h1, h2⟩
theorem TwOk.apart (h : TwOk g f R tv pre st) (hb : st.head? = some b) (ord : ∀ τ ∈ pre, le2 (g τ) (g x)) {c : S} (hc : c ∈ st) (n : c ≠ b) : g x ≠ g c := fun e => by
  have mb : b ∈ st := List.mem_of_head? hb
  rcases h.top hb c hc with z | z
  · exact n z
  · have h2 := ord b (h.sub b mb)
    unfold le2 at h2
    unfold Fal at z
    rw [e] at h2
    omega
theorem TwOk.skip (h : TwOk g f R tv pre st) (hb : st.head? = some b) (ord : ∀ τ ∈ pre, le2 (g τ) (g x)) (ge : (g b).2 ≤ (g x).2) (n : g x ≠ g b) : TwOk g f R tv (pre ++ [x]) st := by
  refine ⟨fun c hc => List.mem_append_left _ (h.sub c hc), h.fal, fun b' hb' τ hτ => ?_, fun y hy => ?_, fun c hc τ hτ e => ?_, fun c hc v hv => ?_, fun _ z => by rw [z] at hb; cases hb⟩
  · rcases List.mem_append.mp hτ with m | m
    · exact h.low b' hb' τ m
    · rw [hb] at hb'
      cases hb'
      rw [List.mem_singleton.mp m]
      exact ge
  · obtain ⟨τ, m, e⟩ := h.keys y hy
    exact ⟨τ, List.mem_append_left _ m, e⟩
  · rcases List.mem_append.mp hτ with m | m
    · exact h.all c hc τ m e
    · rw [List.mem_singleton.mp m] at e
      by_cases z : c = b
      · rw [z] at e
        exact absurd e n
      · exact absurd e (h.apart hb ord hc z)
  · obtain ⟨h1, h2⟩ := h.is c hc v hv
    exact ⟨List.mem_append_left _ h1, h2⟩
theorem TwOk.twin (h : TwOk g f R tv pre st) (hb : st.head? = some b) (ord : ∀ τ ∈ pre, le2 (g τ) (g x)) (e : g x = g b) (inj : ∀ c ∈ st, f c = f b → c = b) (xb : x ≠ b) (Rb : R b x) (no : tv (f b) = none) : TwOk g f R (fun y => if y = f b then some x else tv y) (pre ++ [x]) st := by
  have mb : b ∈ st := List.mem_of_head? hb
  refine ⟨fun c hc => List.mem_append_left _ (h.sub c hc), h.fal, fun b' hb' τ hτ => ?_, fun y hy => ?_, fun c hc τ hτ e2 => ?_, fun c hc v hv => ?_, fun _ z => by rw [z] at hb; cases hb⟩
  · rcases List.mem_append.mp hτ with m | m
    · exact h.low b' hb' τ m
    · rw [hb] at hb'
      cases hb'
      rw [List.mem_singleton.mp m, e]
      exact Int.le_refl _
  · by_cases z : y = f b
    · exact ⟨b, List.mem_append_left _ (h.sub b mb), z.symm⟩
    · simp only [if_neg z] at hy
      obtain ⟨τ, m, e⟩ := h.keys y hy
      exact ⟨τ, List.mem_append_left _ m, e⟩
  · by_cases z : c = b
    · subst z
      rcases List.mem_append.mp hτ with m | m
      · rcases h.all c hc τ m e2 with q | q
        · exact .inl q
        · rw [no] at q; cases q
      · rw [List.mem_singleton.mp m]
        exact .inr (if_pos rfl)
    · have nf : f c ≠ f b := fun q => z (inj c hc q)
      rcases List.mem_append.mp hτ with m | m
      · simp only [if_neg nf]
        exact h.all c hc τ m e2
      · rw [List.mem_singleton.mp m] at e2
        exact absurd e2 (h.apart hb ord hc z)
  · by_cases z : c = b
    · subst z
      simp only [if_pos] at hv
      cases hv
      exact ⟨by simp, e, xb, Rb⟩
    · have nf : f c ≠ f b := fun q => z (inj c hc q)
      simp only [if_neg nf] at hv
      obtain ⟨h1, h2⟩ := h.is c hc v hv
      exact ⟨List.mem_append_left _ h1, h2⟩
end
/-- the sites of a line of the chain: its own, and its twin -/
theorem tw_si {S U : Type} [DecidableEq U] {w : Way} {f0 : U → Int × Int} {sg : S → U} {g : S → Pt} {R : S → S → Prop} {tv : Int × Int → Option S} {ts rs : List U} {us st : List S} {lt : U → U → Prop} (irr : ∀ a, ¬ lt a a) (tr : ∀ a b c, lt a b → lt b c → lt a c)
    (pm : rs.Perm ts) (so : rs.Pairwise lt) (pu : (us.map sg).Perm ts) (hg : ∀ τ ∈ us, g τ = w.pt (f0 (sg τ))) (h : TwOk g (fun τ => f0 (sg τ)) R tv us st) (hR : ∀ a ∈ us, ∀ b ∈ us, a ≠ b → R a b → lt (sg a) (sg b)) {c : S} (hc : c ∈ st) :
    w.si f0 rs (toL (g c)) = sg c :: ((tv (f0 (sg c))).map sg).toList := by
  have mem : ∀ t, t ∈ w.si f0 rs (toL (g c)) ↔ ∃ τ ∈ us, sg τ = t ∧ g τ = g c := fun t => by
    rw [mem_si, pm.mem_iff, ← pu.mem_iff, List.mem_map]
    constructor
    · rintro ⟨⟨τ, hτ, rfl⟩, e⟩
      refine ⟨τ, hτ, rfl, ?_⟩
      rw [hg τ hτ, hg c (h.sub c hc)] at *
      rw [w.toL_pt] at e
      exact Way.pt_inj.mpr e
    · rintro ⟨τ, hτ, rfl, e⟩
      refine ⟨⟨τ, hτ, rfl⟩, ?_⟩
      rw [← e, hg τ hτ, w.toL_pt]
  refine srt_uniq irr tr (so.sublist List.filter_sublist) ?_ fun t => ?_
  · cases e : tv (f0 (sg c)) with
    | none => exact List.pairwise_singleton _ _
    | some v =>
      obtain ⟨h1, _, h3, h4⟩ := h.is c hc v e
      exact List.pairwise_cons.mpr ⟨fun x hx => by
        rw [show x = sg v from List.mem_singleton.mp hx]
        exact hR c (h.sub c hc) v h1 (fun z => h3 z.symm) h4, List.pairwise_singleton _ _⟩
  · rw [mem]
    constructor
    · rintro ⟨τ, hτ, rfl, e⟩
      rcases h.all c hc τ hτ e with rfl | q
      · exact List.mem_cons_self
      · rw [show tv (f0 (sg c)) = some τ from q]
        simp
    · intro ht
      rcases List.mem_cons.mp ht with rfl | ht
      · exact ⟨c, h.sub c hc, rfl, rfl⟩
      · cases e : tv (f0 (sg c)) with
        | none => rw [e] at ht; cases ht
        | some v =>
          rw [e] at ht
          obtain ⟨h1, h2, _⟩ := h.is c hc v e
          exact ⟨v, h1, (List.mem_singleton.mp ht).symm, h2⟩
/-! ### k26: sites that are handed in -/
section
variable {P : Program} {w : World} {K : PySem.W.Frag} {mg : Str → Option Value} {base : Heap}
theorem ref_at {ts : List Addr} {i : Nat} {x : V} (h : (ts.map V.ref)[i]? = some x) : ∃ t, ts[i]? = some t ∧ x = .ref t ∧ t ∈ ts := by
  rw [List.getElem?_map] at h
  obtain ⟨t, e, e2⟩ := Option.map_eq_some_iff.mp h
  exact ⟨t, e, e2.symm, List.mem_of_getElem? e⟩
/-- a list of sites, no two alike, fewer than 64 -/
structure Lot (f : Addr → Int × Int) (H : Hp) (p : Addr) (ts : List Addr) : Prop where
  at_ : H p = some (.lst (ts.map V.ref))
  pos : 0 < ts.length
  few : ts.length < 64
  sit : SitF f H ts
  nod : (ts.map f).Nodup
theorem Lot.same {f : Addr → Int × Int} {H H' : Hp} {p : Addr} {ts : List Addr} (h : Lot f H p ts) (s : Same H H') : Lot f H' p ts := ⟨s _ _ h.at_, h.pos, h.few, h.sit.same s, h.nod⟩
abbrev s_are_sites : Stmt := topS 10
abbrev n_are_sites : List Str := ["value", "item", "x", "y"]
theorem c_are_sites : FnScope n_are_sites ["value"] (defScope s_are_sites) := ⟨rfl, rfl, rfl, by decide +kernel, rfl, by decide +kernel, by decide +kernel⟩
def p_are_sites : Sp := fun vs H Q _ => ∃ (p : Addr) (ts : List Addr) (f : Addr → Int × Int), vs = [.ref p] ∧ Lot f H p ts ∧ ∀ H', Same H H' → Q (.bl true) H'
set_option pp.maxSteps 300 in
theorem ok_are_sites {tMOST_SITES : Tok} (D : Df K mg "are_sites" s_are_sites ["value"]) (mint : mg "int" = none) (misinstance : mg "isinstance" = none) (mlen : mg "len" = none) (mlist : mg "list" = none) (mset : mg "set" = none) (mtuple : mg "tuple" = none) (mMOST_SITES : mg "MOST_SITES" = some (.int 200 tMOST_SITES)) : Cl P w K mg base CX0 "are_sites" 1 ["value"] (p_are_sites) := by
  refine D.cl fun f fd F => F.ok c_are_sites (fun vs H Q E h => ?_) (fun cdv A outer s H vs Q E hr h => ?_)
  · obtain ⟨p, ts, g, rfl, ⟨hp, l0, l1, hs, nod⟩, q⟩ := h
    rfl
  · obtain ⟨p, ts, g, rfl, ⟨hp, l0, l1, hs, nod⟩, q⟩ := h
    have nd := c_are_sites.nd
    have hu : _ := hu_of hr
    refine ⟨_, (pss_cons (ps_if (PW.pt (pw_or (pt_not (pt_val (pe_callB call_isi (by rfl) misinstance (by decide +kernel) (pa_cons (pv 0) (pa_cons (pe_bltn (v := .ty "list") (by rfl) mlist (by decide +kernel) rfl) pa_nil))))) (pw_or1 (pt_not (pt_chain op_lt op_le pe_int (pe_callB call_len_seq (by rfl) mlen (by decide +kernel) (pa_cons (pv 0) pa_nil)) (pe_glob (v := .int 200) (by rfl) mMOST_SITES ⟨_, rfl⟩)))))) (pss_one (ps_ret pe_bl)) pss_nil) (pss_cons (ps_for PassesOwn.never rfl (pi_list (pv 0)) (pg_name (i := 1) nd rfl (.inl rfl)) (pss_cons (ps_if (PW.pt (pw_or (pt_not (pt_val (pe_callB call_isi (by rfl) misinstance (by decide +kernel) (pa_cons (pv 1) (pa_cons (pe_bltn (v := .ty "tuple") (by rfl) mtuple (by decide +kernel) rfl) pa_nil))))) (pw_or1 (pt_cmpR op_ne (pe_callB call_len_seq (by rfl) mlen (by decide +kernel) (pa_cons (pv 1) pa_nil)) pe_int (nomark _))))) (pss_one (ps_ret pe_bl)) pss_nil) (pss_cons (ps_asg (pv 1) (pg_tup (by rfl) (pgs_cons (pg_name (i := 2) nd rfl (.inl rfl)) (pgs_cons (pg_name (i := 3) nd rfl (.inl rfl)) pgs_nil)))) (pss_cons (ps_if (PW.pt (pw_or (pt_not (pt_val (pe_callB call_isi (by rfl) misinstance (by decide +kernel) (pa_cons (pv 2) (pa_cons (pe_bltn (v := .ty "int") (by rfl) mint (by decide +kernel) rfl) pa_nil))))) (pw_or1 (pt_not (pt_val (pe_callB call_isi (by rfl) misinstance (by decide +kernel) (pa_cons (pv 3) (pa_cons (pe_bltn (v := .ty "int") (by rfl) mint (by decide +kernel) rfl) pa_nil)))))))) (pss_one (ps_ret pe_bl)) pss_nil) (pss_cons (ps_if (PW.pt (pw_or (pt_cmpR op_isIB (pv 2) pe_bl (nomark _)) (pw_or (pt_cmpR op_isIB (pv 2) pe_bl (nomark _)) (pw_or (pt_cmpR op_isIB (pv 3) pe_bl (nomark _)) (pw_or1 (pt_cmpR op_isIB (pv 3) pe_bl (nomark _))))))) (pss_one (ps_ret pe_bl)) pss_nil) (pss_one (ps_if (PW.pt (pw_or (pt_cmpR op_gt (pv 2) pe_int (nomark _)) (pw_or (pt_cmpR op_lt (pv 2) pe_neg (nomark _)) (pw_or (pt_cmpR op_gt (pv 3) pe_int (nomark _)) (pw_or1 (pt_cmpR op_lt (pv 3) pe_neg (nomark _))))))) (pss_one (ps_ret pe_bl)) pss_nil))))))) (pss_one (ps_ret (pe_cmpR op_eq (pe_callB call_len_setN (by rfl) mlen (by decide +kernel) (pa_cons (pe_callTy (cr_setOfT (by rfl) hr.units) (by rfl) mset (by decide +kernel) (pa_cons (pv 0) pa_nil)) pa_nil)) (pe_callB call_len_seq (by rfl) mlen (by decide +kernel) (pa_cons (pv 0) pa_nil)) (nomark _)))))), ?_⟩
    have len : (ts.map V.ref).length = ts.length := List.length_map _
    repeat array_get_dec
    refine ⟨⟨_, SqL.of hp⟩, for_list (K := K) (a := p) (xs := ts.map V.ref) (fun i σ' H' => (∃ y1 y2 y3, σ' = [some (.ref p), y1, y2, y3]) ∧ H' = H) ⟨⟨_, _, _, rfl⟩, rfl⟩ (fun i σ' H' _ z => by rw [z.2]; exact SqL.of hp) (fun i x σ' H' hx z => ?_) fun σ' H' z => ?_⟩
    · obtain ⟨⟨y1, y2, y3, rfl⟩, rfl⟩ := z
      obtain ⟨t, _, rfl, mt⟩ := ref_at hx
      have st := (hs t mt).1
      obtain ⟨b1, b2, b3, b4⟩ := (hs t mt).2
      repeat array_get_dec
      exact ⟨⟨_, _, _, rfl⟩, rfl⟩
    · obtain ⟨⟨y1, y2, y3, rfl⟩, rfl⟩ := z
      refine ⟨_, rfl, p, ts.map fun t => (t, [(g t).1, (g t).2]), rfl, ?_, fun u m => ?_, by rw [List.length_map]; exact l1, fun S LS nS sub cov => ?_⟩
      · rw [List.map_map]
        exact SqL.of hp
      · obtain ⟨t, mt, rfl⟩ := List.mem_map.mp m
        exact SqT.of (hs t mt).1
      · refine ⟨S, LS, rfl, upd_same, fun nd' => ?_⟩
        have inj : ((ts.map fun t => (t, [(g t).1, (g t).2])).map (·.2)).Nodup := by
          rw [List.map_map, show ((fun x : Addr × List Int => x.2) ∘ fun t => (t, [(g t).1, (g t).2])) = (fun q : Int × Int => [q.1, q.2]) ∘ g from rfl, ← List.map_map]
          refine List.Pairwise.map _ (fun a b h e => h ?_) nod
          have e1 : a.1 = b.1 := (List.cons.inj e).1
          have e2 : a.2 = b.2 := (List.cons.inj (List.cons.inj e).2).1
          exact Prod.ext e1 e2
        have c1 : LS.length ≤ ts.length := by
          have z := len_le_of_sub nd' (m := (ts.map fun t => (t, [(g t).1, (g t).2])).map (·.2)) fun x hx => by
            obtain ⟨u, mu, rfl⟩ := List.mem_map.mp hx
            exact List.mem_map.mpr ⟨u, sub u mu, rfl⟩
          simpa using z
        have c2 : ts.length ≤ LS.length := by
          have z := len_le_of_sub inj (m := LS.map (·.2)) fun x hx => by
            obtain ⟨u, mu, rfl⟩ := List.mem_map.mp hx
            exact cov u mu
          simpa using z
        have hp' := (Same.upd nS (o := SetTO P w S LS)) _ _ hp
        have eq : LS.length = ts.length := Nat.le_antisymm c1 c2
        repeat array_get_dec
        show Q (.bl (decide (V.int (LS.length : Nat) = V.int ((ts.map V.ref).length : Nat)))) _
        rw [eq, len, decide_eq_true rfl]
        exact q _ (Same.upd nS)
abbrev s_check_sites : Stmt := topS 11
abbrev n_check_sites : List Str := ["value"]
theorem c_check_sites : FnScope n_check_sites ["value"] (defScope s_check_sites) := ⟨rfl, rfl, rfl, by decide +kernel, rfl, by decide +kernel, by decide +kernel⟩
def p_check_sites : Sp := fun vs H Q _ => ∃ (p : Addr) (ts : List Addr) (f : Addr → Int × Int), vs = [.ref p] ∧ Lot f H p ts ∧ ∀ H', Same H H' → Q .non H'
set_option pp.maxSteps 300 in
theorem ok_check_sites  (D : Df K mg "check_sites" s_check_sites ["value"]) (C_are_sites : Cl P w K mg base CX0 "are_sites" 1 ["value"] (p_are_sites)) : Cl P w K mg base CX0 "check_sites" 2 ["value"] (p_check_sites) := by
  refine D.cl fun f fd F => F.ok c_check_sites (fun vs H Q E h => ?_) (fun cdv A outer s H vs Q E hr h => ?_)
  · obtain ⟨p, ts, g, rfl, hl, q⟩ := h
    rfl
  · obtain ⟨p, ts, g, rfl, hl, q⟩ := h
    have nd := c_check_sites.nd
    have hu : _ := hu_of hr
    refine ⟨_, (pss_one (ps_if (pt_not (pt_val (pe_cl C_are_sites (hr.mono (by decide)) (by rfl) pass0 (pa_cons (pv 0) pa_nil)))) (pss_one ps_never) pss_nil)), ?_⟩
    repeat array_get_dec
    refine ⟨p, ts, g, rfl, hl, fun H1 s1 => ?_⟩
    repeat array_get_dec
    exact q _ s1
abbrev s_with_twin : Stmt := topS 14
abbrev n_with_twin : List Str := ["site", "twins"]
theorem c_with_twin : FnScope n_with_twin ["site", "twins"] (defScope s_with_twin) := ⟨rfl, rfl, rfl, by decide +kernel, rfl, by decide +kernel, by decide +kernel⟩
/-- the twin of a site, if there is one -/
def tw (kvs : List (List L2.Key × V)) (x : Int × Int) : List Addr := match valV kvs (k2 x) with
  | some (.ref t) => [t]
  | _ => []
def p_with_twin : Sp := fun vs H Q _ => ∃ (s d : Addr) (x : Int × Int) (kvs : List (List L2.Key × V)), vs = [.ref s, .ref d] ∧ Sit H s x.1 x.2 ∧ H d = some (.dT kvs) ∧ (valV kvs (k2 x) = none ∨ ∃ t, valV kvs (k2 x) = some (.ref t)) ∧
  ∀ p H', Same H H' → H p = none → H' p = some (.lst ((s :: tw kvs x).map V.ref)) → Q (.ref p) H'
set_option pp.maxSteps 300 in
theorem ok_with_twin  (D : Df K mg "with_twin" s_with_twin ["site", "twins"]) : Cl P w K mg base CX0 "with_twin" 1 ["site", "twins"] (p_with_twin) := by
  refine D.cl fun f fd F => F.ok c_with_twin (fun vs H Q E h => ?_) (fun cdv A outer s H vs Q E hr h => ?_)
  · obtain ⟨s, d, x, kvs, rfl, hs, hd, ht, q⟩ := h
    rfl
  · obtain ⟨s, d, x, kvs, rfl, hs, hd, ht, q⟩ := h
    have nd := c_with_twin.nd
    have hu : _ := hu_of hr
    refine ⟨_, (pss_one (ps_ret (pe_ifExp (pt_cmp (pc_din hu (pv 0) (pv 1))) (pe_lstG (pa_cons (pv 0) (pa_cons (pe_dget hu (pv 1) (pv 0) (fun _ _ => rfl)) pa_nil))) (pe_lstG (pa_cons (pv 0) pa_nil))))), ?_⟩
    repeat array_get_dec
    refine ⟨d, _, rfl, DGet.t (k := k2 x) hd hs, ?_⟩
    unfold tw at q
    rcases ht with ht | ⟨t, ht⟩
    · rw [ht] at q
      rw [ht]
      repeat array_get_dec
      refine fun p H1 s1 n1 e1 => q p H1 s1 n1 e1
    · rw [ht] at q
      rw [ht]
      repeat array_get_dec
      refine ⟨d, .ref t, rfl, ?_, ?_⟩
      · rw [← ht]; exact DGet.t (k := k2 x) hd hs
      repeat array_get_dec
      refine fun p H1 s1 n1 e1 => q p H1 s1 n1 e1
end
section
variable {P : Program} {w : World} {K : PySem.W.Frag} {mg : Str → Option Value} {base : Heap}
abbrev nAsc : List Str := ["sites"]
/-- the sites, ascending -/
abbrev nLines : List Str := ["rows", "a", "b", "ax", "ay", "ad", "bx", "by", "bd", "lines", "site", "x", "y", "begin", "more"]
/-- a line's numbers are not too great -/
def LnB (l : Ln) : Prop := l.1.natAbs < 2 ^ 242 ∧ l.2.natAbs < 2 ^ 242
/-- the ends of a way -/
structure WayOk (w : Way) : Prop where
  a : PlOk w.ax w.ay w.ad
  b : PlOk w.bx w.by' w.bd
theorem two_bits : (2 : Int).natAbs < 2 ^ 2 := by decide
theorem st_bits {x : Int} (h : -1000000 ≤ x ∧ x ≤ 1000000) : x.natAbs < 2 ^ 20 := by omega
theorem WayOk.lnb {w : Way} (h : WayOk w) {s : Int × Int} (d : Bd 1000000 s.1 s.2) : LnB (w.ln s) := by
  obtain ⟨a1, a2, a3⟩ := h.a.bits
  obtain ⟨b1, b2, b3⟩ := h.b.bits
  have x1 := st_bits ⟨d.1, d.2.1⟩
  have y1 := st_bits d.2.2
  have e1 : (w.ad * w.bd * (s.1 * s.1 + s.2 * s.2)).natAbs < 2 ^ (100 + 100 + (20 + 20 + 1)) := wide_lt (wide_lt a3 b3) (nb_add (wide_lt x1 x1) (wide_lt y1 y1))
  have e2 : (2 * w.bd * (w.ax * s.1 + w.ay * s.2)).natAbs < 2 ^ (2 + 100 + (100 + 20 + 1)) := wide_lt (wide_lt two_bits b3) (nb_add (wide_lt a1 x1) (wide_lt a2 y1))
  have e3 : (2 * w.ad * (w.bx * s.1 + w.by' * s.2)).natAbs < 2 ^ (2 + 100 + (100 + 20 + 1)) := wide_lt (wide_lt two_bits a3) (nb_add (wide_lt b1 x1) (wide_lt b2 y1))
  exact ⟨nb_sub e1 (nb_up e2 (by decide)), nb_up (nb_sub e2 e3) (by decide)⟩
/-- the dict of lines at d: q l is the list of the sites of the line l -/
structure LinesAt (f : Addr → Int × Int) (w : Way) (rs : List Addr) (H : Hp) (d : Addr) (Ls : List Ln) (q : Ln → Addr) : Prop where
  at_ : H d = some (.dT (Ls.map fun l => (k2 l, V.ref (q l))))
  mem : ∀ l, l ∈ Ls ↔ l ∈ w.lines f rs
  of : ∀ l ∈ Ls, H (q l) = some (.lst ((w.si f rs l).map V.ref))
theorem k2_inj {l m : Ln} (h : k2 l = k2 m) : l = m := by
  unfold k2 at h
  have h1 := (List.cons.inj h).1
  have h2 := (List.cons.inj (List.cons.inj h).2).1
  exact Prod.ext (Sum.inl.inj h1) (Sum.inl.inj h2)
theorem val_in {Ls : List Ln} {q : Ln → Addr} {l : Ln} (h : l ∈ Ls) : valV (Ls.map fun l => (k2 l, V.ref (q l))) (k2 l) = some (.ref (q l)) := by
  unfold valV
  induction Ls with
  | nil => cases h
  | cons m Ls ih =>
    rw [List.map_cons, List.find?_cons]
    by_cases c : k2 m = k2 l
    · rw [decide_eq_true c]
      show some (V.ref (q m)) = _
      rw [k2_inj c]
    · rw [decide_eq_false c]
      rcases List.mem_cons.mp h with e | h
      · exact absurd (by rw [e]) c
      · exact ih h
theorem val_out {Ls : List Ln} {q : Ln → Addr} {l : Ln} (h : l ∉ Ls) : valV (Ls.map fun l => (k2 l, V.ref (q l))) (k2 l) = none := by
  unfold valV
  rw [List.find?_eq_none.mpr fun x m => ?_]
  · rfl
  · obtain ⟨m, mm, rfl⟩ := List.mem_map.mp m
    intro z
    have z := of_decide_eq_true z
    exact h (by rw [← k2_inj z]; exact mm)
theorem put_out {Ls : List Ln} {q : Ln → Addr} {l : Ln} {D : Addr} (h : l ∉ Ls) : putK (Ls.map fun l => (k2 l, V.ref (q l))) (k2 l) (.ref D) = (Ls ++ [l]).map fun m => (k2 m, V.ref (if m = l then D else q m)) := by
  unfold putK
  rw [if_neg (fun z => ?_), List.map_append]
  · congr 1
    · refine List.map_congr_left fun m mm => ?_
      rw [if_neg (fun z => h (by rw [← z]; exact mm))]
    · rw [List.map_cons, List.map_nil, if_pos rfl]
  · obtain ⟨x, m, e⟩ := List.any_eq_true.mp z
    obtain ⟨m, mm, rfl⟩ := List.mem_map.mp m
    have e := of_decide_eq_true e
    exact h (by rw [← k2_inj e]; exact mm)
theorem lines_snoc {f : Addr → Int × Int} {w : Way} {rs : List Addr} {i : Nat} {t : Addr} (e : rs[i]? = some t) : w.lines f (rs.take (i + 1)) = w.lines f (rs.take i) ++ [w.ln (f t)] := by
  unfold Way.lines
  rw [List.take_add_one, e, Option.toList_some, List.map_append]
  rfl
theorem si_snoc {f : Addr → Int × Int} {w : Way} {rs : List Addr} {i : Nat} {t : Addr} (e : rs[i]? = some t) (l : Ln) : w.si f (rs.take (i + 1)) l = w.si f (rs.take i) l ++ if w.ln (f t) = l then [t] else [] := by
  unfold Way.si
  rw [List.take_add_one, e, Option.toList_some, List.filter_append, List.filter_cons, List.filter_nil]
  by_cases c : w.ln (f t) = l
  · rw [decide_eq_true c, if_pos c, if_pos rfl]
  · rw [decide_eq_false c, if_neg c, if_neg Bool.false_ne_true]
theorem si_nil {f : Addr → Int × Int} {w : Way} {rs : List Addr} {l : Ln} (h : l ∉ w.lines f rs) : w.si f rs l = [] := by
  unfold Way.si
  refine List.filter_eq_nil_iff.mpr fun t m z => h (List.mem_map.mpr ⟨t, m, of_decide_eq_true z⟩)
theorem Same.put {H H' : Hp} {p : Addr} {o : HO} (h : Same H H') (n : H p = none) : Same H (upd H' p o) := fun b x e => by
  rw [upd_ne (ne_of_none e n)]
  exact h _ _ e
theorem Same.free {H H' : Hp} {p : Addr} (h : Same H H') (n : H' p = none) : H p = none := by
  cases z : H p with
  | none => rfl
  | some x => rw [h _ _ z] at n; cases n
end
section
variable {P : Program} {w : World} {K : PySem.W.Frag} {mg : Str → Option Value} {base : Heap}
abbrev nNextL : List Str := ["lines", "line", "top", "bottom", "least", "other", "rise", "fall", "room"]
theorem room_or {a : Bool} {p : Prop} {A B : Prop} (x : a = true → A) (y : ¬ a = true → B) : if a = true then A else B := by
  split
  · exact x ‹_›
  · exact y ‹_›
theorem next_bits {Ls : List Ln} {l : Ln} (hb : ∀ m ∈ Ls, LnB m) (hl : LnB l) (a : Int × Int × Ln) (ha : a.1.natAbs < 2 ^ 243 ∧ a.2.1.natAbs < 2 ^ 243) : (Ls.foldl (nextStep l) a).1.natAbs < 2 ^ 243 ∧ (Ls.foldl (nextStep l) a).2.1.natAbs < 2 ^ 243 := by
  induction Ls generalizing a with
  | nil => exact ha
  | cons o r ih =>
    refine ih (fun m h => hb m (List.mem_cons_of_mem _ h)) _ ?_
    obtain ⟨b1, b2⟩ := hb o List.mem_cons_self
    unfold nextStep
    split
    · split
      · exact ⟨nb_sub b1 hl.1, nb_sub hl.2 b2⟩
      · exact ha
    · exact ha
/-- the pair at t -/
def PairAt (H : Hp) (t : Addr) (l : Ln) : Prop := H t = some (.tup [.int l.1, .int l.2])
end
section
variable {P : Program} {w : World} {K : PySem.W.Frag} {mg : Str → Option Value} {base : Heap}
abbrev nSpans : List Str := ["rows", "a", "b", "lines", "line", "spans", "top", "bottom"]
theorem env_congr {A B : List Ln} (h : ∀ x, x ∈ A ↔ x ∈ B) : ∀ {r : List (Rat × Ln)} {t : Rat} {l : Ln}, Env A t l r → Env B t l r
  | [], _, _, ⟨a, b, c⟩ => ⟨a, fun x hx => b x ((h x).mpr hx), fun m h1 h2 x hx => c m h1 h2 x ((h x).mpr hx)⟩
  | (u, k) :: r, _, _, ⟨a, b, c, d, e, g, i⟩ => ⟨a, fun x hx => b x ((h x).mpr hx), fun m h1 h2 x hx => c m h1 h2 x ((h x).mpr hx), d, e, (h k).mp g, env_congr h i⟩
/-- the spans at us: each a tuple with the list of the sites of its line -/
inductive SpanR (f : Addr → Int × Int) (w : Way) (rs : List Addr) (H1 H : Hp) : List Addr → List Ln → Prop
  | nil : SpanR f w rs H1 H [] []
  | cons {u q : Addr} {x y : Int} {l : Ln} {us : List Addr} {ls : List Ln} (a : H u = some (.tup [.int x, .int y, .ref q])) (b : H1 q = some (.lst ((w.si f rs l).map V.ref))) (r : SpanR f w rs H1 H us ls) : SpanR f w rs H1 H (u :: us) (l :: ls)
section
variable {f : Addr → Int × Int} {w : Way} {rs : List Addr} {H1 H H' : Hp} {us : List Addr} {ls : List Ln}
theorem SpanR.same (h : SpanR f w rs H1 H us ls) (s : Same H H') : SpanR f w rs H1 H' us ls := by
  induction h with
  | nil => exact .nil
  | cons a b _ ih => exact .cons (s _ _ a) b ih
theorem SpanR.put {p : Addr} {xs : List V} {o : HO} (h : SpanR f w rs H1 H us ls) (e : H p = some (.lst xs)) : SpanR f w rs H1 (upd H p o) us ls := by
  induction h with
  | nil => exact .nil
  | cons a b _ ih => exact .cons (by rw [upd_ne (ne_of a e (by intro z; cases z))]; exact a) b ih
theorem SpanR.snoc {u q : Addr} {x y : Int} {l : Ln} (h : SpanR f w rs H1 H us ls) (a : H u = some (.tup [.int x, .int y, .ref q])) (b : H1 q = some (.lst ((w.si f rs l).map V.ref))) : SpanR f w rs H1 H (us ++ [u]) (ls ++ [l]) := by
  induction h with
  | nil => exact .cons a b .nil
  | cons a' b' _ ih => exact .cons a' b' ih
theorem SpanR.len (h : SpanR f w rs H1 H us ls) : us.length = ls.length := by
  induction h with
  | nil => rfl
  | cons _ _ _ ih => rw [List.length_cons, List.length_cons, ih]
end
theorem spans_len (Ls : List Ln) : ∀ n l, (spansF Ls n l).length ≤ n
  | 0, _ => Nat.le_refl _
  | n + 1, l => by
    unfold spansF
    split
    · exact Nat.zero_le _
    · exact Nat.succ_le_succ (spans_len Ls n _)
/-- the lines of the spans -/
def EnvL (f : Addr → Int × Int) (w : Way) (rs : List Addr) (ls : List Ln) : Prop := ∃ l r, ls = l :: r.map (·.2) ∧ l ∈ w.lines f rs ∧ Env (w.lines f rs) 0 l r
end
section
variable {P : Program} {w : World} {K : PySem.W.Frag} {mg : Str → Option Value} {base : Heap}
theorem eqv_pla (x y d u v e : Int) : PyData.eqv (.tuple [.int x, .int y, .int d]) (.tuple [.int u, .int v, .int e]) = decide (x = u ∧ y = v ∧ d = e) := by
  simp [PyData.eqv, PyData.eqvAll, Bool.decide_and, Bool.beq_eq_decide_eq]
theorem dpPla {H : Hp} {t : Addr} {x y d : Int} (h : Pla H t x y d) : Dp K H (.ref t) (.tuple [.int x, .int y, .int d]) := .tup (SqT.of h) (.cons (.int x) (.cons (.int y) (.cons (.int d) .nil)))
theorem SpanR.get {f : Addr → Int × Int} {w : Way} {rs : List Addr} {H1 H : Hp} {us : List Addr} {ls : List Ln} (h : SpanR f w rs H1 H us ls) : ∀ {i : Nat} {u : Addr}, us[i]? = some u → ∃ (q : Addr) (x y : Int) (l : Ln), ls[i]? = some l ∧ H u = some (.tup [.int x, .int y, .ref q]) ∧ H1 q = some (.lst ((w.si f rs l).map V.ref)) := by
  induction h with
  | nil => intro i u e; simp at e
  | @cons u q x y l us ls a b r ih =>
    intro i u' e
    cases i with
    | zero =>
      have e : u = u' := Option.some.inj e
      subst e
      exact ⟨q, x, y, l, rfl, a, b⟩
    | succ i => exact ih e
theorem flat_len {α β : Type} {F : α → List β} : ∀ {ls : List α} {i : Nat} {l : α}, ls[i]? = some l → ((ls.take i).flatMap F).length + (F l).length ≤ (ls.flatMap F).length
  | [], i, l, e => by simp at e
  | a :: ls, 0, l, e => by
    have e : a = l := Option.some.inj e
    subst e
    rw [List.flatMap_cons, List.length_append]
    exact Nat.le_trans (Nat.le_of_eq (Nat.zero_add _)) (Nat.le_add_right _ _)
  | a :: ls, i + 1, l, e => by
    have z := flat_len (F := F) (ls := ls) (i := i) (l := l) e
    rw [List.take_succ_cons, List.flatMap_cons, List.flatMap_cons, List.length_append, List.length_append]
    omega
theorem onway_of {f : Addr → Int × Int} {w : Way} {rs : List Addr} {ls : List Ln} (h : EnvL f w rs ls) : OnWay f w rs (ls.flatMap (w.si f rs)) := by
  obtain ⟨l, r, rfl, hl, E⟩ := h
  refine ⟨l, r, hl, E, ?_⟩
  rw [List.flatMap_cons, List.flatMap_map]
theorem nodup_f {f : Addr → Int × Int} {ts : List Addr} (h : (ts.map f).Nodup) : ts.Nodup := nodup_of_map h
end
/-! ### k26: the lowest lines -/
section
variable {P : Program} {w : World} {K : PySem.W.Frag} {mg : Str → Option Value} {base : Heap}
/-! ends of lists -/
/-- the last two of a list -/
theorem last_two {b a : Addr} {r : List Addr} : atI (((b :: a :: r).reverse).map V.ref) (-1) = some (.ref b) ∧ atI (((b :: a :: r).reverse).map V.ref) (-2) = some (.ref a) := by
  have e : ((b :: a :: r).reverse).map V.ref = r.reverse.map V.ref ++ [V.ref a, V.ref b] := by simp
  rw [e]
  generalize r.reverse.map V.ref = xs
  have hl : (xs ++ [V.ref a, V.ref b]).length = xs.length + 2 := by simp
  have e1 : ixN (xs ++ [V.ref a, V.ref b]).length (-1) = some (xs.length + 1) := by
    unfold ixN
    rw [hl, if_neg (by decide), if_pos (by omega)]
    congr 1
    omega
  have e2 : ixN (xs ++ [V.ref a, V.ref b]).length (-2) = some xs.length := by
    unfold ixN
    rw [hl, if_neg (by decide), if_pos (by omega)]
    congr 1
    omega
  unfold atI
  rw [e1, e2]
  simp
theorem put_top {t : Addr} {st : List Addr} : st.reverse.map V.ref ++ [V.ref t] = ((t :: st).reverse).map V.ref := by simp
theorem drop_top {b : Addr} {st : List Addr} : (((b :: st).reverse).map V.ref).dropLast = st.reverse.map V.ref := by
  rw [List.reverse_cons, List.map_append]
  exact List.dropLast_concat
theorem get_top {b : Addr} {st : List Addr} : (((b :: st).reverse).map V.ref)[(((b :: st).reverse).map V.ref).length - 1]? = some (V.ref b) := by
  rw [List.reverse_cons, List.map_append]
  simp
theorem headI {ts : List Addr} {t : Addr} (h : ts.head? = some t) : atI (ts.map V.ref) 0 = some (.ref t) := by
  cases ts with
  | nil => cases h
  | cons a ts =>
    cases h
    exact atI_nat (j := 0) rfl
theorem lastI {ts : List Addr} {t : Addr} (h : ts.getLast? = some t) : atI (ts.map V.ref) (-1) = some (.ref t) := by
  obtain ⟨ys, rfl⟩ := List.getLast?_eq_some_iff.mp h
  rw [List.map_append]
  exact atI_last _ _
/-- what stands at a triple: two numbers, an address -/
def hx (H : Hp) (t : Addr) : Pt × Addr := match H t with
  | some (.tup [.int x, .int y, .ref u]) => ((x, y), u)
  | _ => ((0, 0), 0)
theorem hx_of {H : Hp} {t u : Addr} {x y : Int} (h : H t = some (.tup [.int x, .int y, .ref u])) : hx H t = ((x, y), u) := by
  unfold hx
  rw [h]
/-- the dict of twins holds the sites of the twins -/
def TwV (kvs : List (List L2.Key × V)) (sg : Addr → Addr) (tv : Int × Int → Option Addr) : Prop := ∀ y, valV kvs (k2 y) = (tv y).map fun τ => V.ref (sg τ)
theorem TwV.put {kvs : List (List L2.Key × V)} {sg : Addr → Addr} {tv : Int × Int → Option Addr} (h : TwV kvs sg tv) (x : Int × Int) (τ : Addr) : TwV (putK kvs (k2 x) (.ref (sg τ))) sg (fun y => if y = x then some τ else tv y) := fun y => by
  rw [valV_put]
  by_cases c : y = x
  · rw [if_pos (by rw [c])]
    simp only [if_pos c]
    rfl
  · rw [if_neg fun e => c (k2_inj e)]
    simp only [if_neg c]
    exact h y
/-- what the lowest lines are: chain and twins -/
structure LowIs (f : Addr → Int × Int) (w : Way) (ts : List Addr) (H : Hp) (cs : List Addr) (kvs : List (List L2.Key × V)) (wt : Addr → Pt) (sg : Addr → Addr) : Prop where
  tri : ∀ c ∈ cs, H c = some (.tup [.int (wt c).1, .int (wt c).2, .ref (sg c)]) ∧ sg c ∈ ts
  env : ∀ rs : List Addr, rs.Perm ts → EnvL f w rs (cs.map fun c => toL (wt c))
  si : ∀ rs : List Addr, rs.Perm ts → rs.Pairwise (fun a b => lexLe (f a) (f b)) → ∀ c ∈ cs, w.si f rs (toL (wt c)) = sg c :: tw kvs (f (sg c))
  val : ∀ c ∈ cs, valV kvs (k2 (f (sg c))) = none ∨ ∃ t, valV kvs (k2 (f (sg c))) = some (.ref t)
theorem take_pair {α : Type} {R : α → α → Prop} {l : List α} {i : Nat} {x y : α} (h : l.Pairwise R) (hy : y ∈ l.take i) (hx : l[i]? = some x) : R y x := by
  have e : l = l.take i ++ l.drop i := (List.take_append_drop i l).symm
  have hi := (List.getElem?_eq_some_iff.mp hx).1
  have ed : l.drop i = x :: l.drop (i + 1) := by
    rw [List.drop_eq_getElem_cons hi]
    congr 1
    exact (List.getElem?_eq_some_iff.mp hx).2
  rw [e, ed] at h
  exact (List.pairwise_append.mp h).2.2 y hy x List.mem_cons_self
theorem nd_inj {α β : Type} {f : α → β} : ∀ {l : List α}, (l.map f).Nodup → ∀ a ∈ l, ∀ b ∈ l, f a = f b → a = b
  | [], _, a, h, _, _, _ => nomatch h
  | x :: l, nd, a, ha, b, hb, e => by
    rw [List.map_cons] at nd
    obtain ⟨n1, n2⟩ := List.nodup_cons.mp nd
    rcases List.mem_cons.mp ha with h | ha
    · rcases List.mem_cons.mp hb with k | hb
      · rw [h, k]
      · exact absurd (List.mem_map.mpr ⟨b, hb, by rw [← e, h]⟩) n1
    · rcases List.mem_cons.mp hb with k | hb
      · exact absurd (List.mem_map.mpr ⟨a, ha, by rw [e, k]⟩) n1
      · exact nd_inj n2 a ha b hb e
theorem lt2_of {p q : Int × Int} (h : lexLe p q) (n : p ≠ q) : lt2 p q := by
  unfold lexLe at h
  rcases h with h | ⟨h, k⟩
  · exact .inl h
  · refine .inr ⟨h, Int.lt_iff_le_and_ne.mpr ⟨k, fun e => n (Prod.ext h e)⟩⟩
theorem last_c {α : Type} {b : α} {r : List α} {f : α → V} : atI (((b :: r).reverse).map f) (-1) = some (f b) := by
  rw [List.reverse_cons, List.map_append]
  exact atI_last _ _
abbrev s_lowest_lines : Stmt := topS 15
abbrev n_lowest_lines : List Str := ["rows", "a", "b", "ax", "ay", "ad", "bx", "by", "bd", "k", "p", "q", "u", "v", "lines", "site", "x", "y", "begin", "chain", "twins", "least", "line", "end", "first", "first_end", "_", "last", "last_end"]
theorem c_lowest_lines : FnScope n_lowest_lines ["rows", "a", "b"] (defScope s_lowest_lines) := ⟨rfl, rfl, rfl, by decide +kernel, rfl, by decide +kernel, by decide +kernel⟩
def p_lowest_lines : Sp := fun vs H Q _ => ∃ (p a b : Addr) (ts : List Addr) (f : Addr → Int × Int) (wy : Way), vs = [.ref p, .ref a, .ref b] ∧ Lot f H p ts ∧ Pla H a wy.ax wy.ay wy.ad ∧ Pla H b wy.bx wy.by' wy.bd ∧ WayOk wy ∧ ¬ (wy.ax = wy.bx ∧ wy.ay = wy.by' ∧ wy.ad = wy.bd) ∧
  ∀ T C D cs kvs wt sg H', Same H H' → H' T = some (.tup [.ref C, .ref D]) → H' C = some (.lst (cs.map V.ref)) → H' D = some (.dT kvs) → LowIs f wy ts H' cs kvs wt sg → Q (.ref T) H'
set_option pp.maxSteps 300 in
theorem ok_lowest_lines  (D : Df K mg "lowest_lines" s_lowest_lines ["rows", "a", "b"]) (mlen : mg "len" = none) (msorted : mg "sorted" = none) : Cl P w K mg base CX0 "lowest_lines" 1 ["rows", "a", "b"] (p_lowest_lines) := by
  refine D.cl fun f fd F => F.ok c_lowest_lines (fun vs H Q E h => ?_) (fun cdv A outer s H vs Q E hr h => ?_)
  · obtain ⟨p, a, b, ts, g, wy, rfl, hl, ha, hb, wk, ne, q⟩ := h
    rfl
  · obtain ⟨p, a, b, ts, g, wy, rfl, hl, ha, hb, wk, ne, q⟩ := h
    have nd := c_lowest_lines.nd
    have hu : _ := hu_of hr
    refine ⟨_, (pss_cons (ps_asg (pv 1) (pg_tup (by rfl) (pgs_cons (pg_name (i := 3) nd rfl (.inl rfl)) (pgs_cons (pg_name (i := 4) nd rfl (.inl rfl)) (pgs_cons (pg_name (i := 5) nd rfl (.inl rfl)) pgs_nil))))) (pss_cons (ps_asg (pv 2) (pg_tup (by rfl) (pgs_cons (pg_name (i := 6) nd rfl (.inl rfl)) (pgs_cons (pg_name (i := 7) nd rfl (.inl rfl)) (pgs_cons (pg_name (i := 8) nd rfl (.inl rfl)) pgs_nil))))) (pss_cons (ps_par3 (i := 9) (j := 10) (l := 11) (by rfl) nd rfl rfl rfl (by decide) (by decide) (by decide) rfl rfl rfl (pa_cons (pe_op op_mulW (pv 5) (pv 8)) (pa_cons (pe_op op_mulW (pe_op op_mulW pe_neg (pv 8)) (pv 3)) (pa_cons (pe_op op_mulW (pe_op op_mulW pe_neg (pv 8)) (pv 4)) pa_nil))) (by rfl)) (pss_cons (ps_par (i := 12) (j := 13) (by rfl) nd rfl rfl (by decide) rfl rfl (pa_cons (pe_op op_sub (pe_op op_mulW (pe_op op_mulW pe_neg (pv 5)) (pv 6)) (pv 10)) (pa_cons (pe_op op_sub (pe_op op_mulW (pe_op op_mulW pe_neg (pv 5)) (pv 7)) (pv 11)) pa_nil)) (by rfl)) (pss_cons (ps_set (i := 14) nd rfl (.inl rfl) (pe_lstG pa_nil)) (pss_cons (ps_for PassesOwn.never rfl (pi_list (pv 0)) (pg_name (i := 15) nd rfl (.inl rfl)) (pss_cons (ps_asg (pv 15) (pg_tup (by rfl) (pgs_cons (pg_name (i := 16) nd rfl (.inl rfl)) (pgs_cons (pg_name (i := 17) nd rfl (.inl rfl)) pgs_nil)))) (pss_cons (ps_set (i := 18) nd rfl (.inl rfl) (pe_op op_add (pe_op op_mulW (pv 16) (pe_op op_add (pe_op op_mulW (pv 9) (pv 16)) (pv 10))) (pe_op op_mulW (pv 17) (pe_op op_add (pe_op op_mulW (pv 9) (pv 17)) (pv 11))))) (pss_one (ps_expr (pe_bm PySem.F.plainAttrs_list PySem.F.slot_list_append PySem.F.type_list_append mt_append (pv 14) (pa_cons (pe_tupG (pa_cons (pv 18) (pa_cons (pe_op op_add (pe_op op_add (pv 18) (pe_op op_mulW (pv 12) (pv 16))) (pe_op op_mulW (pv 13) (pv 17))) (pa_cons (pv 15) pa_nil)))) pa_nil))))))) (pss_cons (ps_set (i := 14) nd rfl (.inl rfl) (pe_callB (cr_sort4 hr.units) (by rfl) msorted (by decide +kernel) (pa_cons (pv 14) pa_nil))) (pss_cons (ps_par3 (i := 19) (j := 20) (l := 21) (by rfl) nd rfl rfl rfl (by decide) (by decide) (by decide) rfl rfl rfl (pa_cons (pe_lstG pa_nil) (pa_cons pe_dnewT (pa_cons (pe_op op_add (pe_ix ix_tup (pe_ix ix_list (pv 14) pe_int (fun _ _ => rfl)) pe_int (fun _ _ => rfl)) pe_int) pa_nil))) (by rfl)) (pss_cons (ps_for PassesOwn.never rfl (pi_list (pv 14)) (pg_name (i := 22) nd rfl (.inl rfl)) (pss_cons (ps_asg (pv 22) (pg_tup (by rfl) (pgs_cons (pg_name (i := 18) nd rfl (.inl rfl)) (pgs_cons (pg_name (i := 23) nd rfl (.inl rfl)) (pgs_cons (pg_name (i := 15) nd rfl (.inl rfl)) pgs_nil))))) (pss_one (ps_if (pt_cmpR op_lt (pv 23) (pv 21) (nomark _)) (pss_cons (ps_while PassesOwn.never (pt_cmpR op_gt (pe_callB call_len_seq (by rfl) mlen (by decide +kernel) (pa_cons (pv 19) pa_nil)) pe_int (nomark _)) (pss_cons (ps_asg (pe_ix ix_list (pv 19) pe_neg (fun _ _ => rfl)) (pg_tup (by rfl) (pgs_cons (pg_name (i := 24) nd rfl (.inl rfl)) (pgs_cons (pg_name (i := 25) nd rfl (.inl rfl)) (pgs_cons (pg_name (i := 26) nd rfl (.inl rfl)) pgs_nil))))) (pss_cons (ps_asg (pe_ix ix_list (pv 19) pe_neg (fun _ _ => rfl)) (pg_tup (by rfl) (pgs_cons (pg_name (i := 27) nd rfl (.inl rfl)) (pgs_cons (pg_name (i := 28) nd rfl (.inl rfl)) (pgs_cons (pg_name (i := 26) nd rfl (.inl rfl)) pgs_nil))))) (pss_cons (ps_if (pt_cmpR op_lt (pe_op op_mulW (pe_op op_sub (pv 27) (pv 24)) (pe_op op_sub (pv 28) (pv 23))) (pe_op op_mulW (pe_op op_sub (pv 18) (pv 27)) (pe_op op_sub (pv 25) (pv 28))) (nomark _)) (pss_one ps_break) pss_nil) (pss_one (ps_expr (pe_bm0 PySem.F.plainAttrs_list PySem.F.slot_list_pop PySem.F.type_list_pop mt_pop (pv 19)))))))) (pss_cons (ps_expr (pe_bm PySem.F.plainAttrs_list PySem.F.slot_list_append PySem.F.type_list_append mt_append (pv 19) (pa_cons (pv 22) pa_nil))) (pss_one (ps_set (i := 21) nd rfl (.inl rfl) (pv 23))))) (pss_one (ps_if (PW.pt (pw_and (pt_cmpR op_eq (pv 23) (pv 21) (nomark _)) (pw_and1 (pt_cmpR op_eq (pv 18) (pe_ix ix_tup (pe_ix ix_list (pv 19) pe_neg (fun _ _ => rfl)) pe_int (fun _ _ => rfl)) (nomark _))))) (pss_one (ps_dput hu (pv 20) (pe_ix ix_tup (pe_ix ix_list (pv 19) pe_neg (fun _ _ => rfl)) pe_int (fun _ _ => rfl)) (pv 15) rfl)) pss_nil)))))) (pss_one (ps_ret (pe_tupG (pa_cons (pv 19) (pa_cons (pv 20) pa_nil)))))))))))))), ?_⟩
    obtain ⟨a1, a2, a3⟩ := wk.a.bits
    obtain ⟨b1, b2, b3⟩ := wk.b.bits
    have ha' := ha
    have hb' := hb
    unfold Pla at ha' hb'
    have lts : (ts.map V.ref).length = ts.length := List.length_map _
    have few := hl.few
    repeat array_get_dec
    refine fun ll H1 s1 n1 e1 => ?_
    repeat array_get_dec
    refine ⟨⟨_, SqL.of (s1 _ _ hl.at_)⟩, for_list (K := K) (a := p) (xs := ts.map V.ref) (fun i σ' H' => (∃ y15 y16 y17 y18 y19 y20 y21 y22 y23 y24 y25 y26 y27 y28, σ' = [some (.ref p), some (.ref a), some (.ref b), some (.int wy.ax), some (.int wy.ay), some (.int wy.ad), some (.int wy.bx), some (.int wy.by'), some (.int wy.bd), some (.int (wy.ad * wy.bd)), some (.int (-2 * wy.bd * wy.ax)), some (.int (-2 * wy.bd * wy.ay)), some (.int (-2 * wy.ad * wy.bx - -2 * wy.bd * wy.ax)), some (.int (-2 * wy.ad * wy.by' - -2 * wy.bd * wy.ay)), some (.ref ll), y15, y16, y17, y18, y19, y20, y21, y22, y23, y24, y25, y26, y27, y28]) ∧ Same H H' ∧ ∃ τs : List Addr, H' ll = some (.lst (τs.map V.ref)) ∧ τs.length = i ∧ ∀ j τ t, τs[j]? = some τ → ts[j]? = some t → H' τ = some (.tup [.int (wy.pt (g t)).1, .int (wy.pt (g t)).2, .ref t])) ⟨⟨_, _, _, _, _, _, _, _, _, _, _, _, _, _, rfl⟩, s1, [], e1, rfl, fun j τ t h _ => by rw [List.getElem?_nil] at h; cases h⟩ (fun i σ' H' _ z => SqL.of (z.2.1 _ _ hl.at_)) (fun i x σ' H' hx z => ?_) fun σ' H' z => ?_⟩
    · obtain ⟨⟨y15, y16, y17, y18, y19, y20, y21, y22, y23, y24, y25, y26, y27, y28, rfl⟩, sH, τs, eT, lT, hT⟩ := z
      obtain ⟨t, et, rfl, mt⟩ := ref_at hx
      have it := (List.getElem?_eq_some_iff.mp et).1
      have hst := sH _ _ (hl.sit t mt).1
      obtain ⟨d1, d2, d3, d4⟩ := (hl.sit t mt).2
      have x1 := st_bits ⟨d1, d2⟩
      have x2 := st_bits ⟨d3, d4⟩
      repeat array_get_dec
      refine ⟨.inl ⟨rfl, _, SqL.of eT⟩, ?_⟩
      repeat array_get_dec
      refine fun T H4 s4 n4 e4 => ?_
      have f1 : (g t).1 * (wy.ad * wy.bd * (g t).1 + -2 * wy.bd * wy.ax) + (g t).2 * (wy.ad * wy.bd * (g t).2 + -2 * wy.bd * wy.ay) = (wy.pt (g t)).1 := by
        unfold Way.pt Way.ln
        grind
      have f2 : (g t).1 * (wy.ad * wy.bd * (g t).1 + -2 * wy.bd * wy.ax) + (g t).2 * (wy.ad * wy.bd * (g t).2 + -2 * wy.bd * wy.ay) + (-2 * wy.ad * wy.bx - -2 * wy.bd * wy.ax) * (g t).1 + (-2 * wy.ad * wy.by' - -2 * wy.bd * wy.ay) * (g t).2 = (wy.pt (g t)).2 := by
        unfold Way.pt Way.ln
        grind
      have e4 : H4 T = some (.tup [.int (wy.pt (g t)).1, .int (wy.pt (g t)).2, .ref t]) := by
        rw [← f2, ← f1]
        exact e4
      refine ⟨ll, _, .ref T, rfl, rfl, s4 _ _ eT, by rw [List.length_map, lT]; exact Nat.lt_of_lt_of_le (show i < 64 by omega) (by decide), ?_⟩
      have Tl : T ≠ ll := fun z => by rw [z, s4 _ _ eT] at e4; cases e4
      have llH : H ll = none := n1
      refine ⟨⟨_, _, _, _, _, _, _, _, _, _, _, _, _, _, rfl⟩, Same.put (sH.trans s4) llH, τs ++ [T], by rw [upd_same, List.map_append]; rfl, by rw [List.length_append, lT]; rfl, fun j τ u ej eu => ?_⟩
      by_cases c : j < τs.length
      · rw [List.getElem?_append_left c] at ej
        have z := hT j τ u ej eu
        have nl : τ ≠ ll := fun y => by rw [y, eT] at z; cases z
        rw [upd_ne nl]
        exact s4 _ _ z
      · rw [List.getElem?_append_right (by omega)] at ej
        have j0 : j = i := by
          have := (List.getElem?_eq_some_iff.mp ej).1
          simp at this
          omega
        subst j0
        rw [lT, Nat.sub_self] at ej
        cases ej
        rw [et] at eu
        cases eu
        rw [upd_ne Tl]
        exact e4
    · obtain ⟨⟨y15, y16, y17, y18, y19, y20, y21, y22, y23, y24, y25, y26, y27, y28, rfl⟩, sH, τs, eT, lT, hT⟩ := z
      rw [lts] at lT
      have tri : ∀ τ ∈ τs, ∃ t ∈ ts, H' τ = some (.tup [.int (wy.pt (g t)).1, .int (wy.pt (g t)).2, .ref t]) := fun τ hτ => by
        obtain ⟨j, hj, rfl⟩ := List.getElem_of_mem hτ
        have c2 : j < ts.length := by omega
        exact ⟨ts[j], List.getElem_mem c2, hT j _ _ (List.getElem?_eq_getElem hj) (List.getElem?_eq_getElem c2)⟩
      have sgm : τs.map (fun τ => (hx H' τ).2) = ts := by
        apply List.ext_getElem (by rw [List.length_map]; exact lT)
        intro j h1 h2
        rw [List.length_map] at h1
        rw [List.getElem_map, hx_of (hT j _ _ (List.getElem?_eq_getElem h1) (List.getElem?_eq_getElem h2))]
      repeat array_get_dec
      refine ⟨ll, τs, fun τ => (hx H' τ).1, fun τ => (hx H' τ).2, g, rfl, eT, fun τ hτ => ?_, fun us lu H2 pm so s2 n2 e2 => ?_⟩
      · obtain ⟨t, mt, e⟩ := tri τ hτ
        show Tri H' τ (hx H' τ).1 (hx H' τ).2 (g (hx H' τ).2)
        rw [hx_of e]
        exact ⟨e, sH _ _ (hl.sit t mt).1⟩
      have pu0 : (us.map fun τ => (hx H' τ).2).Perm ts := by rw [← sgm]; exact pm.map _
      have hw : ∀ τ ∈ us, H2 τ = some (.tup [.int (hx H' τ).1.1, .int (hx H' τ).1.2, .ref (hx H' τ).2]) ∧ (hx H' τ).2 ∈ ts ∧ (hx H' τ).1 = wy.pt (g (hx H' τ).2) := fun τ hτ => by
        obtain ⟨t, mt, e⟩ := tri τ (pm.mem_iff.mp hτ)
        rw [hx_of e]
        exact ⟨s2 _ _ e, mt, rfl⟩
      have lus : us.length = ts.length := by rw [pm.length_eq, lT]
      generalize hwt : (fun τ => (hx H' τ).1) = wt at so
      generalize hsg : (fun τ => (hx H' τ).2) = sg at so pu0
      have hw : ∀ τ ∈ us, H2 τ = some (.tup [.int (wt τ).1, .int (wt τ).2, .ref (sg τ)]) ∧ sg τ ∈ ts ∧ wt τ = wy.pt (g (sg τ)) := fun τ hτ => by
        rw [← hwt, ← hsg]
        exact hw τ hτ
      have hbit : ∀ τ ∈ us, (wt τ).1.natAbs < 2 ^ 243 ∧ (wt τ).2.natAbs < 2 ^ 243 := fun τ hτ => by
        obtain ⟨_, h2, h3⟩ := hw τ hτ
        obtain ⟨l1, l2⟩ := wk.lnb (hl.sit _ h2).2
        rw [h3]
        exact ⟨Nat.lt_of_lt_of_le l1 (Nat.pow_le_pow_right (by decide) (by decide)), nba (by decide) l1 l2⟩
      clear hwt hsg sgm tri
      have S2 := sH.trans s2
      have hl2 := hl.same S2
      repeat array_get_dec
      refine fun C H3 s3 n3 e3 => ?_
      repeat array_get_dec
      refine fun D nD => ?_
      have s4 : Same H3 (upd H3 D (.dT [])) := Same.upd nD
      have e4 : upd H3 D (.dT []) D = some (.dT []) := upd_same
      generalize upd H3 D (.dT []) = H4 at s4 e4
      obtain ⟨u0, eu0⟩ : ∃ u0, us.head? = some u0 := by
        cases us with
        | nil => have := hl.pos; simp at lus; omega
        | cons u l => exact ⟨u, rfl⟩
      have mu0 := List.mem_of_head? eu0
      have s24 := s3.trans s4
      have w0 := s24 _ _ (hw u0 mu0).1
      obtain ⟨bu1, bu2⟩ := hbit u0 mu0
      repeat array_get_dec
      refine ⟨lu, _, 0, _, rfl, rfl, SqL.of (s24 _ _ e2), headI eu0, ?_⟩
      repeat array_get_dec
      have lusV : (us.map V.ref).length = us.length := List.length_map _
      have Cn2 : H2 C = none := n3
      have Dn2 : H2 D = none := s3.free nD
      have CD : C ≠ D := ne_of_none e3 nD
      have nodF : (us.map fun τ => g (sg τ)).Nodup := by
        rw [show (us.map fun τ => g (sg τ)) = (us.map sg).map g by rw [List.map_map]; rfl]
        exact (pu0.map g).nodup_iff.mpr hl.nod
      have nodP : us.Pairwise fun a b => g (sg a) ≠ g (sg b) := List.pairwise_map.mp nodF
      refine ⟨⟨_, SqL.of (s24 _ _ e2)⟩, for_list (K := K) (a := lu) (xs := us.map V.ref) (fun i σ' H' => ∃ (least : Int) (kvs : List (List L2.Key × V)) (tv : Int × Int → Option Addr), (∃ y15 y16 y17 y18 y22 y23 y24 y25 y26 y27 y28, σ' = [some (.ref p), some (.ref a), some (.ref b), some (.int wy.ax), some (.int wy.ay), some (.int wy.ad), some (.int wy.bx), some (.int wy.by'), some (.int wy.bd), some (.int (wy.ad * wy.bd)), some (.int (-2 * wy.bd * wy.ax)), some (.int (-2 * wy.bd * wy.ay)), some (.int (-2 * wy.ad * wy.bx - -2 * wy.bd * wy.ax)), some (.int (-2 * wy.ad * wy.by' - -2 * wy.bd * wy.ay)), some (.ref lu), y15, y16, y17, y18, some (.ref C), some (.ref D), some (.int least), y22, y23, y24, y25, y26, y27, y28]) ∧ (i = 0 → least = (wt u0).2 + 1) ∧ (∀ b, (chC wt (us.take i)).head? = some b → least = (wt b).2) ∧ Same H2 H' ∧ H' C = some (.lst ((chC wt (us.take i)).reverse.map V.ref)) ∧ H' D = some (.dT kvs) ∧ TwV kvs sg tv ∧ kvs.length ≤ i ∧ TwOk wt (fun τ => g (sg τ)) (fun a b => lexLe (g (sg a)) (g (sg b))) tv (us.take i) (chC wt (us.take i)))
        ⟨_, [], fun _ => none, ⟨_, _, _, _, _, _, _, _, _, _, _, rfl⟩, fun _ => rfl, (fun b h => by cases h), s24, s4 _ _ e3, e4, fun y => rfl, Nat.le_refl _, TwOk.nil⟩ (fun i σ' H' _ z => by obtain ⟨_, _, _, _, _, _, sm, _⟩ := z; exact SqL.of (sm _ _ e2)) (fun i z σ' H' hz J => ?_) fun σ' H' J => ?_⟩
      · obtain ⟨least, kvs, tv, ⟨y15, y16, y17, y18, y22, y23, y24, y25, y26, y27, y28, rfl⟩, l0, lb, sI, eC, eD, tV, lk, ok⟩ := J
        obtain ⟨x, ex, rfl, mx⟩ := ref_at hz
        have ix := (List.getElem?_eq_some_iff.mp ex).1
        have hx := sI _ _ (hw x mx).1
        have ord : ∀ τ ∈ us.take i, le2 (wt τ) (wt x) := fun τ hτ => by
          have := take_pair so hτ ex
          unfold le4 le3 at this
          unfold le2
          rcases this with z | ⟨z, z2 | ⟨z2, _⟩⟩ <;> omega
        have nf : ∀ τ ∈ us.take i, g (sg τ) ≠ g (sg x) := fun τ hτ => take_pair (R := fun a b => g (sg a) ≠ g (sg b)) nodP hτ ex
        have sn := chC_snoc wt ex
        have tk : us.take (i + 1) = us.take i ++ [x] := by rw [List.take_add_one, ex]; rfl
        have lenC : (chC wt (us.take i)).length ≤ i := by
          have h1 := chC_len wt (us.take i)
          rw [List.length_take] at h1
          omega
        have subC : ∀ y ∈ chC wt (us.take i), y ∈ us := fun y hy => List.mem_of_mem_take (chC_sub wt _ y hy)
        rw [tk] at sn ⊢
        generalize hst : chC wt (us.take i) = st at *
        repeat array_get_dec
        refine w_ifd (fun c => ?_) fun c => ?_
        · have lt : ∀ b, st.head? = some b → (wt x).2 < (wt b).2 := fun b hb => by rw [← lb b hb]; exact c
          have pushed : TwOk wt (fun τ => g (sg τ)) (fun a b => lexLe (g (sg a)) (g (sg b))) tv (us.take i ++ [x]) (x :: popC wt x st) := ok.push ord nf lt
          have stx : stepC wt st x = x :: popC wt x st := by
            cases st with
            | nil => rfl
            | cons b r => exact if_pos (lt b rfl)
          refine ⟨fun m σ4 H4 => ∃ y24 y25 y26 y27 y28 st4, m = st4.length ∧ σ4 = [some (.ref p), some (.ref a), some (.ref b), some (.int wy.ax), some (.int wy.ay), some (.int wy.ad), some (.int wy.bx), some (.int wy.by'), some (.int wy.bd), some (.int (wy.ad * wy.bd)), some (.int (-2 * wy.bd * wy.ax)), some (.int (-2 * wy.bd * wy.ay)), some (.int (-2 * wy.ad * wy.bx - -2 * wy.bd * wy.ax)), some (.int (-2 * wy.ad * wy.by' - -2 * wy.bd * wy.ay)), some (.ref lu), some (.ref (sg x)), y16, y17, some (.int (wt x).1), some (.ref C), some (.ref D), some (.int least), some (.ref x), some (.int (wt x).2), y24, y25, y26, y27, y28] ∧ Same H2 H4 ∧ H4 C = some (.lst (st4.reverse.map V.ref)) ∧ H4 D = some (.dT kvs) ∧ popC wt x st = popC wt x st4 ∧ st4.length ≤ st.length ∧ ∀ y ∈ st4, y ∈ us, ⟨_, _, _, _, _, _, _, rfl, rfl, sI, eC, eD, rfl, Nat.le_refl _, subC⟩, ?_⟩
          rintro m σ4 H4 ⟨y24, y25, y26, y27, y28, st4, rfl, rfl, s4', eC4, eD4, pe, le4', sub4⟩
          have hx4 := s4' _ _ (hw x mx).1
          obtain ⟨bx1, bx2⟩ := hbit x mx
          have lst : (st4.reverse.map V.ref).length = st4.length := by rw [List.length_map, List.length_reverse]
          repeat array_get_dec
          rcases st4 with _ | ⟨cb, _ | ⟨ca, r⟩⟩
          · refine w_itf (fun z => by have z : (1 : Int) < ((([] : List Addr).reverse.map V.ref).length : Nat) := z; rw [lst] at z; simp at z) ?_
            have ps : popC wt x st = [] := by rw [pe]; rfl
            refine ⟨_, rfl, .inl ⟨rfl, _, SqL.of eC4⟩, _, rfl, C, _, .ref x, rfl, rfl, eC4, by rw [List.length_map, List.length_reverse]; exact Nat.lt_of_le_of_lt le4' (Nat.lt_of_lt_of_le (show st.length < 64 by omega) (by decide)), ?_⟩
            repeat array_get_dec
            refine ⟨_, kvs, tv, ⟨_, _, _, _, _, _, _, _, _, _, _, rfl⟩, fun z => by omega, fun b hb => ?_, Same.put s4' Cn2, ?_, by rw [upd_ne (Ne.symm CD)]; exact eD4, tV, by omega, ?_⟩
            · rw [sn, stx] at hb
              cases hb
              rfl
            · rw [upd_same, sn, stx, ps, put_top]
            · rw [sn, stx]
              exact pushed
          · refine w_itf (fun z => by have z : (1 : Int) < ((([cb] : List Addr).reverse.map V.ref).length : Nat) := z; rw [lst] at z; simp at z) ?_
            have ps : popC wt x st = [cb] := by rw [pe]; rfl
            refine ⟨_, rfl, .inl ⟨rfl, _, SqL.of eC4⟩, _, rfl, C, _, .ref x, rfl, rfl, eC4, by rw [List.length_map, List.length_reverse]; exact Nat.lt_of_le_of_lt le4' (Nat.lt_of_lt_of_le (show st.length < 64 by omega) (by decide)), ?_⟩
            repeat array_get_dec
            refine ⟨_, kvs, tv, ⟨_, _, _, _, _, _, _, _, _, _, _, rfl⟩, fun z => by omega, fun b hb => ?_, Same.put s4' Cn2, ?_, by rw [upd_ne (Ne.symm CD)]; exact eD4, tV, by omega, ?_⟩
            · rw [sn, stx] at hb
              cases hb
              rfl
            · rw [upd_same, sn, stx, ps, put_top]
            · rw [sn, stx]
              exact pushed
          refine w_itt (by show (1 : Int) < (((cb :: ca :: r).reverse.map V.ref).length : Nat); rw [lst]; simp only [List.length_cons]; omega) ?_
          refine ⟨fun σ5 H5 => ∃ y24 y25 y26 y27 y28, σ5 = [some (.ref p), some (.ref a), some (.ref b), some (.int wy.ax), some (.int wy.ay), some (.int wy.ad), some (.int wy.bx), some (.int wy.by'), some (.int wy.bd), some (.int (wy.ad * wy.bd)), some (.int (-2 * wy.bd * wy.ax)), some (.int (-2 * wy.bd * wy.ay)), some (.int (-2 * wy.ad * wy.bx - -2 * wy.bd * wy.ax)), some (.int (-2 * wy.ad * wy.by' - -2 * wy.bd * wy.ay)), some (.ref lu), some (.ref (sg x)), y16, y17, some (.int (wt x).1), some (.ref C), some (.ref D), some (.int least), some (.ref x), some (.int (wt x).2), y24, y25, y26, y27, y28] ∧ Same H2 H5 ∧ H5 C = some (.lst ((ca :: r).reverse.map V.ref)) ∧ H5 D = some (.dT kvs) ∧ popC wt x st = popC wt x (ca :: r), ?_, ?_⟩
          · rintro σ5 H5 ⟨y24, y25, y26, y27, y28, rfl, s5, eC5, eD5, pe5⟩
            exact ⟨_, Nat.lt_succ_self _, _, _, _, _, _, ca :: r, rfl, rfl, s5, eC5, eD5, pe5, Nat.le_trans (Nat.le_succ _) le4', fun y hy => sub4 y (List.mem_cons_of_mem _ hy)⟩
          have ma := sub4 ca (List.mem_cons_of_mem _ List.mem_cons_self)
          have mb := sub4 cb List.mem_cons_self
          have sa := s4' _ _ (hw ca ma).1
          have sb := s4' _ _ (hw cb mb).1
          obtain ⟨ba1, ba2⟩ := hbit ca ma
          obtain ⟨bb1, bb2⟩ := hbit cb mb
          refine ⟨_, rfl, _, _, _, _, rfl, rfl, SqL.of eC4, last_two.2, ?_⟩
          repeat array_get_dec
          refine ⟨_, _, _, _, rfl, rfl, SqL.of eC4, last_two.1, ?_⟩
          repeat array_get_dec
          have key : tn (wt ca) (wt cb) (wt x) = ((wt x).1 - (wt cb).1) * ((wt ca).2 - (wt cb).2) - ((wt cb).1 - (wt ca).1) * ((wt cb).2 - (wt x).2) := by
            unfold tn
            grind
          refine w_ifd (fun d => ?_) fun d => ?_
          · have d : ((wt cb).1 - (wt ca).1) * ((wt cb).2 - (wt x).2) < ((wt x).1 - (wt cb).1) * ((wt ca).2 - (wt cb).2) := d
            have d1 : ¬ tn (wt ca) (wt cb) (wt x) < 1 := by omega
            have ps : popC wt x st = (cb :: ca :: r) := by rw [pe]; rw [popC, if_neg d1]
            refine ⟨_, rfl, .inl ⟨rfl, _, SqL.of eC4⟩, _, rfl, C, _, .ref x, rfl, rfl, eC4, by rw [List.length_map, List.length_reverse]; exact Nat.lt_of_le_of_lt le4' (Nat.lt_of_lt_of_le (show st.length < 64 by omega) (by decide)), ?_⟩
            repeat array_get_dec
            refine ⟨_, kvs, tv, ⟨_, _, _, _, _, _, _, _, _, _, _, rfl⟩, fun z => by omega, fun b hb => ?_, Same.put s4' Cn2, ?_, by rw [upd_ne (Ne.symm CD)]; exact eD4, tV, by omega, ?_⟩
            · rw [sn, stx] at hb
              cases hb
              rfl
            · rw [upd_same, sn, stx, ps, put_top]
            · rw [sn, stx]
              exact pushed
          · have d : ¬ ((wt cb).1 - (wt ca).1) * ((wt cb).2 - (wt x).2) < ((wt x).1 - (wt cb).1) * ((wt ca).2 - (wt cb).2) := d
            have d2 : tn (wt ca) (wt cb) (wt x) < 1 := by omega
            refine ⟨_, rfl, .inl ⟨rfl, _, SqL.of eC4⟩, C, _, .ref cb, rfl, rfl, eC4, get_top, ?_⟩
            exact ⟨_, _, _, _, _, rfl, Same.put s4' Cn2, by rw [upd_same, drop_top], by rw [upd_ne (Ne.symm CD)]; exact eD4, by rw [pe, popC, if_pos d2]⟩
        · have i0 : i ≠ 0 := fun z => by
            subst z
            have e0 : us[0]? = some u0 := by rw [← List.head?_eq_getElem?]; exact eu0
            rw [ex] at e0
            cases e0
            have h0 := l0 rfl
            omega
          obtain ⟨cb, r, rfl⟩ : ∃ b r, st = b :: r := by
            cases st with
            | nil =>
              refine absurd rfl (ok.ne fun z => ?_)
              have := congrArg List.length z
              rw [List.length_take, List.length_nil] at this
              omega
            | cons b r => exact ⟨b, r, rfl⟩
          have eb := lb cb rfl
          have mb := subC cb List.mem_cons_self
          obtain ⟨hcb, sgb, wtb⟩ := hw cb mb
          have hb4 := sI _ _ hcb
          have hsb := (hl2.same sI).sit (sg cb) sgb
          have stx : stepC wt (cb :: r) x = cb :: r := if_neg (by rw [← eb]; exact c)
          have c' : (wt cb).2 ≤ (wt x).2 := by
            have : ¬ (wt x).2 < least := c
            omega
          have skip : ¬ (wt x = wt cb) → TwOk wt (fun τ => g (sg τ)) (fun a b => lexLe (g (sg a)) (g (sg b))) tv (us.take i ++ [x]) (cb :: r) := fun n => ok.skip (b := cb) rfl ord c' n
          have rest : ∀ z, (chC wt (us.take i ++ [x])).head? = some z → least = (wt z).2 := fun z hz => by
            rw [sn, stx] at hz
            exact lb z hz
          repeat array_get_dec
          refine w_ifd (p := V.int (wt x).2 = V.int least) (fun d => ?_) fun d => ?_
          · have d : (wt x).2 = least := V.int.inj d
            repeat array_get_dec
            refine ⟨_, _, _, _, rfl, rfl, SqL.of eC, last_c, ?_⟩
            repeat array_get_dec
            refine w_ifd (p := V.int (wt x).1 = V.int (wt cb).1) (fun d2 => ?_) fun d2 => ?_
            · have d2 : (wt x).1 = (wt cb).1 := V.int.inj d2
              have same : wt x = wt cb := Prod.ext d2 (by omega)
              repeat array_get_dec
              refine ⟨_, _, _, _, rfl, rfl, SqL.of eC, last_c, ?_⟩
              repeat array_get_dec
              have mpre : cb ∈ us.take i := ok.sub cb List.mem_cons_self
              have Rb : lexLe (g (sg cb)) (g (sg x)) := by
                have z := take_pair so mpre ex
                unfold le4 le3 at z
                rw [same] at z
                rcases z with z | ⟨_, z | ⟨_, z⟩⟩
                · omega
                · omega
                · exact z
              have no : tv (g (sg cb)) = none := by
                cases hv : tv (g (sg cb)) with
                | none => rfl
                | some v =>
                  exfalso
                  obtain ⟨v1, v2, v3, _⟩ := ok.is cb List.mem_cons_self v hv
                  have mv := List.mem_of_mem_take v1
                  have l1 : wy.ln (g (sg cb)) = wy.ln (g (sg v)) := Way.pt_inj.mp (by rw [← wtb, ← (hw v mv).2.2, v2])
                  have l2 : wy.ln (g (sg cb)) = wy.ln (g (sg x)) := Way.pt_inj.mp (by rw [← wtb, ← (hw x mx).2.2, same])
                  exact nf v v1 (two_far wk.a.d1 wk.b.d1 wk.a.g1 wk.b.g1 ne l1 l2 (fun z => v3 (nd_inj nodF v mv cb mb z)) (fun z => nf cb mpre z.symm))
              refine ⟨D, _, rfl, DPut.t (k := k2 (g (sg cb))) eD hsb.1 (Nat.lt_of_le_of_lt lk (Nat.lt_of_lt_of_le (show i < 64 by omega) (by decide))), ?_⟩
              refine ⟨least, _, _, ⟨_, _, _, _, _, _, _, _, _, _, _, rfl⟩, fun z => by omega, rest, Same.put sI Dn2, by rw [upd_ne CD, sn, stx]; exact eC, upd_same, tV.put (g (sg cb)) x, Nat.le_trans (length_putK _ _ _) (by omega), ?_⟩
              rw [sn, stx]
              exact ok.twin (b := cb) rfl ord same (fun y hy e => nd_inj nodF y (subC y hy) cb mb e) (fun z => nf cb mpre (by rw [z])) Rb no
            · refine ⟨least, kvs, tv, ⟨_, _, _, _, _, _, _, _, _, _, _, rfl⟩, fun z => by omega, rest, sI, by rw [sn, stx]; exact eC, eD, tV, by omega, ?_⟩
              rw [sn, stx]
              exact skip fun z => d2 (by rw [z])
          · repeat array_get_dec
            refine ⟨least, kvs, tv, ⟨_, _, _, _, _, _, _, _, _, _, _, rfl⟩, fun z => by omega, rest, sI, by rw [sn, stx]; exact eC, eD, tV, by omega, ?_⟩
            rw [sn, stx]
            exact skip fun z => d (by rw [z, eb])
      · obtain ⟨least, kvs, tv, ⟨y15, y16, y17, y18, y22, y23, y24, y25, y26, y27, y28, rfl⟩, l0, lb, sI, eC, eD, tV, lk, ok⟩ := J
        rw [lusV, List.take_length] at eC ok
        repeat array_get_dec
        refine fun T HT sT nT eT => q T C D (chC wt us).reverse kvs wt sg HT (S2.trans (sI.trans sT)) eT (sT _ _ eC) (sT _ _ eD) ⟨fun cc hc => ?_, fun rs pr => ?_, fun rs pr sr cc hc => ?_, fun cc hc => ?_⟩
        · have mc := chC_sub wt us cc (List.mem_reverse.mp hc)
          exact ⟨(sI.trans sT) _ _ (hw cc mc).1, (hw cc mc).2.1⟩
        · cases us with
          | nil => cases eu0
          | cons u9 us' =>
            obtain rfl : u9 = u0 := Option.some.inj eu0
            have so2 : ((u9 :: us').map wt).Pairwise le2 := by
              rw [List.pairwise_map]
              exact so.imp fun z => by
                unfold le4 le3 at z
                unfold le2
                rcases z with z | ⟨z, z2 | ⟨z2, _⟩⟩ <;> omega
            obtain ⟨r, us2, er, e2', env⟩ := chain_env (p0 := wt u9) (ps := us'.map wt) so2
            have ech : (chC wt (u9 :: us')).reverse.map wt = wt u9 :: r := by
              rw [List.map_reverse, chC_map]
              exact er
            have mapL : (u9 :: us').map (fun τ => toL (wt τ)) = ((u9 :: us').map sg).map fun t => wy.ln (g t) := by
              rw [List.map_map]
              exact List.map_congr_left fun τ hτ => by
                show toL (wt τ) = wy.ln (g (sg τ))
                rw [(hw τ hτ).2.2, Way.toL_pt]
            have memL : ∀ y, y ∈ (wt u9 :: us'.map wt).map toL ↔ y ∈ wy.lines g rs := fun y => by
              have e3 : (wt u9 :: us'.map wt).map toL = (u9 :: us').map (fun τ => toL (wt τ)) := by
                rw [← List.map_cons, List.map_map]
                rfl
              rw [e3, mapL]
              unfold Way.lines
              exact (((pu0.trans pr.symm).map _).mem_iff)
            refine ⟨toL (wt u9), us2, ?_, (memL _).mp List.mem_cons_self, env_congr memL env⟩
            rw [show (chC wt (u9 :: us')).reverse.map (fun c => toL (wt c)) = ((chC wt (u9 :: us')).reverse.map wt).map toL by rw [List.map_map]; rfl, ech, List.map_cons, e2']
        · have key := tw_si (w := wy) (f0 := g) (sg := sg) (lt := fun a b => lt2 (g a) (g b)) (fun _ => lt2_irr) (fun _ _ _ => lt2_tr) pr ?_ pu0 (fun τ hτ => (hw τ hτ).2.2) ok (fun a ha b hb n z => lt2_of z fun e => n (nd_inj nodF a ha b hb e)) (List.mem_reverse.mp hc)
          · rw [key]
            congr 1
            unfold tw
            rw [tV]
            cases tv (g (sg cc)) <;> rfl
          · have nr : (rs.map g).Nodup := (pr.map g).nodup_iff.mpr hl.nod
            exact (sr.and (List.pairwise_map.mp nr)).imp fun z => lt2_of z.1 z.2
        · rw [tV]
          cases tv (g (sg cc)) with
          | none => exact .inl rfl
          | some v => exact .inr ⟨_, rfl⟩

end
/-! ### k26: along -/
section
variable {P : Program} {w : World} {K : PySem.W.Frag} {mg : Str → Option Value} {base : Heap}
def spAlong : Sp := fun vs H Q _ => ∃ (p a b : Addr) (ts : List Addr) (f : Addr → Int × Int) (w : Way), vs = [.ref p, .ref a, .ref b] ∧ H p = some (.lst (ts.map V.ref)) ∧ 0 < ts.length ∧ ts.length < 64 ∧ SitF f H ts ∧ (ts.map f).Nodup ∧ Pla H a w.ax w.ay w.ad ∧ Pla H b w.bx w.by' w.bd ∧ WayOk w ∧ ¬ (w.ax = w.bx ∧ w.ay = w.by' ∧ w.ad = w.bd) ∧
  ∀ (p' : Addr) (rs L : List Addr) H', Same H H' → H' p' = some (.lst (L.map V.ref)) → rs.Perm ts → rs.Pairwise (fun a b => lexLe (f a) (f b)) → OnWay f w rs L → Q (.ref p') H'
theorem asc_of (f : Addr → Pt) (ks : List Addr) : ∃ rs : List Addr, rs.Perm ks ∧ rs.Pairwise (fun a b => lexLe (f a) (f b)) := by
  have pm := List.mergeSort_perm ks fun a b => decide (lexLe (f a) (f b))
  have so := List.pairwise_mergeSort (le := fun a b => decide (lexLe (f a) (f b))) (fun a b c h1 h2 => by
    rw [decide_eq_true_eq] at *
    exact h1.trans h2) (fun a b => by
    rw [Bool.or_eq_true, decide_eq_true_eq, decide_eq_true_eq]
    exact lexLe.total _ _) ks
  exact ⟨_, pm, so.imp fun h => of_decide_eq_true h⟩
theorem flat_congr {α β : Type} {F G : α → List β} : ∀ {l : List α}, (∀ x ∈ l, F x = G x) → l.flatMap F = l.flatMap G
  | [], _ => rfl
  | a :: l, h => by
    rw [List.flatMap_cons, List.flatMap_cons, h a List.mem_cons_self, flat_congr fun x m => h x (List.mem_cons_of_mem _ m)]
theorem flat_one {α β : Type} {f : α → β} : ∀ {l : List α}, l.flatMap (fun x => [f x]) = l.map f
  | [] => rfl
  | a :: l => by
    rw [List.flatMap_cons, List.map_cons, flat_one]
    rfl
abbrev s_along : Stmt := topS 17
abbrev n_along : List Str := ["sites", "a", "b", "chain", "twins", "_", "site", "one"]
theorem c_along : FnScope n_along ["sites", "a", "b"] (defScope s_along) := ⟨rfl, rfl, rfl, by decide +kernel, rfl, by decide +kernel, by decide +kernel⟩
set_option pp.maxSteps 300 in
theorem ok_along  {f : Addr} {fd : FuncData} (F : Fun K "along" "along" s_along f fd) (C_check_sites : Cl P w K mg base CX0 "check_sites" 2 ["value"] (p_check_sites)) (C_with_twin : Cl P w K mg base CX0 "with_twin" 1 ["site", "twins"] (p_with_twin)) (C_lowest_lines : Cl P w K mg base CX0 "lowest_lines" 1 ["rows", "a", "b"] (p_lowest_lines)) (C_check_place : Cl P w K mg base CX0 "check_place" 2 ["value", "name"] (spCheckP)) : FnOk P w K mg base CX0 3 f fd ["sites", "a", "b"] (spAlong) := by
  refine F.ok c_along (fun vs H Q E h => ?_) (fun cdv A outer s H vs Q E hr h => ?_)
  · obtain ⟨p, a, b, ts, g, wy, rfl, hp, l0, l1, hs, nod, ha, hb, wk, ne, q⟩ := h
    rfl
  · obtain ⟨p, a, b, ts, g, wy, rfl, hp, l0, l1, hs, nod, ha, hb, wk, ne, q⟩ := h
    have nd := c_along.nd
    have hu : _ := hu_of hr
    refine ⟨_, (pss_cons (ps_expr (pe_cl C_check_sites (hr.mono (by decide)) (by rfl) pass0 (pa_cons (pv 0) pa_nil))) (pss_cons (ps_expr (pe_cl C_check_place (hr.mono (by decide)) (by rfl) pass0 (pa_cons (pv 1) (pa_cons pe_str pa_nil)))) (pss_cons (ps_expr (pe_cl C_check_place (hr.mono (by decide)) (by rfl) pass0 (pa_cons (pv 2) (pa_cons pe_str pa_nil)))) (pss_cons (ps_if (pt_cmpR (op_eqD hr.units) (pv 1) (pv 2) (nomark _)) (pss_one ps_never) pss_nil) (pss_cons (ps_asg (pe_cl C_lowest_lines (hr.mono (by decide)) (by rfl) pass0 (pa_cons (pv 0) (pa_cons (pv 1) (pa_cons (pv 2) pa_nil)))) (pg_tup (by rfl) (pgs_cons (pg_name (i := 3) nd rfl (.inl rfl)) (pgs_cons (pg_name (i := 4) nd rfl (.inr rfl)) pgs_nil)))) (pss_cons (ps_if (pt_not (pt_truT (pv 4))) (pss_one (ps_ret (pe_lc (own := [("_", 5), ("site", 6)]) (g := (gTup K 3 (gCons (gName 5) (gCons (gName 5) (gCons (gName 6) gNil))))) (tt := tYes)  rfl nd (pi_list (pv 3)) (blkOk_by (own := [("_", 5), ("site", 6)]) (N := n_along) (sc := defScope s_along) (by decide +kernel)) (fun _ _ _ _ _ => by exact (pg_tup (by rfl) (pgs_cons (pg_name (i := 5) nd rfl (.inl rfl)) (pgs_cons (pg_name (i := 5) nd rfl (.inl rfl)) (pgs_cons (pg_name (i := 6) nd rfl (.inl rfl)) pgs_nil))))) (fun _ _ _ _ _ => by exact pts_nil) (fun _ _ _ _ _ => by exact (pv 6))))) pss_nil) (pss_one (ps_ret (pe_lc2 (own := [("_", 5), ("site", 6), ("one", 7)]) (vs1 := [7]) (g := gTup K 3 (gCons (gName 5) (gCons (gName 5) (gCons (gName 6) gNil)))) (tt := tYes) (wi1 := iList K (tCall p_with_twin [] E0 (tCons (tVar 6) (tCons (tVar 4) tNil)))) (g1 := gName 7) (tt1 := tYes) (te := tVar 7) rfl nd (pi_list (pv 3)) (blkOk_by (own := [("_", 5), ("site", 6), ("one", 7)]) (N := n_along) (sc := defScope s_along) (by decide +kernel)) (by decide) (fun _ _ _ _ _ => by exact (pg_tup (by rfl) (pgs_cons (pg_name (i := 5) nd rfl (.inl rfl)) (pgs_cons (pg_name (i := 5) nd rfl (.inl rfl)) (pgs_cons (pg_name (i := 6) nd rfl (.inl rfl)) pgs_nil))))) (fun _ _ _ _ _ => by exact pts_nil) (fun _ _ _ _ _ => by exact (pi_list (pe_cl C_with_twin (hr.mono (by decide)) (by rfl) pass0 (pa_cons (pv 6) (pa_cons (pv 4) pa_nil))))) (fun _ _ _ _ _ => by exact (pg_name (i := 7) nd rfl (.inl rfl))) (fun _ _ _ _ _ => by exact pts_nil) (fun _ _ _ _ _ => by exact (pv 7))))))))))), ?_⟩
    have hl : Lot g H p ts := ⟨hp, l0, l1, hs, nod⟩
    repeat array_get_dec
    refine ⟨p, ts, g, rfl, hl, fun H1 s1 => ?_⟩
    have hl1 := hl.same s1
    repeat array_get_dec
    refine ⟨a, _, _, _, _, rfl, s1 _ _ ha, wk.a, ?_⟩
    repeat array_get_dec
    refine ⟨b, _, _, _, _, rfl, s1 _ _ hb, wk.b, ?_⟩
    repeat array_get_dec
    refine ⟨_, _, dpPla (s1 _ _ ha), dpPla (s1 _ _ hb), rfl, rfl, ?_⟩
    rw [eqv_pla, decide_eq_false ne]
    repeat array_get_dec
    refine ⟨p, a, b, ts, g, wy, rfl, hl1, s1 _ _ ha, s1 _ _ hb, wk, ne, fun T C D cs kvs wt sg H2 s2 eT eC eD low => ?_⟩
    have hl2 := hl1.same s2
    obtain ⟨rs, pr, sr⟩ := asc_of g ts
    have ow := onway_of (low.env rs pr)
    have eF : (cs.map fun c => toL (wt c)).flatMap (wy.si g rs) = cs.flatMap fun c => sg c :: tw kvs (g (sg c)) := by
      rw [List.flatMap_map]
      exact flat_congr fun c hc => low.si rs pr sr c hc
    rw [eF] at ow
    have rn : rs.Nodup := pr.nodup_iff.mpr (nodup_f nod)
    have lim : (cs.flatMap fun c => sg c :: tw kvs (g (sg c))).length ≤ rs.length := nat_nodup_len _ _ (on_nodup ow rn) fun t m => ((on_mem ow t).mp m).1
    have lrs : rs.length = ts.length := pr.length_eq
    have lcs : cs.length ≤ (cs.flatMap fun c => sg c :: tw kvs (g (sg c))).length := by
      have go : ∀ l : List Addr, l.length ≤ (l.flatMap fun c => sg c :: tw kvs (g (sg c))).length := by
        intro l
        induction l with
        | nil => exact Nat.le_refl _
        | cons a l ih =>
          rw [List.flatMap_cons, List.length_cons, List.length_append, List.length_cons]
          omega
      exact go cs
    have lcv : (cs.map V.ref).length = cs.length := List.length_map _
    repeat array_get_dec
    refine ⟨D, kvs, rfl, eD, ?_⟩
    cases kvs with
    | nil =>
      refine w_if (fun _ => ?_) (fun h => by cases h)
      repeat array_get_dec
      refine ⟨⟨_, SqL.of eC⟩, fun R nR => ?_⟩
      refine lc_val (walk_list (xs := cs.map V.ref)) nR (by omega) (fun H4 s4 => SqL.of (s4 _ _ eC)) (cs.map fun c => V.ref (sg c)) (by rw [List.length_map, List.length_map]) (fun i x y H4 H5 Kp hy s4 eR yi fin => ?_) fun H4 s4 eR => ?_
      · obtain ⟨rfl, hx⟩ := yi
        obtain ⟨c, ec, rfl, mc⟩ := ref_at hx
        have hc := s4 _ _ (low.tri c mc).1
        rw [List.getElem?_map, ec] at hy
        cases hy
        repeat array_get_dec
        exact fin _ (Same.refl _)
      · have eL : (cs.flatMap fun c => sg c :: tw [] (g (sg c))) = cs.map sg := by
          rw [← flat_one]
          rfl
        rw [eL] at ow
        refine q R rs _ H4 (s1.trans (s2.trans s4)) ?_ pr sr ow
        rw [eR, List.map_map]
        rfl
    | cons kv kvs0 =>
      refine w_if (fun h => by cases h) fun _ => ?_
      generalize hk : kv :: kvs0 = kvs at *
      repeat array_get_dec
      refine ⟨⟨_, SqL.of eC⟩, fun R nR => ?_⟩
      refine lc2_out (walk_list (xs := cs.map V.ref)) (fun i H' => Same H2 H' ∧ H' R = some (.lst (((cs.take i).flatMap fun c => sg c :: tw kvs (g (sg c))).map V.ref))) ⟨Same.upd nR, upd_same⟩ (fun i H' _ z => SqL.of (z.1 _ _ eC)) (fun i x H4 H5 hi z y => ?_) fun H' z => ?_
      · obtain ⟨rfl, ex⟩ := y
        obtain ⟨s4, eR⟩ := z
        obtain ⟨c, ec, rfl, mc⟩ := ref_at ex
        have hc := s4 _ _ (low.tri c mc).1
        have hs4 := (hl2.same s4).sit (sg c) (low.tri c mc).2
        have fl := flat_len (F := fun c => sg c :: tw kvs (g (sg c))) ec
        repeat array_get_dec
        refine ⟨sg c, D, g (sg c), kvs, rfl, hs4.1, s4 _ _ eD, low.val c mc, fun pw H6 s6 n6 e6 => ?_⟩
        have Rpw : pw ≠ R := fun z => by rw [z, eR] at n6; cases n6
        refine ⟨pw, rfl, ⟨_, SqL.of e6⟩, lc2_in (walk_list (xs := (sg c :: tw kvs (g (sg c))).map V.ref)) (fun j H' => Same H2 H' ∧ H' pw = some (.lst ((sg c :: tw kvs (g (sg c))).map V.ref)) ∧ H' R = some (.lst ((((cs.take i).flatMap fun c => sg c :: tw kvs (g (sg c))) ++ (sg c :: tw kvs (g (sg c))).take j).map V.ref))) ⟨s4.trans s6, e6, by rw [List.take_zero, List.append_nil]; exact s6 _ _ eR⟩ (fun j H' _ z => SqL.of z.2.1) (fun j x H7 H8 hj z y => ?_) fun H' z => ?_⟩
        · obtain ⟨rfl, ex⟩ := y
          obtain ⟨s7, e7, eR7⟩ := z
          obtain ⟨t, et, rfl, _⟩ := ref_at ex
          refine ⟨rfl, _, rfl, _, eR7, ?_, Same.put s7 nR, by rw [upd_ne Rpw]; exact e7, ?_⟩
          · rw [List.length_map, List.length_append, List.length_take]
            exact Nat.lt_of_le_of_lt (Nat.le_trans (Nat.add_le_add_left (Nat.min_le_right _ _) _) (Nat.le_trans fl lim)) (Nat.lt_of_lt_of_le (by omega : rs.length < 64) (by decide))
          · rw [upd_same, List.take_add_one, et, Option.toList_some, ← List.append_assoc, List.map_append (l₂ := [t])]
            rfl
        · rw [List.length_map, List.take_length] at z
          refine ⟨z.1, ?_⟩
          rw [List.take_add_one, ec, Option.toList_some, List.flatMap_append, List.flatMap_cons, List.flatMap_nil, List.append_nil]
          exact z.2.2
      · rw [lcv, List.take_length] at z
        exact q R rs _ H' (s1.trans (s2.trans z.1)) z.2 pr sr ow
end
/-! ** 2 of greater numbers -/
def CSqW (i j : Int) : Prop := j = 2 ∧ i.natAbs < 2 ^ 1200
theorem op_sqW {X : Cx} : OpR X (binaryOp .Pow) (rI CSqW fun i _ => .int (i * i)) := opI fun i j _ _ _ _ _ hc q => by
  obtain ⟨rfl, hb⟩ := hc
  refine pow_int (by decide) ?_ (by rw [show i ^ (2 : Int).toNat = i * i from Int.pow_succ i 1 ▸ by rw [Int.pow_one]]; exact q)
  have b : Builtin.Int.intBits i ≤ i.natAbs.log2 + 1 := by
    unfold Builtin.Int.intBits
    split <;> omega
  have l := PySem.Flt.log2_lt_of (by decide : 0 < 1200) hb
  omega
abbrev sLSq : Stmt := topS 24
abbrev nLSq : List Str := ["_law_place_here", "_law_site"]
theorem scLSq : FnScope nLSq ["_law_place_here", "_law_site"] (defScope sLSq) := ⟨rfl, rfl, rfl, by decide +kernel, rfl, by decide +kernel, by decide +kernel⟩
/-- a place whose numbers are not too great -/
def spSqW : Sp := fun vs H Q _ => ∃ (p s : Addr) (x y d u v : Int), vs = [.ref p, .ref s] ∧ Pla H p x y d ∧ x.natAbs < 2 ^ 1120 ∧ y.natAbs < 2 ^ 1120 ∧ d.natAbs < 2 ^ 1120 ∧ Sit H s u v ∧ Bd 1000000 u v ∧ Q (.int (spread x y d u v)) H
section
variable {P : Program} {w : World} {K : PySem.W.Frag} {mg : Str → Option Value} {base : Heap}
theorem ok_lsqW {f : Addr} {fd : FuncData} {k : Nat} (F : Fun K "_law_square" "_law_square" sLSq f fd) : FnOk P w K mg base CX0 (k + 1) f fd ["_law_place_here", "_law_site"] spSqW := by
  refine F.ok scLSq (fun vs H Q E h => ?_) (fun cdv A outer s H vs Q E hr h => ?_)
  · obtain ⟨p, s, x, y, d, u, v, rfl, _⟩ := h
    rfl
  · obtain ⟨p, s, x, y, d, u, v, rfl, hp, b1, b2, b3, hs, ds, q⟩ := h
    have x1 : u.natAbs < 2 ^ 20 := by have := ds.1; have := ds.2.1; omega
    have x2 : v.natAbs < 2 ^ 20 := by have := ds.2.2; omega
    have c1 : CMulW u d := wide_mul x1 b3 (by decide) (by decide) (by decide)
    have c3 : CMulW v d := wide_mul x2 b3 (by decide) (by decide) (by decide)
    have c2 : CSqW (x - u * d) 2 := ⟨rfl, nb_up (nb_sub (nb_up b1 (by decide)) (wide_lt x1 b3)) (by decide)⟩
    have c4 : CSqW (y - v * d) 2 := ⟨rfl, nb_up (nb_sub (nb_up b2 (by decide)) (wide_lt x2 b3)) (by decide)⟩
    refine ⟨_, (pss_one (ps_ret (pe_op op_add (pe_op op_sqW (pe_op op_sub (pe_ix ix_tup (pv 0) pe_int (fun _ _ => rfl)) (pe_op op_mulW (pe_ix ix_tup (pv 1) pe_int (fun _ _ => rfl)) (pe_ix ix_tup (pv 0) pe_int (fun _ _ => rfl)))) pe_int) (pe_op op_sqW (pe_op op_sub (pe_ix ix_tup (pv 0) pe_int (fun _ _ => rfl)) (pe_op op_mulW (pe_ix ix_tup (pv 1) pe_int (fun _ _ => rfl)) (pe_ix ix_tup (pv 0) pe_int (fun _ _ => rfl)))) pe_int)))), ?_⟩
    unfold spread at q
    rw [Int.mul_comm d u, Int.mul_comm d v] at q
    exact ⟨_, rfl, _, _, _, _, rfl, rfl, SqT.of (hp), a30_ _ _ _, _, rfl, _, _, _, _, rfl, rfl, SqT.of (hs), at0_ _ _, _, rfl, _, _, _, _, rfl, rfl, SqT.of (hp), a32_ _ _ _, _, _, rfl, rfl, c1, _, _, rfl, rfl, _, _, rfl, rfl, c2, _, rfl, _, _, _, _, rfl, rfl, SqT.of (hp), a31_ _ _ _, _, rfl, _, _, _, _, rfl, rfl, SqT.of (hs), at1_ _ _, _, rfl, _, _, _, _, rfl, rfl, SqT.of (hp), a32_ _ _ _, _, _, rfl, rfl, c3, _, _, rfl, rfl, _, _, rfl, rfl, c4, _, _, rfl, rfl, q⟩
end
/-! ### the law's own reckoning -/
abbrev sLCom : Stmt := topS 26
abbrev sLPl : Stmt := topS 27
theorem scLCom : FnScope ["_law_aa", "_law_bb"] ["_law_aa", "_law_bb"] (defScope sLCom) := ⟨rfl, rfl, rfl, by decide +kernel, rfl, by decide +kernel, by decide +kernel⟩
theorem scLPl : FnScope ["_law_x", "_law_y", "_law_d", "_law_great"] ["_law_x", "_law_y", "_law_d"] (defScope sLPl) := ⟨rfl, rfl, rfl, by decide +kernel, rfl, by decide +kernel, by decide +kernel⟩
section
variable {P : Program} {w : World} {K : PySem.W.Frag} {mg : Str → Option Value} {base : Heap}
theorem far_bits' {x d u : Int} (hx : x.natAbs < 2 ^ 100) (hd : d.natAbs < 2 ^ 100) (hu : -1000000 ≤ u ∧ u ≤ 1000000) : (x - u * d).natAbs < 2 ^ 121 := by
  rw [Int.mul_comm]
  exact far_bits hx hd hu
/-! the greatest common divisor, by rests -/
def spCom : Sp := fun vs H Q _ => ∃ a b : Int, vs = [.int a, .int b] ∧ Q (.int ((Nat.gcd a.natAbs b.natAbs : Nat) : Int)) H
theorem ok_com {f : Addr} {fd : FuncData} {k : Nat} (F : Fun K "_law_common" "_law_common" sLCom f fd) (mi : mg "int" = none) (ma : mg "abs" = none) : FnOk P w K mg base CX0 (k + 1) f fd ["_law_aa", "_law_bb"] spCom := by
  refine F.ok scLCom (fun vs H Q E h => ?_) (fun cdv A outer s H vs Q E hr h => ?_)
  · obtain ⟨a, b, rfl, _⟩ := h
    rfl
  · obtain ⟨a, b, rfl, q⟩ := h
    have nd := scLCom.nd
    refine ⟨_, pss_cons (ps_par (i := 0) (j := 1) rfl nd rfl rfl (by decide) rfl rfl (pa_cons (pe_callB call_abs (by rfl) ma (by decide +kernel) (pa_cons (pv 0) pa_nil)) (pa_cons (pe_callB call_abs (by rfl) ma (by decide +kernel) (pa_cons (pv 1) pa_nil)) pa_nil)) rfl)
      (pss_cons (ps_while PassesOwn.never (pt_cmpR op_gt (pv 1) pe_int (nomark _)) (pss_one (ps_par (i := 0) (j := 1) rfl nd rfl rfl (by decide) rfl rfl (pa_cons (pv 1) (pa_cons (pe_op op_mod (pe_callTy call_int1 (by rfl) mi (by decide +kernel) (pa_cons (pv 0) pa_nil)) (pv 1)) pa_nil)) rfl)))
      (pss_one (ps_ret (pv 0)))), ?_⟩
    refine ⟨_, rfl, _, rfl, _, rfl, _, rfl, _, _, rfl, ?_⟩
    have ab : ∀ z : Int, (if z < 0 then -z else z) = (z.natAbs : Int) := fun z => by split <;> omega
    show tWhile _ _ _ [some (V.int (if a < 0 then -a else a)), some (V.int (if b < 0 then -b else b))] H
    rw [ab, ab]
    refine while_by (fun σ' H' => (∃ m n : Nat, σ' = [some (.int (m : Int)), some (.int (n : Int))] ∧ Nat.gcd m n = Nat.gcd a.natAbs b.natAbs) ∧ H = H') (fun σ' _ => match σ' with
      | [_, some (.int n)] => n.toNat
      | _ => 0) ⟨⟨_, _, rfl, rfl⟩, rfl⟩ ?_ ?_
    · rintro _ _ ⟨⟨m, n, rfl, e⟩, rfl⟩
      refine ⟨_, rfl, _, _, rfl, rfl, _, rfl, ite2 (fun c => ?_) fun c => ?_⟩
      · have c : (0 : Int) < (n : Int) := of_decide_eq_true c
        have hm : (m : Int) % (n : Int) = ((m % n : Nat) : Int) := rfl
        refine ⟨_, rfl, _, rfl, .inl ⟨_, rfl, _, rfl, _, _, rfl, rfl, c, _, _, rfl, ?_⟩⟩
        refine ⟨⟨⟨n, m % n, ?_, ?_⟩, rfl⟩, ?_⟩
        · show [some (V.int (n : Int)), some (V.int ((m : Int) % (n : Int)))] = _
          rw [hm]
        · rw [← e, Nat.gcd_comm m n, Nat.gcd_rec n m, Nat.gcd_comm]
        · show ((m : Int) % (n : Int)).toNat < ((n : Int)).toNat
          rw [hm, Int.toNat_natCast, Int.toNat_natCast]
          exact Nat.mod_lt _ (by omega)
      · have c : ¬ (0 : Int) < (n : Int) := fun z => c (decide_eq_true z)
        have n0 : n = 0 := by omega
        subst n0
        rw [Nat.gcd_zero_right] at e
        refine ⟨_, rfl, ?_⟩
        rw [e]
        exact q
    · rintro σ' H' Q1 Q2 hq ⟨v, e1, i, j, e2, e3, k, e4, r⟩
      exact ⟨v, e1, i, j, e2, e3, k, e4, hq _ _ r⟩
theorem ok_lpl {f fCo : Addr} {fd fdCo : FuncData} {k : Nat} (F : Fun K "_law_place" "_law_place" sLPl f fd) (GCo : FnOk P w K mg base CX0 (k + 1) fCo fdCo ["_law_aa", "_law_bb"] spCom) (gCo : mg "_law_common" = some (.ref fCo)) (kCo : PySem.W.keepIn K (.ref fCo) = true) (bCo : Binds K fdCo ["_law_aa", "_law_bb"] []) : FnOk P w K mg base CX0 (k + 2) f fd ["_law_x", "_law_y", "_law_d"] spPlOf := by
  refine F.ok scLPl (fun vs H Q E h => ?_) (fun cdv A outer s H vs Q E hr h => ?_)
  · obtain ⟨x, y, d, rfl, _⟩ := h
    rfl
  · obtain ⟨x, y, d, rfl, hn, hw, q⟩ := h
    refine ⟨_, C8.pss_cut (ps_set (i := 3) scLPl.nd rfl (.inl rfl) (pe_op op_mul (pe_call GCo hr (by rfl) gCo kCo bCo .nil pass0 (pa_cons (pe_call GCo hr (by rfl) gCo kCo bCo .nil pass0 (pa_cons (pv 0) (pa_cons (pv 1) pa_nil))) (pa_cons (pv 2) pa_nil))) (pe_ifExp (pt_cmpR op_gt (pv 2) pe_int (nomark _)) pe_int pe_neg))) (pss_one (ps_ret (pe_tup (pa_cons (pe_op op_fdivE (pv 0) (pv 3)) (pa_cons (pe_op op_fdivE (pv 1) (pv 3)) (pa_cons (pe_op op_fdivE (pv 2) (pv 3)) pa_nil)))))), ?_⟩
    refine ⟨fun σ' H' => σ' = [some (.int x), some (.int y), some (.int d), some (.int (gs x y d))] ∧ H = H', ?_, ?_⟩
    · have e := g3_is x y d
      refine ⟨_, rfl, _, rfl, _, _, rfl, _, rfl, _, _, rfl, _, rfl, _, _, rfl, rfl, _, rfl, ite2 (fun c => ?_) fun c => ?_⟩
      · have c : 0 < d := of_decide_eq_true c
        refine ⟨_, _, rfl, rfl, .inr ⟨by decide, by decide⟩, ?_, rfl⟩
        show [_, _, _, some (V.int (((Nat.gcd (((Nat.gcd x.natAbs y.natAbs : Nat) : Int)).natAbs d.natAbs : Nat) : Int) * 1))] = _
        unfold gs
        rw [e, if_neg (by omega), Int.mul_one]
      · have c : ¬ 0 < d := fun z => c (decide_eq_true z)
        refine ⟨_, _, rfl, rfl, .inr ⟨by decide, by decide⟩, ?_, rfl⟩
        show [_, _, _, some (V.int (((Nat.gcd (((Nat.gcd x.natAbs y.natAbs : Nat) : Int)).natAbs d.natAbs : Nat) : Int) * -1))] = _
        unfold gs
        rw [e, if_pos (by omega), Int.mul_neg, Int.mul_one]
    · rintro _ _ ⟨rfl, rfl⟩
      have c := gs_div (x := x) (y := y) hn hw
      exact ⟨_, rfl, _, rfl, _, _, rfl, rfl, c _, _, rfl, _, rfl, _, _, rfl, rfl, c _, _, rfl, _, rfl, _, _, rfl, rfl, c _, three_line, fun p np => q p _ (Same.upd np) np upd_same⟩
/-! calls by keywords, from the last one on -/
def gRev {α : Type} (us ws : List α) : List α := match us with
  | [] => ws.reverse
  | _ :: _ => []
theorem Vals.rev : ∀ {xs : List V} {us : List Value}, Vals xs us → Vals xs.reverse us.reverse
  | _, _, .nil => .nil
  | _, _, .cons r t => by
    rw [List.reverse_cons, List.reverse_cons]
    exact Vals.append (Vals.rev t) (.cons r .nil)
theorem kb_rev {x q : Str} {st : Stmt} {f : Addr} {fd : FuncData} {ps ks : List Str} (F : Fun K x q st f fd) (h0 : 0 < ps.length)
    (h : ∀ (kV doc pm : Value) (an : Option Addr) (cdv ct : Value) (ws : List Value), ws.length = ps.length → bindArgs (PySem.W.fnOf x q (defArgs st) (defBody st) (defScope st) .none kV doc pm an cdv ct) ⟨[], ks.zip ws⟩ = (pure (ps.zip ws.reverse) : Sem (List (Str × Value)))) :
    KBinds K fd ps ks gRev gRev := by
  obtain ⟨oc, od, kV, doc, pm, an, cdv, ct, osl, rfl, lk, hcd⟩ := F.ex
  refine ⟨fun s us ws _ hl => ?_, fun {vs us zs ws} r rz => ?_⟩
  · cases us with
    | nil =>
      have hl : ws.reverse.length = ps.length := hl
      rw [List.length_reverse] at hl
      exact .of_eq (h kV doc pm an cdv ct ws hl)
    | cons a r =>
      have hl : 0 = ps.length := hl
      omega
  · cases r with
    | nil => exact Vals.rev rz
    | cons _ _ => exact .nil
end
section
variable {P : Program} {w : World} {K : PySem.W.Frag} {mg : Str → Option Value} {base : Heap}
abbrev sPoint : Stmt := topS 30
abbrev nPoint : List Str := ["_law_aa", "_law_bb", "_law_n", "_law_d", "_law_x"]
theorem scPoint : FnScope nPoint ["_law_aa", "_law_bb", "_law_n", "_law_d"] (defScope sPoint) := ⟨rfl, rfl, rfl, by decide +kernel, rfl, by decide +kernel, by decide +kernel⟩
/-- the place of the way at n / d -/
def spPoint : Sp := fun vs H Q _ => ∃ (a b : Addr) (n d : Int) (w : Way), vs = [.ref a, .ref b, .int n, .int d] ∧ Pla H a w.ax w.ay w.ad ∧ Pla H b w.bx w.by' w.bd ∧ WayOk w ∧ n.natAbs < 2 ^ 900 ∧ d.natAbs < 2 ^ 900 ∧ 0 < d ∧
  ∀ (p : Addr) (X Y D g : Int) H', Same H H' → Pla H' p X Y D → g ≠ 0 → g * X = w.px n d → g * Y = w.py n d → g * D = w.pd d → X.natAbs < 2 ^ 1120 → Y.natAbs < 2 ^ 1120 → D.natAbs < 2 ^ 1120 → Q (.ref p) H'
theorem ok_point {f fLp : Addr} {fd fdLp : FuncData} {k : Nat} (F : Fun K "_law_point" "_law_point" sPoint f fd) (GLp : FnOk P w K mg base CX0 (k + 2) fLp fdLp ["_law_x", "_law_y", "_law_d"] spPlOf) (gLp : mg "_law_place" = some (.ref fLp)) (kLp : PySem.W.keepIn K (.ref fLp) = true) (bLp : Binds K fdLp ["_law_x", "_law_y", "_law_d"] []) : FnOk P w K mg base CX0 (k + 3) f fd ["_law_aa", "_law_bb", "_law_n", "_law_d"] spPoint := by
  refine F.ok scPoint (fun vs H Q E h => ?_) (fun cdv A outer s H vs Q E hr h => ?_)
  · obtain ⟨a, b, n, d, v, rfl, _⟩ := h
    rfl
  · obtain ⟨a, b, n, d, v, rfl, ha, hb, wk, bn, bd, d0, q⟩ := h
    have nd := scPoint.nd
    obtain ⟨a1, a2, a3⟩ := wk.a.bits
    obtain ⟨b1, b2, b3⟩ := wk.b.bits
    have bs := nb_sub bd bn
    have c1 : CMulW v.ax v.bd := wide_mul a1 b3 (by decide) (by decide) (by decide)
    have c2 : CMulW (v.ax * v.bd) (d - n) := wide_mul (wide_lt a1 b3) bs (by decide) (by decide) (by decide)
    have c3 : CMulW v.bx v.ad := wide_mul b1 a3 (by decide) (by decide) (by decide)
    have c4 : CMulW (v.bx * v.ad) n := wide_mul (wide_lt b1 a3) bn (by decide) (by decide) (by decide)
    have d1 : CMulW v.ay v.bd := wide_mul a2 b3 (by decide) (by decide) (by decide)
    have d2 : CMulW (v.ay * v.bd) (d - n) := wide_mul (wide_lt a2 b3) bs (by decide) (by decide) (by decide)
    have d3 : CMulW v.by' v.ad := wide_mul b2 a3 (by decide) (by decide) (by decide)
    have d4 : CMulW (v.by' * v.ad) n := wide_mul (wide_lt b2 a3) bn (by decide) (by decide) (by decide)
    have e1 : CMulW v.ad v.bd := wide_mul a3 b3 (by decide) (by decide) (by decide)
    have e2 : CMulW (v.ad * v.bd) d := wide_mul (wide_lt a3 b3) bd (by decide) (by decide) (by decide)
    have px : (v.px n d).natAbs < 2 ^ 1120 := nb_up (nb_add (wide_lt (wide_lt a1 b3) bs) (nb_up (wide_lt (wide_lt b1 a3) bn) (by decide))) (by decide)
    have py : (v.py n d).natAbs < 2 ^ 1120 := nb_up (nb_add (wide_lt (wide_lt a2 b3) bs) (nb_up (wide_lt (wide_lt b2 a3) bn) (by decide))) (by decide)
    have pd : (v.pd d).natAbs < 2 ^ 1120 := nb_up (wide_lt (wide_lt a3 b3) bd) (by decide)
    have pn : v.pd d ≠ 0 := Int.ne_of_gt (Int.mul_pos (Int.mul_pos (by have := wk.a.d1; omega) (by have := wk.b.d1; omega)) d0)
    refine ⟨_, (pss_cons (ps_set (i := 4) nd rfl (.inl rfl) (pe_op op_add (pe_op op_mulW (pe_op op_mulW (pe_ix ix_tup (pv 0) pe_int (fun _ _ => rfl)) (pe_ix ix_tup (pv 1) pe_int (fun _ _ => rfl))) (pe_op op_sub (pv 3) (pv 2))) (pe_op op_mulW (pe_op op_mulW (pe_ix ix_tup (pv 1) pe_int (fun _ _ => rfl)) (pe_ix ix_tup (pv 0) pe_int (fun _ _ => rfl))) (pv 2)))) (pss_one (ps_ret (pe_call GLp hr (by rfl) gLp kLp bLp .nil pass0 (pa_cons (pv 4) (pa_cons (pe_op op_add (pe_op op_mulW (pe_op op_mulW (pe_ix ix_tup (pv 0) pe_int (fun _ _ => rfl)) (pe_ix ix_tup (pv 1) pe_int (fun _ _ => rfl))) (pe_op op_sub (pv 3) (pv 2))) (pe_op op_mulW (pe_op op_mulW (pe_ix ix_tup (pv 1) pe_int (fun _ _ => rfl)) (pe_ix ix_tup (pv 0) pe_int (fun _ _ => rfl))) (pv 2))) (pa_cons (pe_op op_mulW (pe_op op_mulW (pe_ix ix_tup (pv 0) pe_int (fun _ _ => rfl)) (pe_ix ix_tup (pv 1) pe_int (fun _ _ => rfl))) (pv 3)) pa_nil))))))), ?_⟩
    refine ⟨_, rfl, _, _, _, _, rfl, rfl, SqT.of (ha), a30_ _ _ _, _, rfl, _, _, _, _, rfl, rfl, SqT.of (hb), a32_ _ _ _, _, _, rfl, rfl, c1, _, rfl, _, rfl, _, _, rfl, rfl, _, _, rfl, rfl, c2, _, rfl, _, _, _, _, rfl, rfl, SqT.of (hb), a30_ _ _ _, _, rfl, _, _, _, _, rfl, rfl, SqT.of (ha), a32_ _ _ _, _, _, rfl, rfl, c3, _, rfl, _, _, rfl, rfl, c4, _, _, rfl, rfl, _, rfl, _, rfl, _, _, _, _, rfl, rfl, SqT.of (ha), a31_ _ _ _, _, rfl, _, _, _, _, rfl, rfl, SqT.of (hb), a32_ _ _ _, _, _, rfl, rfl, d1, _, rfl, _, rfl, _, _, rfl, rfl, _, _, rfl, rfl, d2, _, rfl, _, _, _, _, rfl, rfl, SqT.of (hb), a31_ _ _ _, _, rfl, _, _, _, _, rfl, rfl, SqT.of (ha), a32_ _ _ _, _, _, rfl, rfl, d3, _, rfl, _, _, rfl, rfl, d4, _, _, rfl, rfl, _, rfl, _, _, _, _, rfl, rfl, SqT.of (ha), a32_ _ _ _, _, rfl, _, _, _, _, rfl, rfl, SqT.of (hb), a32_ _ _ _, _, _, rfl, rfl, e1, _, rfl, _, _, rfl, rfl, e2, v.px n d, v.py n d, v.pd d, rfl, pn, nb_up pd (by decide), fun p H2 s2 n2 e2 => ?_⟩
    have gn := gs_ne (x := v.px n d) (y := v.py n d) pn
    have ex := mul_fdiv (gs_dvd (g3_dx (v.px n d) (v.py n d) (v.pd d)))
    have ey := mul_fdiv (gs_dvd (g3_dy (v.px n d) (v.py n d) (v.pd d)))
    have ed := mul_fdiv (gs_dvd (g3_dd (v.px n d) (v.py n d) (v.pd d)))
    exact q p _ _ _ _ H2 s2 e2 gn ex ey ed (Nat.lt_of_le_of_lt (abs_le_of_mul ex gn) px) (Nat.lt_of_le_of_lt (abs_le_of_mul ey gn) py) (Nat.lt_of_le_of_lt (abs_le_of_mul ed gn) pd)
abbrev sNearL : Stmt := topS 29
abbrev nNearL : List Str := ["_law_sites_here", "_law_place_here", "_law_far", "_law_site", "_law_k"]
theorem scNearL : FnScope nNearL ["_law_sites_here", "_law_place_here"] (defScope sNearL) := ⟨rfl, rfl, rfl, by decide +kernel, rfl, by decide +kernel, by decide +kernel⟩
/-- the sites that are nearest to a place -/
def nearS (f : Addr → Int × Int) (ts : List Addr) (X Y D : Int) : List Addr := ts.filter fun t => decide (∀ r ∈ ts, spread X Y D (f t).1 (f t).2 ≤ spread X Y D (f r).1 (f r).2)
def spNearL : Sp := fun vs H Q _ => ∃ (p a : Addr) (ts : List Addr) (f : Addr → Int × Int) (X Y D : Int), vs = [.ref p, .ref a] ∧ H p = some (.lst (ts.map V.ref)) ∧ SitF f H ts ∧ 0 < ts.length ∧ ts.length < 64 ∧ Pla H a X Y D ∧ X.natAbs < 2 ^ 1120 ∧ Y.natAbs < 2 ^ 1120 ∧ D.natAbs < 2 ^ 1120 ∧
  ∀ (p' : Addr) (us : List Addr) H', Same H H' → H' p' = some (.lst (us.map V.ref)) → us.Perm (nearS f ts X Y D) → us.Pairwise (fun a b => lexLe (f a) (f b)) → Q (.ref p') H'
theorem ok_nearl {f fLq : Addr} {fd fdLq : FuncData} {k : Nat} (F : Fun K "_law_nearest" "_law_nearest" sNearL f fd) (GLq : FnOk P w K mg base CX0 (k + 1) fLq fdLq ["_law_place_here", "_law_site"] spSqW) (gLq : mg "_law_square" = some (.ref fLq)) (kLq : PySem.W.keepIn K (.ref fLq) = true) (bLq : Binds K fdLq ["_law_place_here", "_law_site"] []) (msorted : mg "sorted" = none) (menumerate : mg "enumerate" = none) (mmin : mg "min" = none) : FnOk P w K mg base CX0 (k + 2) f fd ["_law_sites_here", "_law_place_here"] spNearL := by
  refine F.ok scNearL (fun vs H Q E h => ?_) (fun cdv A outer s H vs Q E hr h => ?_)
  · obtain ⟨p, a, ts, g, X, Y, D, rfl, _⟩ := h
    rfl
  · obtain ⟨p, a, ts, g, X, Y, D, rfl, hp, hs, l0, l1, ha, b1, b2, b3, q⟩ := h
    have nd := scNearL.nd
    have hu := hu_of hr
    refine ⟨_, (pss_cons (ps_set (i := 2) nd rfl (.inr rfl) (pe_lc (own := [("_law_site", 3)]) (g := (gName 3)) (tt := tYes)  rfl nd (pi_list (pv 0)) (blkOk_by (own := [("_law_site", 3)]) (N := nNearL) (sc := defScope sNearL) (by decide +kernel)) (fun _ _ _ _ _ => by exact (pg_name (i := 3) nd rfl (.inl rfl))) (fun _ _ _ _ _ => by exact pts_nil) (fun _ _ _ _ _ => by exact (pe_call GLq hr (by rfl) gLq kLq bLq .nil pass0 (pa_cons (pv 1) (pa_cons (pv 3) pa_nil)))))) (pss_one (ps_ret (pe_callB cr_sortS (by rfl) msorted (by decide +kernel) (pa_cons (pe_lc (own := [("_law_k", 4), ("_law_site", 3)]) (g := (gTup K 2 (gCons (gName 4) (gCons (gName 3) gNil))))  rfl nd (pi_enum (by rfl) menumerate (pa_cons (pv 0) pa_nil)) (blkOk_by (own := [("_law_k", 4), ("_law_site", 3)]) (N := nNearL) (sc := defScope sNearL) (by decide +kernel)) (fun _ _ _ _ _ => by exact (pg_tup (by rfl) (pgs_cons (pg_name (i := 4) nd rfl (.inl rfl)) (pgs_cons (pg_name (i := 3) nd rfl (.inl rfl)) pgs_nil)))) (fun _ _ _ _ _ => by exact (pts_one (pt_cmpR op_eq (pe_ix (r := rIxL K) (by exact ix_list) (pv 2) (pv 4) (fun _ _ => rfl)) (pe_callB (id := "min") (r := rMin K) (by exact (cr_min rfl)) (by rfl) mmin (by decide +kernel) (pa_cons (pv 2) pa_nil)) (nomark _)))) (fun _ _ _ _ _ => by exact (pv 3))) pa_nil))))), ?_⟩
    let sp : Addr → Int := fun t => spread X Y D (g t).1 (g t).2
    refine ⟨_, rfl, p, rfl, ⟨_, SqL.of hp⟩, fun M nM => lc_list (K := K) (a := p) (xs := ts.map V.ref) (fun i H' => Same H H' ∧ H' M = some (.lst ((ts.take i).map fun t => V.int (sp t)))) ⟨Same.upd nM, upd_same⟩ (fun i H' _ z => SqL.of (z.1 _ _ hp)) (fun i x H1 ex z => ?_) fun H1 z => ?_⟩
    · obtain ⟨s1, eM⟩ := z
      obtain ⟨t, et, rfl⟩ : ∃ t, ts[i]? = some t ∧ x = V.ref t := by
        rw [List.getElem?_map] at ex
        obtain ⟨t, et, e⟩ := Option.map_eq_some_iff.mp ex
        exact ⟨t, et, e.symm⟩
      have mt := List.mem_of_getElem? et
      refine ⟨rfl, _, rfl, _, rfl, a, t, X, Y, D, _, _, rfl, s1 _ _ ha, b1, b2, b3, (hs t mt).1.same s1, (hs t mt).2, _, eM, ?_, Same.put s1 nM, ?_⟩
      · rw [List.length_map, List.length_take]
        exact Nat.lt_of_le_of_lt (Nat.min_le_right _ _) (Nat.lt_of_lt_of_le l1 (by decide))
      · rw [upd_same, List.take_add_one, et, Option.toList_some, List.map_append]
        rfl
    · rw [List.length_map, List.take_length] at z
      obtain ⟨s1, eM⟩ := z
      have eM' : H1 M = some (.lst ((ts.map sp).map V.int)) := by
        rw [eM, List.map_map]
        rfl
      refine ⟨_, rfl, p, _, rfl, SqL.of (s1 _ _ hp), fun N nN => lc_enumG (K := K) (a := p) (xs := ts.map V.ref) (fun i H' => Same H1 H' ∧ H' N = some (.lst (((ts.take i).filter fun t => decide (∀ r ∈ ts, sp t ≤ sp r)).map V.ref))) ⟨Same.upd nN, upd_same⟩ (fun i H' _ z => SqL.of (z.1 _ _ (s1 _ _ hp))) (fun i x H2 ex z T H3 s3 nT eT => ?_) fun H2 z => ?_⟩
      · obtain ⟨s2, eN⟩ := z
        obtain ⟨t, et, rfl⟩ : ∃ t, ts[i]? = some t ∧ x = V.ref t := by
          rw [List.getElem?_map] at ex
          obtain ⟨t, et, e⟩ := Option.map_eq_some_iff.mp ex
          exact ⟨t, et, e.symm⟩
        have mt := List.mem_of_getElem? et
        have eM3 := s3 _ _ (s2 _ _ eM')
        have at_ : ((ts.map sp).map V.int)[i]? = some (V.int (sp t)) := by
          rw [List.getElem?_map, List.getElem?_map, et]
          rfl
        refine ⟨T, _, rfl, SqT.of eT, rfl, _, _, rfl, _, _, rfl, rfl, rfl, _, rfl, _, rfl, M, _, _, _, rfl, rfl, SqL.of eM3, atI_nat at_, _, rfl, M, ts.map sp, rfl, SqL.of eM3, by rw [List.length_map]; exact l0, fun m hm hle => ⟨rfl, _, rfl, ?_⟩⟩
        have key : (∀ r ∈ ts, sp t ≤ sp r) ↔ V.int (sp t) = V.int m := by
          constructor
          · intro h
            obtain ⟨r, mr, e⟩ := List.mem_map.mp hm
            have h1 := hle (sp t) (List.mem_map.mpr ⟨t, mt, rfl⟩)
            have h2 := h r mr
            rw [show sp t = m by omega]
          · intro e r mr
            rw [V.int.inj e]
            exact hle _ (List.mem_map.mpr ⟨r, mr, rfl⟩)
        have fil : ((ts.take (i + 1)).filter fun t => decide (∀ r ∈ ts, sp t ≤ sp r)) = ((ts.take i).filter fun t => decide (∀ r ∈ ts, sp t ≤ sp r)) ++ if decide (V.int (sp t) = V.int m) = true then [t] else [] := by
          rw [List.take_add_one, et, Option.toList_some, List.filter_append, List.filter_cons, List.filter_nil]
          by_cases c : ∀ r ∈ ts, sp t ≤ sp r
          · rw [if_pos (decide_eq_true c), if_pos (decide_eq_true (key.mp c))]
          · rw [if_neg (fun z => c (of_decide_eq_true z)), if_neg (fun z => c (key.mpr (of_decide_eq_true z)))]
        show if decide (V.int (sp t) = V.int m) = true then _ else _
        by_cases c : decide (V.int (sp t) = V.int m) = true
        · rw [if_pos c]
          refine ⟨_, rfl, _, s3 _ _ eN, ?_, Same.put (s2.trans s3) nN, ?_⟩
          · rw [List.length_map]
            exact Nat.lt_of_le_of_lt (List.length_filter_le _ _) (Nat.lt_of_le_of_lt (List.length_take_le _ _) (Nat.lt_of_lt_of_le (Nat.lt_trans (List.getElem?_eq_some_iff.mp et).1 l1) (by decide)))
          · rw [upd_same, fil, if_pos c, List.map_append]
            rfl
        · rw [if_neg c]
          refine ⟨s2.trans s3, ?_⟩
          rw [fil, if_neg c, List.append_nil]
          exact s3 _ _ eN
      · rw [List.length_map, List.take_length] at z
        obtain ⟨s2, eN⟩ := z
        have S2 := s1.trans s2
        refine ⟨N, _, g, rfl, SqL.of eN, fun t m => ((hs t (List.mem_filter.mp m).1).1.same S2), fun us p' H3 pm so s3 np e => q p' us H3 (S2.trans s3) e pm so⟩
end
/-! ### crossings -/
section
variable {P : Program} {w : World} {K : PySem.W.Frag} {mg : Str → Option Value} {base : Heap}
/-- a fraction from 0 to 1 in lowest terms -/
structure RedQ (q : Int × Int) : Prop where
  n0 : 0 ≤ q.1
  d0 : 0 < q.2
  le : q.1 ≤ q.2
  g1 : Nat.gcd q.1.natAbs q.2.natAbs = 1
  b : q.2.natAbs < 2 ^ 446
theorem RedQ.uniq {p q : Int × Int} (hp : RedQ p) (hq : RedQ q) (e : qv p = qv q) : p = q := by
  obtain ⟨n, d⟩ := p
  obtain ⟨m, c⟩ := q
  obtain ⟨h1, h2, h3, h4, _⟩ := hp
  obtain ⟨k1, k2, k3, k4, _⟩ := hq
  simp only at *
  have e' : n * c = m * d := by
    unfold qv at e
    simp only at e
    have d' : (d : Rat) ≠ 0 := by exact_mod_cast (show d ≠ 0 by omega)
    have c' : (c : Rat) ≠ 0 := by exact_mod_cast (show c ≠ 0 by omega)
    have : (n : Rat) * c = m * d := by
      have e1 : (n : Rat) = n / d * d := (Rat.div_mul_cancel d').symm
      have e2 : (m : Rat) = m / c * c := (Rat.div_mul_cancel c').symm
      rw [e1, e2, e]
      grind
    exact_mod_cast this
  have nat : n.natAbs * c.natAbs = m.natAbs * d.natAbs := by rw [← Int.natAbs_mul, ← Int.natAbs_mul, e']
  have x1 : d.natAbs ∣ c.natAbs := (Nat.Coprime.dvd_of_dvd_mul_left (show Nat.Coprime d.natAbs n.natAbs by rw [Nat.coprime_comm]; exact h4) ⟨m.natAbs, by rw [nat, Nat.mul_comm]⟩)
  have x2 : c.natAbs ∣ d.natAbs := (Nat.Coprime.dvd_of_dvd_mul_left (show Nat.Coprime c.natAbs m.natAbs by rw [Nat.coprime_comm]; exact k4) ⟨n.natAbs, by rw [← nat, Nat.mul_comm]⟩)
  have x3 := Nat.dvd_antisymm x1 x2
  have dc : d = c := by omega
  subst dc
  have := Int.eq_of_mul_eq_mul_right (show d ≠ 0 by omega) e'
  rw [this]
/-- the fraction of two numbers of unlike signs -/
theorem red_of {L R : Int} (h : L * R < 0) (bL : L.natAbs < 2 ^ 445) (bR : R.natAbs < 2 ^ 445) : RedQ ((L.natAbs : Int).fdiv ((Nat.gcd L.natAbs (L - R).natAbs : Nat) : Int), ((L - R).natAbs : Int).fdiv ((Nat.gcd L.natAbs (L - R).natAbs : Nat) : Int)) ∧
    (L.natAbs : Int).fdiv ((Nat.gcd L.natAbs (L - R).natAbs : Nat) : Int) * ((L - R).natAbs : Int) = (L.natAbs : Int) * ((L - R).natAbs : Int).fdiv ((Nat.gcd L.natAbs (L - R).natAbs : Nat) : Int) := by
  have hab : L.natAbs ≤ (L - R).natAbs ∧ 0 < (L - R).natAbs := by
    rcases Int.lt_trichotomy L 0 with z | z | z
    · have : 0 < R := by
        rcases Int.lt_trichotomy R 0 with y | y | y
        · have := Int.mul_pos_of_neg_of_neg z y; omega
        · rw [y] at h; omega
        · exact y
      omega
    · rw [z] at h; omega
    · have : R < 0 := by
        rcases Int.lt_trichotomy R 0 with y | y | y
        · exact y
        · rw [y] at h; omega
        · have := Int.mul_pos z y; omega
      omega
  have bd : (L - R).natAbs < 2 ^ 446 := nb_sub bL bR
  generalize L.natAbs = a at *
  generalize (L - R).natAbs = b at *
  have g0 : 0 < Nat.gcd a b := Nat.gcd_pos_of_pos_right _ hab.2
  have da := Nat.gcd_dvd_left a b
  have db := Nat.gcd_dvd_right a b
  have cop := Nat.coprime_div_gcd_div_gcd g0
  generalize Nat.gcd a b = g at *
  obtain ⟨x, rfl⟩ := da
  obtain ⟨y, rfl⟩ := db
  rw [Nat.mul_div_cancel_left _ g0, Nat.mul_div_cancel_left _ g0] at cop
  have f1 : ((g * x : Nat) : Int).fdiv (g : Int) = (x : Int) := by
    rw [Int.natCast_mul]
    exact Int.mul_fdiv_cancel_left _ (by omega)
  have f2 : ((g * y : Nat) : Int).fdiv (g : Int) = (y : Int) := by
    rw [Int.natCast_mul]
    exact Int.mul_fdiv_cancel_left _ (by omega)
  rw [f1, f2]
  have y0 : 0 < y := by
    rcases Nat.eq_zero_or_pos y with z | z
    · rw [z] at hab; omega
    · exact z
  have xy : x ≤ y := Nat.le_of_mul_le_mul_left hab.1 g0
  refine ⟨⟨Int.natCast_nonneg _, by show (0 : Int) < (y : Int); omega, by show (x : Int) ≤ (y : Int); omega, by show Nat.gcd ((x : Int)).natAbs ((y : Int)).natAbs = 1; rw [Int.natAbs_natCast, Int.natAbs_natCast]; exact cop, ?_⟩, ?_⟩
  · show ((y : Int)).natAbs < _
    rw [Int.natAbs_natCast]
    exact Nat.lt_of_le_of_lt (Nat.le_mul_of_pos_left _ g0) bd
  · rw [Int.natCast_mul, Int.natCast_mul]
    grind
theorem rat_mul_lt {a b c : Rat} (h : 0 < c) : a * c < b * c ↔ a < b := by
  constructor
  · intro q
    by_cases z : a < b
    · exact z
    · have := Rat.mul_nonneg (show 0 ≤ a - b by grind) (show 0 ≤ c by grind)
      grind
  · intro q
    have := Rat.mul_pos (show 0 < b - a by grind) h
    grind
theorem qv_lt {p q : Int × Int} (hp : 0 < p.2) (hq : 0 < q.2) : qv p < qv q ↔ p.1 * q.2 < q.1 * p.2 := by
  unfold qv
  have p' : (0 : Rat) < (p.2 : Rat) := by exact_mod_cast hp
  have q' : (0 : Rat) < (q.2 : Rat) := by exact_mod_cast hq
  rw [Rat.div_lt_iff p']
  have e : (q.1 : Rat) / q.2 * p.2 = (q.1 * p.2) / q.2 := by grind
  rw [e, ← rat_mul_lt q', Rat.div_mul_cancel (by grind)]
  exact_mod_cast Iff.rfl
end
section
variable {P : Program} {w : World} {K : PySem.W.Frag} {mg : Str → Option Value} {base : Heap}
abbrev sCross : Stmt := topS 31
abbrev nCross : List Str := ["_law_sites_here", "_law_aa", "_law_bb", "_law_found", "_law_k", "_law_one_here", "_law_other", "_law_left", "_law_right", "_law_great", "_law_rows", "_law_at"]
theorem scCross : FnScope nCross ["_law_sites_here", "_law_aa", "_law_bb"] (defScope sCross) := ⟨rfl, rfl, rfl, by decide +kernel, rfl, by decide +kernel, by decide +kernel⟩
/-- sorted by their values -/
def QSrt (l : List (Int × Int)) : Prop := l.Pairwise fun p q => qv p < qv q
/-- one put in -/
theorem q_insert {l : List (Int × Int)} {k : Nat} {p : Int × Int} (hl : QSrt l) (hk : k ≤ l.length) (hp : ∀ x ∈ l, qv x ≠ qv p) (h1 : ∀ x ∈ l.drop k, qv p < qv x) (h2 : ∀ x, 0 < k → l[k - 1]? = some x → ¬ qv p < qv x) : QSrt (l.take k ++ [p] ++ l.drop k) := by
  have e := List.take_append_drop k l
  unfold QSrt at *
  have hl' := hl
  rw [← e] at hl'
  obtain ⟨a, b, c⟩ := List.pairwise_append.mp hl'
  have low : ∀ x ∈ l.take k, qv x < qv p := fun x hx => by
    have k0 : 0 < k := by
      rcases Nat.eq_zero_or_pos k with z | z
      · rw [z, List.take_zero] at hx
        cases hx
      · exact z
    have lt : k - 1 < l.length := by omega
    have last := h2 (l[k - 1]) k0 (List.getElem?_eq_getElem lt)
    have le : qv x ≤ qv l[k - 1] := by
      obtain ⟨i, hi, ei⟩ := List.mem_iff_getElem.mp hx
      rw [List.length_take] at hi
      rw [List.getElem_take] at ei
      by_cases z : i = k - 1
      · subst z
        rw [ei]
        exact Rat.le_refl
      · have := List.pairwise_iff_getElem.mp hl i (k - 1) (by omega) lt (by omega)
        rw [ei] at this
        grind
    have ne := hp x (List.mem_of_mem_take hx)
    grind
  rw [List.append_assoc]
  refine List.pairwise_append.mpr ⟨a, List.pairwise_append.mpr ⟨List.pairwise_singleton _ _, b, fun x hx y hy => ?_⟩, fun x hx y hy => ?_⟩
  · rw [List.mem_singleton.mp hx]
    exact h1 y hy
  · rcases List.mem_append.mp hy with m | m
    · rw [List.mem_singleton.mp m]
      exact low x hx
    · exact c x hx y m
theorem q_perm {α : Type} (l : List α) (k : Nat) (p : α) : (l.take k ++ [p] ++ l.drop k).Perm (l ++ [p]) := by
  have e := List.take_append_drop k l
  have : (l.take k ++ [p] ++ l.drop k).Perm (l.take k ++ l.drop k ++ [p]) := by
    rw [List.append_assoc, List.append_assoc]
    exact List.Perm.append_left _ List.perm_append_comm
  rwa [e] at this
/-- from 0 to 1 -/
theorem q_ends {l : List (Int × Int)} (hs : QSrt l) (hr : ∀ q ∈ l, RedQ q) (h0 : ((0, 1) : Int × Int) ∈ l) (h1 : ((1, 1) : Int × Int) ∈ l) : ∃ ps, l.map qv = 0 :: ps ∧ (0 :: ps).Pairwise (· < ·) ∧ (0 :: ps).getLast? = some 1 := by
  have z0 : qv (0, 1) = 0 := by unfold qv; grind
  have z1 : qv (1, 1) = 1 := by unfold qv; grind
  have bounds : ∀ q ∈ l, 0 ≤ qv q ∧ qv q ≤ 1 := fun q hq => by
    obtain ⟨a, b, c, _, _⟩ := hr q hq
    have d' : (0 : Rat) < (q.2 : Rat) := by exact_mod_cast b
    have n' : (0 : Rat) ≤ (q.1 : Rat) := by exact_mod_cast a
    have le : (q.1 : Rat) ≤ (q.2 : Rat) := by exact_mod_cast c
    have e : qv q * q.2 = q.1 := Rat.div_mul_cancel (by grind)
    constructor
    · rw [← rat_mul_le d', e]
      grind
    · rw [← rat_mul_le d', e]
      grind
  have srt : (l.map qv).Pairwise (· < ·) := by
    rw [List.pairwise_map]
    exact hs
  cases l with
  | nil => cases h0
  | cons q l =>
    have hd : qv q = 0 := by
      have b := bounds q List.mem_cons_self
      rcases List.mem_cons.mp h0 with e | m
      · rw [← e]; exact z0
      · have := (List.pairwise_cons.mp hs).1 _ m
        rw [z0] at this
        grind
    refine ⟨l.map qv, by rw [List.map_cons, hd], by rw [← hd]; exact srt, ?_⟩
    have last : ∀ (m : List (Int × Int)), QSrt m → (∀ x ∈ m, qv x ≤ 1) → ((1, 1) : Int × Int) ∈ m → (m.map qv).getLast? = some 1 := by
      intro m
      induction m with
      | nil => intro _ _ h; cases h
      | cons x m ih =>
        intro sm bm h
        rcases List.mem_cons.mp h with e | h
        · cases m with
          | nil =>
            rw [← e]
            show some (qv (1, 1)) = _
            rw [z1]
          | cons y m =>
            exfalso
            have := (List.pairwise_cons.mp sm).1 y List.mem_cons_self
            rw [← e, z1] at this
            have := bm y (List.mem_cons_of_mem _ List.mem_cons_self)
            grind
        · have := ih (List.pairwise_cons.mp sm).2 (fun y hy => bm y (List.mem_cons_of_mem _ hy)) h
          cases m with
          | nil => cases h
          | cons y m => exact this
    have := last (q :: l) hs (fun x hx => (bounds x hx).2) h1
    rw [List.map_cons, hd] at this
    exact this
/-- the dict's keys behind one more -/
theorem put_ks {kvs : List (List L2.Key × V)} {Ks : List (Int × Int)} {q : Int × Int} {v : V} (h : kvs.map (·.1) = Ks.map k2) : (putK kvs (k2 q) v).map (·.1) = (if q ∈ Ks then Ks else Ks ++ [q]).map k2 := by
  have any : (kvs.any fun kv => decide (kv.1 = k2 q)) = true ↔ q ∈ Ks := by
    rw [List.any_eq_true]
    constructor
    · rintro ⟨kv, m, e⟩
      have e := of_decide_eq_true e
      have : kv.1 ∈ Ks.map k2 := by rw [← h]; exact List.mem_map.mpr ⟨kv, m, rfl⟩
      obtain ⟨p, mp, e2⟩ := List.mem_map.mp this
      rw [← k2_inj (e2.trans e)]
      exact mp
    · intro m
      have : k2 q ∈ kvs.map (·.1) := by rw [h]; exact List.mem_map.mpr ⟨q, m, rfl⟩
      obtain ⟨kv, mk, e⟩ := List.mem_map.mp this
      exact ⟨kv, mk, decide_eq_true e⟩
  unfold putK
  by_cases c : q ∈ Ks
  · rw [if_pos (any.mpr c), if_pos c, List.map_map, show ((fun kv : List L2.Key × V => kv.1) ∘ fun kv => if kv.1 = k2 q then (kv.1, v) else kv) = fun kv => kv.1 from funext fun kv => by
      show (if kv.1 = k2 q then (kv.1, v) else kv).1 = kv.1
      split <;> rfl]
    exact h
  · rw [if_neg (fun z => c (any.mp z)), if_neg c, List.map_append, List.map_append, h]
    rfl
theorem two_line {a b : V} : ([a, b] : List V).length ≤ sizeLine := by show 2 ≤ sizeLine; decide
theorem two_one {a : V} : ([a] : List V).length ≤ sizeLine := by show 1 ≤ sizeLine; decide
theorem zero_line : ([] : List V).length ≤ sizeLine := Nat.zero_le _
theorem cut_from {xs : List V} {n : Nat} (h : n ≤ xs.length) : cutV xs (some (n : Int)) none = xs.drop n := by
  unfold cutV
  rw [HT.sIx_nat, HT.sIx_none, Nat.min_eq_left h]
  exact List.take_of_length_le (by rw [List.length_drop]; omega)
theorem cut_to {xs : List V} {n : Nat} (h : n ≤ xs.length) : cutV xs none (some (n : Int)) = xs.take n := by
  unfold cutV
  rw [HT.sIx_nat, HT.sIx_none, Nat.min_eq_left h]
  rfl
theorem sprd_bits {x y d u v : Int} (b1 : x.natAbs < 2 ^ 100) (b2 : y.natAbs < 2 ^ 100) (b3 : d.natAbs < 2 ^ 100) (h : Bd 1000000 u v) : (spread x y d u v).natAbs < 2 ^ 243 := by
  have x1 : u.natAbs < 2 ^ 20 := by have := h.1; have := h.2.1; omega
  have x2 : v.natAbs < 2 ^ 20 := by have := h.2.2; omega
  have c1 : (x - d * u).natAbs < 2 ^ 121 := nb_sub (nb_up b1 (by decide)) (wide_lt b3 x1)
  have c2 : (y - d * v).natAbs < 2 ^ 121 := nb_sub (nb_up b2 (by decide)) (wide_lt b3 x2)
  unfold spread
  exact nb_add (wide_lt c1 c1) (wide_lt c2 c2)
theorem SR.at {H : Hp} {ts : List Addr} {ss : List (Int × Int)} (h : SR H ts ss) {i : Nat} {t : Addr} (e : ts[i]? = some t) : ∃ s, ss[i]? = some s ∧ Sit H t s.1 s.2 := by
  induction h generalizing i with
  | nil => cases e
  | @cons t0 s0 ts ss h _ ih =>
    cases i with
    | zero => exact ⟨s0, rfl, by rw [← Option.some.inj e]; exact h⟩
    | succ i => exact ih e
theorem SR.take {H : Hp} {ts : List Addr} {ss : List (Int × Int)} (h : SR H ts ss) : ∀ k, SR H (ts.take k) (ss.take k) := by
  induction h with
  | nil => intro k; cases k <;> exact .nil
  | cons h _ ih => intro k; cases k with
    | zero => exact .nil
    | succ k => exact .cons h (ih k)
theorem SR.drop {H : Hp} {ts : List Addr} {ss : List (Int × Int)} (h : SR H ts ss) : ∀ k, SR H (ts.drop k) (ss.drop k) := by
  induction h with
  | nil => intro k; cases k <;> exact .nil
  | cons h r ih => intro k; cases k with
    | zero => exact .cons h r
    | succ k => exact ih k
theorem SR.app {H : Hp} {ts us : List Addr} {ss qs : List (Int × Int)} (h : SR H ts ss) (h2 : SR H us qs) : SR H (ts ++ us) (ss ++ qs) := by
  induction h with
  | nil => exact h2
  | cons h _ ih => exact .cons h ih
/-- the keys told of crossings -/
structure KsOk (Ks : List (Int × Int)) : Prop where
  nod : Ks.Nodup
  z : ((0, 1) : Int × Int) ∈ Ks
  o : ((1, 1) : Int × Int) ∈ Ks
  red : ∀ q ∈ Ks, RedQ q
theorem ks_start : KsOk [(0, 1), (1, 1)] := ⟨by decide, List.mem_cons_self, List.mem_cons_of_mem _ List.mem_cons_self, fun q m => by
  rcases List.mem_cons.mp m with rfl | m
  · exact ⟨by decide, by decide, by decide, by decide, by decide⟩
  · rw [List.mem_singleton.mp m]
    exact ⟨by decide, by decide, by decide, by decide, by decide⟩⟩
theorem KsOk.put {Ks : List (Int × Int)} {q : Int × Int} (h : KsOk Ks) (r : RedQ q) : KsOk (if q ∈ Ks then Ks else Ks ++ [q]) := by
  by_cases c : q ∈ Ks
  · rw [if_pos c]
    exact h
  · rw [if_neg c]
    refine ⟨List.nodup_append.mpr ⟨h.nod, by simp, fun x hx y hy e => ?_⟩, List.mem_append_left _ h.z, List.mem_append_left _ h.o, fun x hx => ?_⟩
    · rw [List.mem_singleton.mp hy] at e
      exact c (e ▸ hx)
    · rcases List.mem_append.mp hx with m | m
      · exact h.red x m
      · rw [List.mem_singleton.mp m]
        exact r
/-- where two sites are as near, there is a key -/
def Cov (f : Addr → Int × Int) (w : Way) (Ks : List (Int × Int)) (s r : Addr) : Prop := ∀ u : Rat, 0 < u → u < 1 → w.ln (f s) ≠ w.ln (f r) → lv (w.ln (f s)) u = lv (w.ln (f r)) u → ∃ q ∈ Ks, qv q = u
theorem Cov.put {f : Addr → Int × Int} {w : Way} {Ks : List (Int × Int)} {s r : Addr} {q : Int × Int} (h : Cov f w Ks s r) : Cov f w (if q ∈ Ks then Ks else Ks ++ [q]) s r := fun u h0 h1 ne e => by
  obtain ⟨x, hx, ex⟩ := h u h0 h1 ne e
  refine ⟨x, ?_, ex⟩
  split
  · exact hx
  · exact List.mem_append_left _ hx
/-- the stops of a way -/
def spCross : Sp := fun vs H Q _ => ∃ (p a b : Addr) (ts : List Addr) (f : Addr → Int × Int) (w : Way), vs = [.ref p, .ref a, .ref b] ∧ H p = some (.lst (ts.map V.ref)) ∧ SitF f H ts ∧ ts.length < 64 ∧ Pla H a w.ax w.ay w.ad ∧ Pla H b w.bx w.by' w.bd ∧ WayOk w ∧
  ∀ (p' : Addr) (us : List Addr) (qs : List (Int × Int)) (ps : List Rat) H', Same H H' → H' p' = some (.lst (us.map V.ref)) → SR H' us qs → (∀ q ∈ qs, RedQ q) → qs.map qv = 0 :: ps → Stops f w ts ps → us.length ≤ 5000 → Q (.ref p') H'
set_option pp.maxSteps 200 in
theorem ok_cross {f fLq fLc : Addr} {fd fdLq fdLc : FuncData} {k : Nat} (F : Fun K "_law_crossings" "_law_crossings" sCross f fd) (GLq : FnOk P w K mg base CX0 (k + 1) fLq fdLq ["_law_place_here", "_law_site"] spSqW) (gLq : mg "_law_square" = some (.ref fLq)) (kLq : PySem.W.keepIn K (.ref fLq) = true) (bLq : Binds K fdLq ["_law_place_here", "_law_site"] []) (GLc : FnOk P w K mg base CX0 (k + 1) fLc fdLc ["_law_aa", "_law_bb"] spCom) (gLc : mg "_law_common" = some (.ref fLc)) (kLc : PySem.W.keepIn K (.ref fLc) = true) (bLc : Binds K fdLc ["_law_aa", "_law_bb"] []) (menumerate : mg "enumerate" = none) (mabs : mg "abs" = none) (mlen : mg "len" = none) : FnOk P w K mg base CX0 (k + 2) f fd ["_law_sites_here", "_law_aa", "_law_bb"] spCross := by
  refine F.ok scCross (fun vs H Q E h => ?_) (fun cdv A outer s H vs Q E hr h => ?_)
  · obtain ⟨p, a, b, ts, g, v, rfl, _⟩ := h
    rfl
  · obtain ⟨p, a, b, ts, g, v, rfl, hp, hs, l1, ha, hb, wk, q⟩ := h
    have nd := scCross.nd
    have hu := hu_of hr
    refine ⟨_, (pss_cons (ps_set (i := 3) nd rfl (.inl rfl) (pe_dispT (Nat.lt_of_succ_lt hu) (pps_cons (pe_tupG (pa_cons pe_int (pa_cons pe_int pa_nil))) pe_bl (pps_cons (pe_tupG (pa_cons pe_int (pa_cons pe_int pa_nil))) pe_bl pps_nil)) rfl rfl (by intro h; cases h) (by decide))) (pss_cons (ps_for PassesOwn.never rfl (pi_enum (by rfl) menumerate (pa_cons (pv 0) pa_nil)) (pg_tup (by rfl) (pgs_cons (pg_name (i := 4) nd rfl (.inl rfl)) (pgs_cons (pg_name (i := 5) nd rfl (.inl rfl)) pgs_nil))) (pss_one (ps_for PassesOwn.never rfl (pi_list (pe_slice sl_listG (pv 0) (po_some (pe_op op_add (pv 4) pe_int)) po_none)) (pg_name (i := 6) nd rfl (.inl rfl)) (pss_cons (ps_set (i := 7) nd rfl (.inl rfl) (pe_op op_mulW (pe_op op_mulW (pe_op op_sub (pe_call GLq hr (by rfl) gLq kLq bLq .nil pass0 (pa_cons (pv 1) (pa_cons (pv 5) pa_nil))) (pe_call GLq hr (by rfl) gLq kLq bLq .nil pass0 (pa_cons (pv 1) (pa_cons (pv 6) pa_nil)))) (pe_ix ix_tup (pv 2) pe_int (fun _ _ => rfl))) (pe_ix ix_tup (pv 2) pe_int (fun _ _ => rfl)))) (pss_cons (ps_set (i := 8) nd rfl (.inl rfl) (pe_op op_mulW (pe_op op_mulW (pe_op op_sub (pe_call GLq hr (by rfl) gLq kLq bLq .nil pass0 (pa_cons (pv 2) (pa_cons (pv 5) pa_nil))) (pe_call GLq hr (by rfl) gLq kLq bLq .nil pass0 (pa_cons (pv 2) (pa_cons (pv 6) pa_nil)))) (pe_ix ix_tup (pv 1) pe_int (fun _ _ => rfl))) (pe_ix ix_tup (pv 1) pe_int (fun _ _ => rfl)))) (pss_one (ps_if (pt_cmpR op_lt (pe_op op_mulW (pv 7) (pv 8)) pe_int (nomark _)) (pss_cons (ps_set (i := 9) nd rfl (.inl rfl) (pe_call GLc hr (by rfl) gLc kLc bLc .nil pass0 (pa_cons (pv 7) (pa_cons (pe_op op_sub (pv 7) (pv 8)) pa_nil)))) (pss_one (ps_dput hu (pv 3) (pe_tupG (pa_cons (pe_op op_fdivE (pe_callB call_abs (by rfl) mabs (by decide +kernel) (pa_cons (pv 7) pa_nil)) (pv 9)) (pa_cons (pe_op op_fdivE (pe_callB call_abs (by rfl) mabs (by decide +kernel) (pa_cons (pe_op op_sub (pv 7) (pv 8)) pa_nil)) (pv 9)) pa_nil))) pe_bl rfl))) pss_nil))))))) (pss_cons (ps_set (i := 10) nd rfl (.inl rfl) (pe_lstG pa_nil)) (pss_cons (ps_lock (ps_for PassesOwn.never rfl (pi_keys (pv 3)) (pg_name (i := 5) nd rfl (.inl rfl)) (pss_cons (ps_set (i := 11) nd rfl (.inl rfl) (pe_callB call_len_seq (by rfl) mlen (by decide +kernel) (pa_cons (pv 10) pa_nil))) (pss_cons (ps_while PassesOwn.never (PW.pt (pw_and (pt_cmpR op_gt (pv 11) pe_int (nomark _)) (pw_and1 (pt_cmpR op_lt (pe_op op_mulW (pe_ix ix_tup (pv 5) pe_int (fun _ _ => rfl)) (pe_ix ix_tup (pe_ix ix_list (pv 10) (pe_op op_sub (pv 11) pe_int) (fun _ _ => rfl)) pe_int (fun _ _ => rfl))) (pe_op op_mulW (pe_ix ix_tup (pe_ix ix_list (pv 10) (pe_op op_sub (pv 11) pe_int) (fun _ _ => rfl)) pe_int (fun _ _ => rfl)) (pe_ix ix_tup (pv 5) pe_int (fun _ _ => rfl))) (nomark _))))) (pss_one (ps_set (i := 11) nd rfl (.inl rfl) (pe_op op_sub (pv 11) pe_int)))) (pss_one (ps_set (i := 10) nd rfl (.inl rfl) (pe_op op_catG (pe_op op_catG (pe_slice sl_listG (pv 10) po_none (po_some (pv 11))) (pe_lstG (pa_cons (pv 5) pa_nil))) (pe_slice sl_listG (pv 10) (po_some (pv 11)) po_none)))))))) (pss_one (ps_ret (pv 10))))))), ?_⟩
    have l64 : (ts.map V.ref).length = ts.length := List.length_map _
    obtain ⟨a1, a2, a3⟩ := wk.a.bits
    obtain ⟨b1, b2, b3⟩ := wk.b.bits
    refine fun d nd0 => ⟨two_line, fun k0 H1 s1 n1 e1 => ⟨two_line, fun k1 H2 s2 n2 e2 => ?_⟩⟩
    have d1 : H1 d = some (.dT []) := s1 _ _ upd_same
    have d2 : H2 d = some (.dT []) := s2 _ _ d1
    refine ⟨d2, [(k2 (0, 1), k0, V.bl true), (k2 (1, 1), k1, V.bl true)], rfl, fun e m => ?_, by show 2 ≤ 15; decide, ?_⟩
    · rcases List.mem_cons.mp m with rfl | m
      · exact s2 _ _ e1
      · rw [List.mem_singleton.mp m]
        exact e2
    have s02 : Same H (upd H2 d (.dT ([(k2 (0, 1), k0, V.bl true), (k2 (1, 1), k1, V.bl true)].foldl (fun acc e => putK acc e.1 e.2.2) []))) := by
      refine Same.put (fun b o e => ?_) nd0
      exact s2 _ _ (s1 _ _ (Same.upd nd0 _ _ e))
    generalize ekv : ([(k2 (0, 1), k0, V.bl true), (k2 (1, 1), k1, V.bl true)].foldl (fun acc e => putK acc e.1 e.2.2) [] : List (List L2.Key × V)) = kvs0 at s02
    have hk0 : kvs0.map (·.1) = [((0, 1) : Int × Int), (1, 1)].map k2 := by
      rw [← ekv]
      rfl
    refine ⟨_, rfl, p, _, rfl, SqL.of (s02 _ _ hp), ?_⟩
    refine for_enumG (K := K) (a := p) (xs := ts.map V.ref) (fun i σ' H' => ∃ y4 y5 y6 y7 y8 y9 Ks kvs, σ' = [some (.ref p), some (.ref a), some (.ref b), some (.ref d), y4, y5, y6, y7, y8, y9, none, none] ∧ Same H H' ∧ H' d = some (.dT kvs) ∧ kvs.map (·.1) = Ks.map k2 ∧ KsOk Ks ∧ Ks.length ≤ 2 + 64 * i ∧ ∀ i' j' x y, i' < i → i' < j' → ts[i']? = some x → ts[j']? = some y → Cov g v Ks x y)
      ⟨none, none, none, none, none, none, [(0, 1), (1, 1)], kvs0, rfl, s02, upd_same, hk0, ks_start, by decide, fun i' _ _ _ z => absurd z (Nat.not_lt_zero _)⟩ (fun i σ' H' _ z => ?_) (fun i x σ' H' ex z T H3 s3 nT eT => ?_) fun σ' H' z => ?_
    · obtain ⟨_, _, _, _, _, _, _, _, _, z, _⟩ := z
      exact SqL.of (z _ _ hp)
    · obtain ⟨y4, y5, y6, y7, y8, y9, Ks, kvs, rfl, sm, ed, hk, ok, few, cov⟩ := z
      obtain ⟨t, et, rfl⟩ : ∃ t, ts[i]? = some t ∧ x = V.ref t := by
        rw [List.getElem?_map] at ex
        obtain ⟨t, et, e⟩ := Option.map_eq_some_iff.mp ex
        exact ⟨t, et, e.symm⟩
      have lt : i < ts.length := (List.getElem?_eq_some_iff.mp et).1
      have mt := List.mem_of_getElem? et
      have S3 := sm.trans s3
      have ed3 := s3 _ _ ed
      refine ⟨T, _, rfl, SqT.of eT, rfl, _, _, rfl, _, _, rfl, rfl, _, rfl, _, rfl, _, _, rfl, rfl, _, rfl, p, _, rfl, SqL.of (S3 _ _ hp), fun q0 H4 s4 n4 e4 => ?_⟩
      rw [show cutV (ts.map V.ref) (some ((i : Int) + 1)) none = (ts.drop (i + 1)).map V.ref by
        rw [show ((i : Int) + 1) = ((i + 1 : Nat) : Int) by omega, cut_from (by rw [l64]; omega), List.map_drop]] at e4
      have ld : ((ts.drop (i + 1)).map V.ref).length = (ts.drop (i + 1)).length := List.length_map _
      refine ⟨q0, rfl, ⟨_, SqL.of e4⟩, ?_⟩
      refine for_list (K := K) (a := q0) (xs := (ts.drop (i + 1)).map V.ref) (fun j σ' H' => ∃ y6 y7 y8 y9 Ks kvs, σ' = [some (.ref p), some (.ref a), some (.ref b), some (.ref d), some (.int (i : Nat)), some (.ref t), y6, y7, y8, y9, none, none] ∧ Same H H' ∧ H' q0 = some (.lst ((ts.drop (i + 1)).map V.ref)) ∧ H' d = some (.dT kvs) ∧ kvs.map (·.1) = Ks.map k2 ∧ KsOk Ks ∧ Ks.length ≤ 2 + 64 * i + j ∧ (∀ i' j' x y, i' < i → i' < j' → ts[i']? = some x → ts[j']? = some y → Cov g v Ks x y) ∧ ∀ j', j' < j → ∀ y, (ts.drop (i + 1))[j']? = some y → Cov g v Ks t y)
        ⟨y6, y7, y8, y9, Ks, kvs, rfl, S3.trans s4, e4, s4 _ _ ed3, hk, ok, few, cov, fun j' z => absurd z (Nat.not_lt_zero _)⟩ (fun j σ' H' _ z => ?_) (fun j x σ' H' ex z => ?_) fun σ' H' z => ?_
      · obtain ⟨_, _, _, _, _, _, _, _, z, _⟩ := z
        exact SqL.of z
      · obtain ⟨y6, y7, y8, y9, Ks, kvs, rfl, sm, eq0, ed, hk, ok, few, cov, cov2⟩ := z
        obtain ⟨r, er, rfl⟩ : ∃ t, (ts.drop (i + 1))[j]? = some t ∧ x = V.ref t := by
          rw [List.getElem?_map] at ex
          obtain ⟨t, et, e⟩ := Option.map_eq_some_iff.mp ex
          exact ⟨t, et, e.symm⟩
        have jl : j < 64 := by
          have := (List.getElem?_eq_some_iff.mp er).1
          rw [List.length_drop] at this
          omega
        have mr : r ∈ ts := List.mem_of_mem_drop (List.mem_of_getElem? er)
        have at_ := (hs t mt).1.same sm
        have ar := (hs r mr).1.same sm
        have dt := (hs t mt).2
        have dr := (hs r mr).2
        have ha' := sm _ _ ha
        have hb' := sm _ _ hb
        have u1 := nb_sub (sprd_bits a1 a2 a3 dt) (sprd_bits a1 a2 a3 dr)
        have u2 := nb_sub (sprd_bits b1 b2 b3 dt) (sprd_bits b1 b2 b3 dr)
        have eL := left_is v (g t) (g r)
        have eR := right_is v (g t) (g r)
        have w1 := wide_lt (wide_lt u1 b3) b3
        have w2 := wide_lt (wide_lt u2 a3) a3
        refine ⟨_, rfl, _, rfl, a, t, v.ax, v.ay, v.ad, _, _, rfl, ha', nb_up a1 (by decide), nb_up a2 (by decide), nb_up a3 (by decide), at_, dt, _, rfl, _, rfl, a, r, v.ax, v.ay, v.ad, _, _, rfl, ha', nb_up a1 (by decide), nb_up a2 (by decide), nb_up a3 (by decide), ar, dr, _, _, rfl, rfl, _, rfl, _, _, _, _, rfl, rfl, SqT.of hb', a32_ _ _ _, _, _, rfl, rfl, wide_mul u1 b3 (by decide) (by decide) (by decide), _, rfl, _, _, _, _, rfl, rfl, SqT.of hb', a32_ _ _ _, _, _, rfl, rfl, wide_mul (wide_lt u1 b3) b3 (by decide) (by decide) (by decide), ?_⟩
        refine ⟨_, rfl, _, rfl, b, t, v.bx, v.by', v.bd, _, _, rfl, hb', nb_up b1 (by decide), nb_up b2 (by decide), nb_up b3 (by decide), at_, dt, _, rfl, _, rfl, b, r, v.bx, v.by', v.bd, _, _, rfl, hb', nb_up b1 (by decide), nb_up b2 (by decide), nb_up b3 (by decide), ar, dr, _, _, rfl, rfl, _, rfl, _, _, _, _, rfl, rfl, SqT.of ha', a32_ _ _ _, _, _, rfl, rfl, wide_mul u2 a3 (by decide) (by decide) (by decide), _, rfl, _, _, _, _, rfl, rfl, SqT.of ha', a32_ _ _ _, _, _, rfl, rfl, wide_mul (wide_lt u2 a3) a3 (by decide) (by decide) (by decide), ?_⟩
        show gName 8 (V.int ((spread v.bx v.by' v.bd (g t).1 (g t).2 - spread v.bx v.by' v.bd (g r).1 (g r).2) * v.ad * v.ad)) [some (.ref p), some (.ref a), some (.ref b), some (.ref d), some (.int (i : Nat)), some (.ref t), some (.ref r), some (.int ((spread v.ax v.ay v.ad (g t).1 (g t).2 - spread v.ax v.ay v.ad (g r).1 (g r).2) * v.bd * v.bd)), y8, y9, none, none] H' _
        generalize hL : (spread v.ax v.ay v.ad (g t).1 (g t).2 - spread v.ax v.ay v.ad (g r).1 (g r).2) * v.bd * v.bd = L at *
        generalize hR : (spread v.bx v.by' v.bd (g t).1 (g t).2 - spread v.bx v.by' v.bd (g r).1 (g r).2) * v.ad * v.ad = R at *
        have crs := fun u h0 h1 ne e => cross_is (s := g t) (r := g r) (u := u) (by have := wk.a.d1; omega) (by have := wk.b.d1; omega) eL eR h0 h1 ne e
        refine ⟨_, rfl, _, rfl, _, _, rfl, rfl, wide_mul w1 w2 (by decide) (by decide) (by decide), _, _, rfl, rfl, _, rfl, ite2 (fun c => ?_) fun c => ?_⟩
        · have c : L * R < 0 := of_decide_eq_true c
          obtain ⟨rq, rv⟩ := red_of c (nb_up w1 (by decide)) (nb_up w2 (by decide))
          have g0 : 0 < Nat.gcd L.natAbs (L - R).natAbs := by
            refine Nat.gcd_pos_of_pos_right _ ?_
            have := rq.d0
            refine Nat.pos_of_ne_zero fun z => ?_
            rw [z] at this
            rw [Int.natCast_zero, Int.zero_fdiv] at this
            exact absurd this (Int.lt_irrefl _)
          have gb : Nat.gcd L.natAbs (L - R).natAbs < 2 ^ 8000 := Nat.lt_of_le_of_lt (Nat.gcd_le_left _ (Nat.pos_of_ne_zero fun z => by
            have : L = 0 := Int.natAbs_eq_zero.mp z
            rw [this, Int.zero_mul] at c
            exact absurd c (Int.lt_irrefl _))) (Nat.lt_of_lt_of_le w1 (Nat.pow_le_pow_right (by decide) (by decide)))
          have cd : ∀ z, CDivE z ((Nat.gcd L.natAbs (L - R).natAbs : Nat) : Int) := fun z => ⟨by omega, by rw [Int.natAbs_natCast]; exact gb⟩
          refine ⟨_, rfl, _, rfl, _, rfl, _, _, rfl, rfl, _, _, rfl, _, rfl, _, rfl, _, rfl, _, rfl, _, _, rfl, rfl, cd _, _, rfl, _, rfl, _, _, rfl, rfl, _, rfl, _, rfl, _, _, rfl, rfl, cd _, two_line, fun kq H5 s5 n5 e5 => ?_⟩
          have ab : ∀ z : Int, (if z < 0 then -z else z) = (z.natAbs : Int) := fun z => by split <;> omega
          rw [ab, ab] at e5
          have e5 : H5 kq = some (.tup [V.int ((L.natAbs : Int).fdiv ((Nat.gcd L.natAbs (L - R).natAbs : Nat) : Int)), V.int (((L - R).natAbs : Int).fdiv ((Nat.gcd L.natAbs (L - R).natAbs : Nat) : Int))]) := e5
          generalize hq : ((L.natAbs : Int).fdiv ((Nat.gcd L.natAbs (L - R).natAbs : Nat) : Int), ((L - R).natAbs : Int).fdiv ((Nat.gcd L.natAbs (L - R).natAbs : Nat) : Int)) = nq at rq
          have q1 : (L.natAbs : Int).fdiv ((Nat.gcd L.natAbs (L - R).natAbs : Nat) : Int) = nq.1 := congrArg (·.1) hq
          have q2 : ((L - R).natAbs : Int).fdiv ((Nat.gcd L.natAbs (L - R).natAbs : Nat) : Int) = nq.2 := congrArg (·.2) hq
          rw [q1, q2] at e5 rv
          have e5 : H5 kq = some (.tup ((k2 nq).map kV)) := e5
          have ed5 := s5 _ _ ed
          have lk : kvs.length = Ks.length := by
            have := congrArg List.length hk
            rwa [List.length_map, List.length_map] at this
          refine ⟨d, _, rfl, DPut.t ed5 e5 (by rw [lk]; have : (5000 : Nat) ≤ sizeLine := by decide
                                               omega), _, _, _, _, if nq ∈ Ks then Ks else Ks ++ [nq], _, rfl, Same.put (sm.trans s5) nd0, ?_, upd_same, put_ks hk, ok.put rq, ?_, fun i' j' x y h1 h2 h3 h4 => (cov i' j' x y h1 h2 h3 h4).put, fun j' h y hy => ?_⟩
          · rw [upd_ne (ne_of (s5 _ _ eq0) ed5 (by intro z; cases z))]
            exact s5 _ _ eq0
          · split
            · omega
            · rw [List.length_append, List.length_singleton]
              omega
          · rcases Nat.lt_succ_iff_lt_or_eq.mp h with h | rfl
            · exact (cov2 j' h y hy).put
            · rw [er] at hy
              obtain rfl := Option.some.inj hy
              intro u h0 h1 ne e
              refine ⟨nq, by split <;> simp_all, ?_⟩
              exact (crs u h0 h1 ne e).2 nq.1 nq.2 rq.d0 rv
        · have c : ¬ L * R < 0 := fun z => c (decide_eq_true z)
          refine ⟨_, _, _, _, Ks, kvs, rfl, sm, eq0, ed, hk, ok, by omega, cov, fun j' h y hy => ?_⟩
          rcases Nat.lt_succ_iff_lt_or_eq.mp h with h | rfl
          · exact cov2 j' h y hy
          · rw [er] at hy
            obtain rfl := Option.some.inj hy
            intro u h0 h1 ne e
            exact absurd (crs u h0 h1 ne e).1 c
      · rw [ld] at z
        obtain ⟨y6, y7, y8, y9, Ks, kvs, rfl, sm, eq0, ed, hk, ok, few, cov, cov2⟩ := z
        refine ⟨_, _, _, _, _, _, Ks, kvs, rfl, sm, ed, hk, ok, ?_, fun i' j' x y h1 h2 h3 h4 => ?_⟩
        · rw [List.length_drop] at few
          omega
        · rcases Nat.lt_succ_iff_lt_or_eq.mp h1 with h | rfl
          · exact cov i' j' x y h h2 h3 h4
          · rw [et] at h3
            obtain rfl := Option.some.inj h3
            have l2 := (List.getElem?_eq_some_iff.mp h4).1
            refine cov2 (j' - (i' + 1)) (by rw [List.length_drop]; omega) y ?_
            rw [List.getElem?_drop, show i' + 1 + (j' - (i' + 1)) = j' by omega]
            exact h4
    · rw [l64] at z
      obtain ⟨y4, y5, y6, y7, y8, y9, Ks, kvs, rfl, sm, ed, hk, ok, few, cov⟩ := z
      have kl : kvs.length = Ks.length := by
        have := congrArg List.length hk
        rwa [List.length_map, List.length_map] at this
      refine ⟨zero_line, fun Rw H5 s5 n5 e5 => ?_⟩
      have ed5 := s5 _ _ ed
      have sm5 := sm.trans s5
      refine ⟨d, _, ed5, True.intro, fun od => ⟨_, rfl, d, od, rfl, .inr ⟨kvs, upd_same, ?_⟩⟩⟩
      have eR5 : upd H5 d (.frz od (.dT kvs)) Rw = some (.lst []) := by
        rw [upd_ne (ne_of e5 ed5 (by intro z; cases z))]
        exact e5
      have fz5 : upd H5 d (.frz od (.dT kvs)) d = some (.frz od (.dT kvs)) := upd_same
      have sm6 : Same H (upd H5 d (.frz od (.dT kvs))) := Same.put sm5 nd0
      generalize upd H5 d (.frz od (.dT kvs)) = H6 at eR5 fz5 sm6
      refine for_it walk_keysT (fun i σ' H' => ∃ y5 y11 R us qs, σ' = [some (.ref p), some (.ref a), some (.ref b), some (.ref d), y4, y5, y6, y7, y8, y9, some (.ref R), y11] ∧ Same H6 H' ∧ H' R = some (.lst (us.map V.ref)) ∧ SR H' us qs ∧ qs.Perm (Ks.take i) ∧ QSrt qs)
        ⟨y5, none, Rw, [], [], rfl, Same.refl _, eR5, .nil, by rw [List.take_zero], List.Pairwise.nil⟩ (fun i σ' H' _ z => ?_) (fun i x σ' H' H7 hi z y => ?_) fun σ' H' z => ?_
      · obtain ⟨_, _, _, _, _, _, z, _⟩ := z
        exact z _ _ fz5
      · obtain ⟨y5, y11, R, us, qs, rfl, s6, eR, sr, pm, so⟩ := z
        obtain ⟨rfl, ky, v0, x', ek, rfl, ex⟩ := y
        obtain ⟨m, em⟩ : ∃ m, Ks[i]? = some m := ⟨_, List.getElem?_eq_getElem (by rw [← kl]; exact hi)⟩
        have eky : ky = k2 m := by
          have e := congrArg (fun z => z[i]?) hk
          simp only [List.getElem?_map, ek, em, Option.map_some] at e
          exact Option.some.inj e
        subst eky
        have ex : Sit H7 x' m.1 m.2 := ex
        have mK := List.mem_of_getElem? em
        have lq : us.length = qs.length := sr.len
        have lu : us.length ≤ 4500 := by
          rw [lq, pm.length_eq]
          exact Nat.le_trans (List.length_take_le' _ _) (by omega)
        have okm : ∀ q ∈ qs, RedQ q ∧ q ≠ m := fun q hq => by
          have := pm.mem_iff.mp hq
          refine ⟨ok.red q (List.mem_of_mem_take this), fun z => ?_⟩
          subst z
          obtain ⟨j, hj, ej⟩ := List.mem_iff_getElem.mp this
          rw [List.length_take] at hj
          rw [List.getElem_take] at ej
          have em' := (List.getElem?_eq_some_iff.mp em)
          have := List.pairwise_iff_getElem.mp ok.nod j i (by omega) em'.1 (by omega)
          rw [ej, em'.2] at this
          exact this rfl
        have rm := ok.red m mK
        refine ⟨_, rfl, R, _, rfl, .inl (SqL.of eR), ?_⟩
        rw [List.length_map]
        refine while_by (fun σ' H' => (∃ k : Nat, σ' = [some (.ref p), some (.ref a), some (.ref b), some (.ref d), y4, some (.ref x'), y6, y7, y8, y9, some (.ref R), some (.int (k : Nat))] ∧ k ≤ us.length ∧ ∀ x ∈ qs.drop k, qv m < qv x) ∧ H7 = H') (fun σ' _ => match σ' with
          | [_, _, _, _, _, _, _, _, _, _, _, some (.int k)] => k.toNat
          | _ => 0) ⟨⟨us.length, rfl, Nat.le_refl _, fun x hx => ?_⟩, rfl⟩ ?_ ?_
        · rw [lq, List.drop_length] at hx
          cases hx
        · rintro _ _ ⟨⟨k, rfl, kle, low⟩, rfl⟩
          have five : (10000 : Nat) ≤ sizeLine := by decide
          have room1 : (cutV (us.map V.ref) none (some (k : Int))).length + [V.ref x'].length ≤ sizeLine := by
            have := cutV_length (us.map V.ref) none (some (k : Int))
            rw [List.length_map] at this
            rw [List.length_singleton]
            omega
          have room2 : (cutV (us.map V.ref) none (some (k : Int)) ++ [V.ref x']).length + (cutV (us.map V.ref) (some (k : Int)) none).length ≤ sizeLine := by
            have := cutV_length (us.map V.ref) (some (k : Int)) none
            rw [List.length_map] at this
            rw [cut_to (by rw [List.length_map]; exact kle), List.length_append, List.length_take, List.length_map, List.length_singleton]
            omega
          refine ⟨_, rfl, _, _, rfl, rfl, _, rfl, ite2 (fun c => ?_) fun c => ?_⟩
          · have c : (0 : Int) < (k : Int) := of_decide_eq_true c
            obtain ⟨u, eu⟩ : ∃ u, us[k - 1]? = some u := ⟨_, List.getElem?_eq_getElem (by omega)⟩
            obtain ⟨q', eq', hq'⟩ := sr.at eu
            have mq := List.mem_of_getElem? eq'
            have rq := (okm q' mq).1
            have hu2 : atI (us.map V.ref) ((k : Int) - 1) = some (V.ref u) := by
              rw [show (k : Int) - 1 = ((k - 1 : Nat) : Int) by omega]
              exact atI_nat (by rw [List.getElem?_map, eu]; rfl)
            have key := qv_lt (p := m) (q := q') rm.d0 rq.d0
            have z1 : m.1.natAbs < 2 ^ 446 := Nat.lt_of_le_of_lt (by have := rm.n0; have := rm.le; omega) rm.b
            have z2 : q'.1.natAbs < 2 ^ 446 := Nat.lt_of_le_of_lt (by have := rq.n0; have := rq.le; omega) rq.b
            refine ⟨_, rfl, _, _, _, _, rfl, rfl, SqT.of ex, at0_ _ _, _, rfl, _, rfl, _, _, rfl, rfl, R, _, _, _, rfl, rfl, SqL.of eR, hu2, _, _, _, _, rfl, rfl, SqT.of hq', at1_ _ _, _, _, rfl, rfl, wide_mul z1 rq.b (by decide) (by decide) (by decide), _, rfl, _, rfl, _, _, rfl, rfl, R, _, _, _, rfl, rfl, SqL.of eR, hu2, _, _, _, _, rfl, rfl, SqT.of hq', at0_ _ _, _, rfl, _, _, _, _, rfl, rfl, SqT.of ex, at1_ _ _, _, _, rfl, rfl, wide_mul z2 rm.b (by decide) (by decide) (by decide), _, _, rfl, rfl, _, rfl, ite2 (fun c2 => ?_) fun c2 => ?_⟩
            · have c2 : qv m < qv q' := key.mpr (of_decide_eq_true c2)
              refine ⟨_, rfl, _, _, rfl, rfl, ⟨⟨k - 1, ?_, by omega, fun x hx => ?_⟩, rfl⟩, ?_⟩
              · rw [show ((k - 1 : Nat) : Int) = (k : Int) - 1 by omega]
                rfl
              · rw [List.drop_eq_getElem_cons (show k - 1 < qs.length by omega), show k - 1 + 1 = k by omega] at hx
                rcases List.mem_cons.mp hx with e | hx
                · rw [e, (List.getElem?_eq_some_iff.mp eq').2]
                  exact c2
                · exact low x hx
              · show ((k : Int) - 1).toNat < ((k : Int)).toNat
                omega
            · have c2 : ¬ qv m < qv q' := fun z => c2 (decide_eq_true (key.mp z))
              refine ⟨_, rfl, _, rfl, _, rfl, R, _, rfl, SqL.of eR, fun A1 H8 s8 n8 e8 => ⟨_, rfl, two_one, fun A2 H9 s9 n9 e9 => ⟨A1, A2, _, _, rfl, rfl, s9 _ _ e8, e9, room1, fun A3 H10 s10 n10 e10 => ⟨_, rfl, _, rfl, _, rfl, R, _, rfl, SqL.of (s10 _ _ (s9 _ _ (s8 _ _ eR))), fun A4 H11 s11 n11 e11 => ⟨A3, A4, _, _, rfl, rfl, s11 _ _ e10, e11, room2, fun A5 H12 s12 n12 e12 => ?_⟩⟩⟩⟩⟩
              have lastS := s8.trans (s9.trans (s10.trans (s11.trans s12)))
              refine ⟨_, _, A5, us.take k ++ [x'] ++ us.drop k, qs.take k ++ [m] ++ qs.drop k, rfl, s6.trans lastS, ?_, ?_, ?_, q_insert so (by rw [← lq]; exact kle) (fun x hx e => (okm x hx).2 ((okm x hx).1.uniq rm e)) low (fun x _ ex2 => by rw [eq'] at ex2; rw [← Option.some.inj ex2]; exact c2)⟩
              · rw [e12, cut_to (by rw [List.length_map]; exact kle), cut_from (by rw [List.length_map]; exact kle), List.map_append, List.map_append, List.map_take, List.map_drop]
                rfl
              · exact (((sr.take k).snoc ex).app (sr.drop k)).same lastS
              · refine (q_perm qs k m).trans ?_
                rw [List.take_add_one, em, Option.toList_some]
                exact pm.append_right _
          · have c : ¬ (0 : Int) < (k : Int) := fun z => c (decide_eq_true z)
            refine ⟨_, rfl, _, rfl, _, rfl, R, _, rfl, SqL.of eR, fun A1 H8 s8 n8 e8 => ⟨_, rfl, two_one, fun A2 H9 s9 n9 e9 => ⟨A1, A2, _, _, rfl, rfl, s9 _ _ e8, e9, room1, fun A3 H10 s10 n10 e10 => ⟨_, rfl, _, rfl, _, rfl, R, _, rfl, SqL.of (s10 _ _ (s9 _ _ (s8 _ _ eR))), fun A4 H11 s11 n11 e11 => ⟨A3, A4, _, _, rfl, rfl, s11 _ _ e10, e11, room2, fun A5 H12 s12 n12 e12 => ?_⟩⟩⟩⟩⟩
            have lastS := s8.trans (s9.trans (s10.trans (s11.trans s12)))
            refine ⟨_, _, A5, us.take k ++ [x'] ++ us.drop k, qs.take k ++ [m] ++ qs.drop k, rfl, s6.trans lastS, ?_, ?_, ?_, q_insert so (by rw [← lq]; exact kle) (fun x hx e => (okm x hx).2 ((okm x hx).1.uniq rm e)) low (fun x z _ => absurd z (by omega))⟩
            · rw [e12, cut_to (by rw [List.length_map]; exact kle), cut_from (by rw [List.length_map]; exact kle), List.map_append, List.map_append, List.map_take, List.map_drop]
              rfl
            · exact (((sr.take k).snoc ex).app (sr.drop k)).same lastS
            · refine (q_perm qs k m).trans ?_
              rw [List.take_add_one, em, Option.toList_some]
              exact pm.append_right _
        · rintro σ' H' Q1 Q2 hq z
          obtain ⟨v0, e0, i0, j0, e1, e2, v1, e3, z⟩ := z
          refine ⟨v0, e0, i0, j0, e1, e2, v1, e3, ?_⟩
          split at z
          · rename_i cc
            rw [if_pos cc]
            obtain ⟨w0, w1, w2, w3, w4, w5, w6, w7, w8, w9, w10, w11, w12, w13, w14, w15, w16, w17, w18, w19, w20, w21, w22, w23, w24, w25, w26, w27, w28, w29, w30, w31, w32, w33, w34, w35, w36, w37, w38, w39, w40, w41, w42, w43, w44, w45, w46, w47, w48, w49, w50, w51, w52, w53, w54, w55, w56, w57, w58, w59, w60, w61, w62, w63, w64, w65, w66, w67, w68, w69, w70, w71, w72, w73, w74, w75, w76, w77, w78, w79, w80, w81, w82, w83, z⟩ := z
            exact ⟨w0, w1, w2, w3, w4, w5, w6, w7, w8, w9, w10, w11, w12, w13, w14, w15, w16, w17, w18, w19, w20, w21, w22, w23, w24, w25, w26, w27, w28, w29, w30, w31, w32, w33, w34, w35, w36, w37, w38, w39, w40, w41, w42, w43, w44, w45, w46, w47, w48, w49, w50, w51, w52, w53, w54, w55, w56, w57, w58, w59, w60, w61, w62, w63, w64, w65, w66, w67, w68, w69, w70, w71, w72, w73, w74, w75, w76, w77, w78, w79, w80, w81, w82, w83, hq _ _ z⟩
          · rename_i cc
            rw [if_neg cc]
            exact hq _ _ z
      · rw [kl, List.take_length] at z
        obtain ⟨y5, y11, R, us, qs, rfl, s6, eR, sr, pm, so⟩ := z
        have fz := s6 _ _ fz5
        have reds : ∀ q ∈ qs, RedQ q := fun q m => ok.red q (pm.mem_iff.mp m)
        obtain ⟨ps, e1, e2, e3⟩ := q_ends so reds (pm.mem_iff.mpr ok.z) (pm.mem_iff.mpr ok.o)
        refine ⟨fz, _, rfl, q R us qs ps _ (Same.put (sm6.trans s6) nd0) ?_ ?_ reds e1 ⟨e2, e3, fun s hs r hr u h0 h1 ne e => ?_⟩ ?_⟩
        · rw [upd_ne (ne_of eR fz (by intro z; cases z))]
          exact eR
        · exact sr.put fun x y z => by
            rw [fz] at z
            cases z
        · -- a crossing is among the keys
          have cv : ∀ s r, s ∈ ts → r ∈ ts → s ≠ r → Cov g v Ks s r ∨ Cov g v Ks r s := fun s r hs hr nsr => by
            obtain ⟨i, hi, ei⟩ := List.mem_iff_getElem.mp hs
            obtain ⟨j, hj, ej⟩ := List.mem_iff_getElem.mp hr
            rcases Nat.lt_trichotomy i j with z | z | z
            · exact .inl (cov i j s r hi z (List.getElem?_eq_some_iff.mpr ⟨hi, ei⟩) (List.getElem?_eq_some_iff.mpr ⟨hj, ej⟩))
            · subst z
              exact absurd (ei.symm.trans ej) nsr
            · exact .inr (cov j i r s hj z (List.getElem?_eq_some_iff.mpr ⟨hj, ej⟩) (List.getElem?_eq_some_iff.mpr ⟨hi, ei⟩))
          have nsr : s ≠ r := fun z => ne (by rw [z])
          obtain ⟨q', hq', eq'⟩ : ∃ q ∈ Ks, qv q = u := by
            rcases cv s r hs hr nsr with z | z
            · exact z u h0 h1 ne e
            · exact z u h0 h1 (Ne.symm ne) e.symm
          have : u ∈ qs.map qv := List.mem_map.mpr ⟨q', pm.mem_iff.mpr hq', eq'⟩
          rw [e1] at this
          rcases List.mem_cons.mp this with z | z
          · rw [z] at h0
            exact absurd h0 (by grind)
          · exact z
        · rw [sr.len, pm.length_eq]
          omega
end
section
variable {P : Program} {w : World} {K : PySem.W.Frag} {mg : Str → Option Value} {base : Heap}
abbrev sDue : Stmt := topS 32
abbrev nDue : List Str := ["_law_sites_here", "_law_aa", "_law_bb", "_law_found", "_law_stops", "_law_one_here", "_law_other", "_law_place_here", "_law_site"]
theorem scDue : FnScope nDue ["_law_sites_here", "_law_aa", "_law_bb"] (defScope sDue) := ⟨rfl, rfl, rfl, by decide +kernel, rfl, by decide +kernel, by decide +kernel⟩
theorem eqv_two (x y u v : Int) : PyData.eqv (.tuple [.int x, .int y]) (.tuple [.int u, .int v]) = decide (x = u ∧ y = v) := by
  simp [PyData.eqv, PyData.eqvAll, Bool.decide_and, Bool.beq_eq_decide_eq]
def dSite (q : Int × Int) : PyData := .tuple [.int q.1, .int q.2]
theorem dp_sites {H : Hp} {f : Addr → Int × Int} : ∀ {ts : List Addr}, SitF f H ts → DpAll K H (ts.map V.ref) (ts.map fun t => dSite (f t))
  | [], _ => .nil
  | t :: ts, h => .cons (dpSit (h t List.mem_cons_self).1) (dp_sites fun x m => h x (List.mem_cons_of_mem _ m))
theorem any_site {f : Addr → Int × Int} {F : List Addr} {q : Int × Int} : ((F.map fun t => dSite (f t)).any fun z => PyData.eqv z (dSite q)) = decide (q ∈ F.map f) := by
  rw [Bool.eq_iff_iff, List.any_eq_true, decide_eq_true_eq, List.mem_map]
  constructor
  · rintro ⟨z, hz, e⟩
    obtain ⟨t, mt, rfl⟩ := List.mem_map.mp hz
    unfold dSite at e
    rw [eqv_two, decide_eq_true_eq] at e
    exact ⟨t, mt, Prod.ext e.1 e.2⟩
  · rintro ⟨t, mt, rfl⟩
    refine ⟨_, List.mem_map.mpr ⟨t, mt, rfl⟩, ?_⟩
    unfold dSite
    rw [eqv_two]
    exact decide_eq_true ⟨rfl, rfl⟩
theorem sites_lay (f : Addr → Int × Int) : ∀ F : List Addr, PyData.canLayAll0 (F.map fun t => dSite (f t)) = true ∧ PyData.depthAll (F.map fun t => dSite (f t)) ≤ 10
  | [] => ⟨rfl, Nat.zero_le _⟩
  | t :: F => by
    obtain ⟨h1, h2⟩ := sites_lay f F
    refine ⟨?_, ?_⟩
    · rw [List.map_cons]
      show (PyData.canLay0 (dSite (f t)) && _) = true
      rw [h1]
      simp [dSite, PyData.canLay0, PyData.canLayAll0]
    · simp only [List.map_cons, PyData.depthAll]
      have : (dSite (f t)).depth ≤ 10 := by simp [dSite, PyData.depth, PyData.depthAll]
      omega
theorem sites_shaped (f : Addr → Int × Int) (F : List Addr) : SeqAt.shaped (.list (F.map fun t => dSite (f t))) = true := by
  obtain ⟨h1, h2⟩ := sites_lay f F
  unfold SeqAt.shaped
  rw [Bool.and_eq_true]
  refine ⟨by simp [PyData.canLay0, h1], decide_eq_true ?_⟩
  simp only [PyData.depth]
  omega
/-- sorted, no two alike -/
def sLt (f : Addr → Int × Int) (a b : Addr) : Prop := lexLe (f a) (f b) ∧ f a ≠ f b
theorem sLt_irr {f : Addr → Int × Int} (x : Addr) : ¬ sLt f x x := fun h => h.2 rfl
theorem sLt_tr {f : Addr → Int × Int} (x y z : Addr) (a : sLt f x y) (b : sLt f y z) : sLt f x z := ⟨a.1.trans b.1, fun e => a.2 (a.1.anti (by rw [e]; exact b.1))⟩
theorem sLt_of {f : Addr → Int × Int} {l : List Addr} (h : l.Pairwise fun a b => lexLe (f a) (f b)) (n : (l.map f).Nodup) : l.Pairwise (sLt f) := by
  have n' : l.Pairwise fun a b => f a ≠ f b := List.pairwise_map.mp n
  exact h.imp₂ (fun a b x y => ⟨x, y⟩) n'
/-- what is told nearest is what is lowest -/
theorem near_eq {f : Addr → Int × Int} {w : Way} {ts rs us : List Addr} {n d g X Y D : Int} (nod : (ts.map f).Nodup) (hg : g ≠ 0) (ha : 0 < w.ad) (hb : 0 < w.bd) (hd : 0 < d) (ex : g * X = w.px n d) (ey : g * Y = w.py n d) (ed : g * D = w.pd d)
    (pu : us.Perm (nearS f ts X Y D)) (su : us.Pairwise fun a b => lexLe (f a) (f b)) (pr : rs.Perm ts) (sr : rs.Pairwise fun a b => lexLe (f a) (f b)) : us = w.near f rs ((n : Rat) / d) := by
  have nu : (us.map f).Nodup := (pu.map f).nodup_iff.mpr (List.Sublist.nodup (List.Sublist.map f List.filter_sublist) nod)
  have nr : (rs.map f).Nodup := (pr.map f).nodup_iff.mpr nod
  have sn : (w.near f rs ((n : Rat) / d)).Pairwise (sLt f) := (sLt_of sr nr).filter _
  refine srt_uniq sLt_irr sLt_tr (sLt_of su nu) sn fun t => ?_
  rw [pu.mem_iff]
  unfold nearS Way.near
  rw [List.mem_filter, List.mem_filter, decide_eq_true_eq, decide_eq_true_eq, pr.mem_iff]
  refine and_congr Iff.rfl ?_
  constructor
  · exact fun h r hr => (near_iff hg ha hb hd ex ey ed (f t) (f r)).mp (h r (pr.mem_iff.mp hr))
  · exact fun h r hr => (near_iff hg ha hb hd ex ey ed (f t) (f r)).mpr (h r (pr.mem_iff.mpr hr))
theorem f_inj {f : Addr → Int × Int} {ts : List Addr} (nod : (ts.map f).Nodup) {a b : Addr} (ha : a ∈ ts) (hb : b ∈ ts) (e : f a = f b) : a = b := by
  obtain ⟨i, hi, ei⟩ := List.mem_iff_getElem.mp ha
  obtain ⟨j, hj, ej⟩ := List.mem_iff_getElem.mp hb
  have p := List.pairwise_iff_getElem.mp (List.pairwise_map.mp nod)
  rcases Nat.lt_trichotomy i j with z | z | z
  · have := p i j hi hj z
    rw [ei, ej] at this
    exact absurd e this
  · subst z
    exact ei.symm.trans ej
  · have := p j i hj hi z
    rw [ei, ej] at this
    exact absurd e.symm this
theorem qv_mid {p q : Int × Int} (hp : 0 < p.2) (hq : 0 < q.2) : ((p.1 * q.2 + q.1 * p.2 : Int) : Rat) / ((2 * p.2 * q.2 : Int) : Rat) = (qv p + qv q) / 2 := by
  unfold qv
  have p' : (p.2 : Rat) ≠ 0 := by exact_mod_cast (show p.2 ≠ 0 by omega)
  have q' : (q.2 : Rat) ≠ 0 := by exact_mod_cast (show q.2 ≠ 0 by omega)
  push_cast
  grind
/-- the sites that are met by the law's own walk -/
def spDue : Sp := fun vs H Q _ => ∃ (p a b : Addr) (ts : List Addr) (f : Addr → Int × Int) (w : Way), vs = [.ref p, .ref a, .ref b] ∧ H p = some (.lst (ts.map V.ref)) ∧ SitF f H ts ∧ (ts.map f).Nodup ∧ 0 < ts.length ∧ ts.length < 64 ∧ Pla H a w.ax w.ay w.ad ∧ Pla H b w.bx w.by' w.bd ∧ WayOk w ∧
  ∀ (p' : Addr) (us : List Addr) H', Same H H' → H' p' = some (.lst (us.map V.ref)) → (∀ rs L, rs.Perm ts → rs.Pairwise (fun a b => lexLe (f a) (f b)) → OnWay f w rs L → us = L) → Q (.ref p') H'
set_option pp.maxSteps 300 in
theorem ok_due {f fC fP fN : Addr} {fd fdC fdP fdN : FuncData} {k : Nat} (F : Fun K "_law_due" "_law_due" sDue f fd) (GC : FnOk P w K mg base CX0 (k + 3) fC fdC ["_law_sites_here", "_law_aa", "_law_bb"] spCross) (gC : mg "_law_crossings" = some (.ref fC)) (kC : PySem.W.keepIn K (.ref fC) = true) (bC : Binds K fdC ["_law_sites_here", "_law_aa", "_law_bb"] []) (GP : FnOk P w K mg base CX0 (k + 3) fP fdP ["_law_aa", "_law_bb", "_law_n", "_law_d"] spPoint) (gP : mg "_law_point" = some (.ref fP)) (kP : PySem.W.keepIn K (.ref fP) = true) (bP : Binds K fdP ["_law_aa", "_law_bb", "_law_n", "_law_d"] []) (GN : FnOk P w K mg base CX0 (k + 3) fN fdN ["_law_sites_here", "_law_place_here"] spNearL) (gN : mg "_law_nearest" = some (.ref fN)) (kN : PySem.W.keepIn K (.ref fN) = true) (bN : Binds K fdN ["_law_sites_here", "_law_place_here"] []) (mzip : mg "zip" = none) : FnOk P w K mg base CX0 (k + 4) f fd ["_law_sites_here", "_law_aa", "_law_bb"] spDue := by
  refine F.ok scDue (fun vs H Q E h => ?_) (fun cdv A outer s H vs Q E hr h => ?_)
  · obtain ⟨p, a, b, ts, g, v, rfl, _⟩ := h
    rfl
  · obtain ⟨p, a, b, ts, g, v, rfl, hp, hs, nod, l0, l1, ha, hb, wk, q⟩ := h
    have nd := scDue.nd
    have hu := hu_of hr
    have hu5 : (A.deeper (envOfC "_law_due" (defScope sDue) s.heap.objs.size f cdv)).units + 65 < cLine := by have := hr.un; omega
    refine ⟨_, (pss_cons (ps_asg (pe_tupG (pa_cons (pe_lstG pa_nil) (pa_cons (pe_call GC hr (by rfl) gC kC bC .nil pass0 (pa_cons (pv 0) (pa_cons (pv 1) (pa_cons (pv 2) pa_nil)))) pa_nil))) (pg_tup (by rfl) (pgs_cons (pg_name (i := 3) nd rfl (.inr rfl)) (pgs_cons (pg_name (i := 4) nd rfl (.inl rfl)) pgs_nil)))) (pss_cons (ps_for PassesOwn.never rfl (pi_zip (by rfl) mzip (pa_cons (pv 4) (pa_cons (pe_slice sl_listG (pv 4) (po_some pe_int) po_none) pa_nil))) (pg_tup (by rfl) (pgs_cons (pg_name (i := 5) nd rfl (.inl rfl)) (pgs_cons (pg_name (i := 6) nd rfl (.inl rfl)) pgs_nil))) (pss_cons (ps_set (i := 7) nd rfl (.inl rfl) (pe_call GP hr (by rfl) gP kP bP .nil pass0 (pa_cons (pv 1) (pa_cons (pv 2) (pa_cons (pe_op op_add (pe_op op_mulW (pe_ix ix_tup (pv 5) pe_int (fun _ _ => rfl)) (pe_ix ix_tup (pv 6) pe_int (fun _ _ => rfl))) (pe_op op_mulW (pe_ix ix_tup (pv 6) pe_int (fun _ _ => rfl)) (pe_ix ix_tup (pv 5) pe_int (fun _ _ => rfl)))) (pa_cons (pe_op op_mulW (pe_op op_mulW pe_int (pe_ix ix_tup (pv 5) pe_int (fun _ _ => rfl))) (pe_ix ix_tup (pv 6) pe_int (fun _ _ => rfl))) pa_nil)))))) (pss_one (ps_set (i := 3) nd rfl (.inr rfl) (pe_op op_catG (pv 3) (pe_lc (own := [("_law_site", 8)]) (g := (gName 8))  rfl nd (pi_list (pe_call GN hr (by rfl) gN kN bN .nil pass0 (pa_cons (pv 0) (pa_cons (pv 7) pa_nil)))) (blkOk_by (own := [("_law_site", 8)]) (N := nDue) (sc := defScope sDue) (by decide +kernel)) (fun _ _ _ _ _ => by exact (pg_name (i := 8) nd rfl (.inl rfl))) (fun _ _ _ _ _ => by exact (pts_one (pt_cmpR (r := rNotInD K) (by exact op_notInD hu5) (pv 8) (pv 3) rfl))) (fun _ _ _ _ _ => by exact (pv 8)))))))) (pss_one (ps_ret (pv 3))))), ?_⟩
    refine ⟨zero_line, fun F0 H1 s1 n1 e1 => ⟨_, rfl, _, rfl, _, rfl, p, a, b, ts, g, v, rfl, s1 _ _ hp, hs.same s1, l1, s1 _ _ ha, s1 _ _ hb, wk, fun p' us qs ps H2 s2 e2 sr red eqs stops lu => ⟨two_line, fun T H3 s3 n3 e3 => ⟨T, _, rfl, SqT.of e3, rfl, _, _, rfl, _, _, rfl, rfl, ?_⟩⟩⟩⟩
    have S3 := s1.trans (s2.trans s3)
    have eF := s3 _ _ (s2 _ _ e1)
    have e2' := s3 _ _ e2
    refine ⟨_, rfl, _, rfl, _, rfl, p', _, rfl, SqL.of e2', fun q0 H4 s4 n4 e4 => ?_⟩
    have uq : us.length = qs.length := sr.len
    have ul : 1 ≤ us.length := by
      rw [uq]
      cases qs with
      | nil => cases eqs
      | cons _ _ => exact Nat.succ_le_succ (Nat.zero_le _)
    rw [show ((1 : Int)) = ((1 : Nat) : Int) from rfl, cut_from (by rw [List.length_map]; exact ul), ← List.map_drop] at e4
    refine ⟨p', q0, us.map V.ref, (us.drop 1).map V.ref, rfl, SqL.of (s4 _ _ e2'), SqL.of e4, ?_⟩
    have sr4 : SR H4 us qs := (sr.same s3).same s4
    have hn : us.length - 1 = min (us.map V.ref).length ((us.drop 1).map V.ref).length := by
      rw [List.length_map, List.length_map, List.length_drop]
      omega
    refine for_it (walk_zip (K := K) (a := p') (b := q0) (xs := us.map V.ref) (ys := (us.drop 1).map V.ref) hn) (fun i σ' H' => ∃ y5 y6 y7 y8 Fa Fl, σ' = [some (.ref p), some (.ref a), some (.ref b), some (.ref Fa), some (.ref p'), y5, y6, y7, y8] ∧ Same H4 H' ∧ H' Fa = some (.lst (Fl.map V.ref)) ∧ Fl.length ≤ 64 * i ∧ (∀ t ∈ Fl, t ∈ ts) ∧ ∀ rs, rs.Perm ts → rs.Pairwise (fun a b => lexLe (g a) (g b)) → walkF (v.near g rs) ((qs.map qv).drop i) Fl = walkF (v.near g rs) (qs.map qv) [])
      ⟨none, none, none, none, F0, [], rfl, Same.refl _, s4 _ _ eF, Nat.zero_le _, fun _ m => (nomatch m), fun rs _ _ => rfl⟩ (fun i σ' H' _ z => ?_) (fun i x σ' H' H5 hi z y => ?_) fun σ' H' z => ?_
    · obtain ⟨_, _, _, _, _, _, _, z, _⟩ := z
      exact ⟨SqL.of (z _ _ (s4 _ _ e2')), SqL.of (z _ _ e4)⟩
    · obtain ⟨y5, y6, y7, y8, Fa, Fl, rfl, s5, eFl, lFl, sub, wkF⟩ := z
      obtain ⟨T, x1, x2, rfl, nT, rfl, ex1, ex2⟩ := y
      obtain ⟨o1, et1, rfl⟩ : ∃ t, us[i]? = some t ∧ x1 = V.ref t := by
        have ex1 : (us.map V.ref)[i]? = some x1 := ex1
        rw [List.getElem?_map] at ex1
        obtain ⟨t, et, e⟩ := Option.map_eq_some_iff.mp ex1
        exact ⟨t, et, e.symm⟩
      obtain ⟨o2, et2, rfl⟩ : ∃ t, us[i + 1]? = some t ∧ x2 = V.ref t := by
        have ex2 : ((us.drop 1).map V.ref)[i]? = some x2 := ex2
        rw [List.getElem?_map, List.getElem?_drop] at ex2
        obtain ⟨t, et, e⟩ := Option.map_eq_some_iff.mp ex2
        exact ⟨t, by rw [Nat.add_comm i 1]; exact et, e.symm⟩
      obtain ⟨q1, eq1, hq1⟩ := sr4.at et1
      obtain ⟨q2, eq2, hq2⟩ := sr4.at et2
      have r1 := red q1 (List.mem_of_getElem? eq1)
      have r2 := red q2 (List.mem_of_getElem? eq2)
      have s6 : Same H4 (upd H' T (.tup [V.ref o1, V.ref o2])) := s5.trans (Same.upd nT)
      have eT : upd H' T (.tup [V.ref o1, V.ref o2]) T = some (.tup [V.ref o1, V.ref o2]) := upd_same
      have eF6 := Same.upd nT (o := .tup [V.ref o1, V.ref o2]) _ _ eFl
      generalize upd H' T (.tup [V.ref o1, V.ref o2]) = H6 at s6 eT eF6
      have eo1 := s6 _ _ hq1
      have eo2 := s6 _ _ hq2
      have n1' : q1.1.natAbs < 2 ^ 446 := Nat.lt_of_le_of_lt (by have := r1.n0; have := r1.le; omega) r1.b
      have n2' : q2.1.natAbs < 2 ^ 446 := Nat.lt_of_le_of_lt (by have := r2.n0; have := r2.le; omega) r2.b
      have m1 : CMulW q1.1 q2.2 := wide_mul n1' r2.b (by decide) (by decide) (by decide)
      have m2 : CMulW q2.1 q1.2 := wide_mul n2' r1.b (by decide) (by decide) (by decide)
      have m3 : CMulW 2 q1.2 := wide_mul (a := 2) (by decide) r1.b (by decide) (by decide) (by decide)
      have w3 : (2 * q1.2).natAbs < 2 ^ 448 := wide_lt (a := 2) (by decide) r1.b
      have m4 : CMulW (2 * q1.2) q2.2 := wide_mul w3 r2.b (by decide) (by decide) (by decide)
      have bn : (q1.1 * q2.2 + q2.1 * q1.2).natAbs < 2 ^ 900 := nb_up (nb_add (wide_lt n1' r2.b) (wide_lt n2' r1.b)) (by decide)
      have bd : (2 * q1.2 * q2.2).natAbs < 2 ^ 900 := nb_up (wide_lt w3 r2.b) (by decide)
      have d0 : 0 < 2 * q1.2 * q2.2 := Int.mul_pos (Int.mul_pos (by decide) r1.d0) r2.d0
      have S6 := S3.trans (s4.trans s6)
      refine ⟨T, _, rfl, SqT.of eT, rfl, _, _, rfl, _, _, rfl, rfl, ?_⟩
      refine ⟨_, rfl, _, rfl, _, rfl, _, _, _, _, rfl, rfl, SqT.of (eo1), at0_ _ _, _, rfl, _, _, _, _, rfl, rfl, SqT.of (eo2), at1_ _ _, _, _, rfl, rfl, m1, _, rfl, _, _, _, _, rfl, rfl, SqT.of (eo2), at0_ _ _, _, rfl, _, _, _, _, rfl, rfl, SqT.of (eo1), at1_ _ _, _, _, rfl, rfl, m2, _, _, rfl, rfl, _, rfl, _, _, _, _, rfl, rfl, SqT.of (eo1), at1_ _ _, _, _, rfl, rfl, m3, _, rfl, _, _, _, _, rfl, rfl, SqT.of (eo2), at1_ _ _, _, _, rfl, rfl, m4, a, b, _, _, v, rfl, S6 _ _ ha, S6 _ _ hb, wk, bn, bd, d0, fun pl X Y D gg H7 s7 e7 g0 ex ey ed bx by' bd' => ?_⟩
      have S7 := S6.trans s7
      refine ⟨_, rfl, _, rfl, _, rfl, p, pl, ts, g, X, Y, D, rfl, S7 _ _ hp, hs.same S7, l0, l1, e7, bx, by', bd', fun un us2 H8 s8 e8 pm so => ⟨un, rfl, ⟨_, SqL.of e8⟩, fun Dd nD => ?_⟩⟩
      have eF8 := s8 _ _ (s7 _ _ eF6)
      have S8 := S7.trans s8
      have near2 : ∀ rs, rs.Perm ts → rs.Pairwise (fun a b => lexLe (g a) (g b)) → v.near g rs ((qv q1 + qv q2) / 2) = us2 := fun rs pr so2 => by
        rw [← qv_mid r1.d0 r2.d0]
        exact (near_eq nod g0 (by have := wk.a.d1; omega) (by have := wk.b.d1; omega) d0 ex ey ed pm so pr so2).symm
      have us2ts : ∀ t ∈ us2, t ∈ ts := fun t m => (List.mem_filter.mp (pm.mem_iff.mp m)).1
      have us2l : us2.length ≤ 64 := by
        rw [pm.length_eq]
        exact Nat.le_trans (List.length_filter_le _ _) (by omega)
      refine lc_list (K := K) (a := un) (xs := us2.map V.ref) (fun j H' => Same H8 H' ∧ H' Dd = some (.lst (((us2.take j).filter fun t => decide (t ∉ Fl)).map V.ref))) ⟨Same.upd nD, upd_same⟩ (fun j H' _ z => SqL.of (z.1 _ _ e8)) (fun j x H9 ex z => ?_) fun H9 z => ?_
      · obtain ⟨s9, eD⟩ := z
        obtain ⟨t, et, rfl⟩ : ∃ t, us2[j]? = some t ∧ x = V.ref t := by
          rw [List.getElem?_map] at ex
          obtain ⟨t, et, e⟩ := Option.map_eq_some_iff.mp ex
          exact ⟨t, et, e.symm⟩
        have mt := us2ts t (List.mem_of_getElem? et)
        have S9 := S8.trans s9
        have ds : SitF g H9 Fl := fun x m => (hs.same S9) x (sub x m)
        refine ⟨rfl, _, rfl, _, rfl, dSite (g t), Fl.map fun t => dSite (g t), dpSit ((hs.same S9) t mt).1, .lst (SqL.of (s9 _ _ eF8)) (dp_sites ds), rfl, sites_shaped g Fl, _, rfl, ?_⟩
        rw [any_site]
        have key : (!decide (g t ∈ Fl.map g)) = decide (t ∉ Fl) := by
          rw [← decide_not]
          refine decide_eq_decide.mpr (not_congr ⟨fun m => ?_, fun m => List.mem_map.mpr ⟨t, m, rfl⟩⟩)
          obtain ⟨x, mx, e⟩ := List.mem_map.mp m
          rw [← f_inj nod (sub x mx) mt e]
          exact mx
        rw [key]
        have fil : ((us2.take (j + 1)).filter fun t => decide (t ∉ Fl)) = ((us2.take j).filter fun t => decide (t ∉ Fl)) ++ if decide (t ∉ Fl) = true then [t] else [] := by
          rw [List.take_add_one, et, Option.toList_some, List.filter_append, List.filter_cons, List.filter_nil]
        show if decide (t ∉ Fl) = true then _ else _
        by_cases c : decide (t ∉ Fl) = true
        · rw [if_pos c]
          refine ⟨_, rfl, _, eD, ?_, Same.put s9 nD, ?_⟩
          · rw [List.length_map]
            exact Nat.lt_of_le_of_lt (List.length_filter_le _ _) (Nat.lt_of_le_of_lt (List.length_take_le' _ _) (Nat.lt_of_le_of_lt us2l (by decide)))
          · rw [upd_same, fil, if_pos c, List.map_append]
            rfl
        · rw [if_neg c]
          refine ⟨s9, ?_⟩
          rw [fil, if_neg c, List.append_nil]
          exact eD
      · rw [List.length_map, List.take_length] at z
        obtain ⟨s9, eD⟩ := z
        have il : i < 5000 := by omega
        have fl2 : (us2.filter fun t => decide (t ∉ Fl)).length ≤ 64 := Nat.le_trans (List.length_filter_le _ _) us2l
        refine ⟨Fa, Dd, _, _, rfl, rfl, s9 _ _ eF8, eD, ?_, fun A5 H10 s10 n10 e10 => ⟨_, _, _, _, A5, Fl ++ us2.filter fun t => decide (t ∉ Fl), rfl, s6.trans (s7.trans (s8.trans (s9.trans s10))), ?_, ?_, fun t m => ?_, fun rs pr so2 => ?_⟩⟩
        · rw [List.length_map, List.length_map]
          have : (400000 : Nat) ≤ sizeLine := by decide
          omega
        · rw [e10, List.map_append]
        · rw [List.length_append]
          omega
        · rcases List.mem_append.mp m with m | m
          · exact sub t m
          · exact us2ts t (List.mem_filter.mp m).1
        · rw [← wkF rs pr so2]
          have eA : (qs.map qv)[i]? = some (qv q1) := by rw [List.getElem?_map, eq1]; rfl
          have eB : (qs.map qv)[i + 1]? = some (qv q2) := by rw [List.getElem?_map, eq2]; rfl
          obtain ⟨hA, eA⟩ := List.getElem?_eq_some_iff.mp eA
          obtain ⟨hB, eB⟩ := List.getElem?_eq_some_iff.mp eB
          rw [List.drop_eq_getElem_cons hA, eA, List.drop_eq_getElem_cons hB, eB]
          show _ = walkF (v.near g rs) (qv q2 :: (qs.map qv).drop (i + 1 + 1)) (Fl ++ (v.near g rs ((qv q1 + qv q2) / 2)).filter fun s => decide (s ∉ Fl))
          rw [near2 rs pr so2]
    · obtain ⟨y5, y6, y7, y8, Fa, Fl, rfl, s5, eFl, lFl, sub, wkF⟩ := z
      refine ⟨_, rfl, q Fa Fl H' (S3.trans (s4.trans s5)) eFl fun rs L pr so on => ?_⟩
      have last : walkF (v.near g rs) ((qs.map qv).drop (us.length - 1)) Fl = Fl := by
        have hl : us.length - 1 < (qs.map qv).length := by
          rw [List.length_map]
          omega
        rw [List.drop_eq_getElem_cons hl, List.drop_eq_nil_of_le (by rw [List.length_map]; omega)]
        rfl
      have stops' : Stops g v rs ps := ⟨stops.1, stops.2.1, fun s hs r hr => stops.2.2 s (pr.mem_iff.mp hs) r (pr.mem_iff.mp hr)⟩
      rw [← last, wkF rs pr so, eqs]
      exact due_is on stops'
end
section
variable {P : Program} {w : World} {K : PySem.W.Frag} {mg : Str → Option Value} {base : Heap}
abbrev sWays : Stmt := topS 33
abbrev nWays : List Str := ["_law_source", "_law_sites_here", "_law_p", "_law_q", "_law_u", "_law_v", "_law_found", "_law_x", "_law_y", "_law_near", "_law_drawn_here", "_law_one_here", "_law_great", "_law_k", "_law_pair"]
theorem scWays : FnScope nWays ["_law_source", "_law_sites_here"] (defScope sWays) := ⟨rfl, rfl, rfl, by decide +kernel, rfl, by decide +kernel, by decide +kernel⟩
theorem a40_ (a b c d : V) : atI [a, b, c, d] 0 = some a := rfl
theorem a41_ (a b c d : V) : atI [a, b, c, d] 1 = some b := rfl
theorem a42_ (a b c d : V) : atI [a, b, c, d] 2 = some c := rfl
theorem a43_ (a b c d : V) : atI [a, b, c, d] 3 = some d := rfl
theorem cw {i j : Int} (h : i.natAbs < 10 ^ 31) (k : j.natAbs < 10 ^ 31) : CMulW i j := wide_mul (a := 110) (b := 110) (by omega) (by omega) (by decide) (by decide) (by decide)
theorem pl_one {x y : Int} (h : Bd 1000000 x y) : PlOk x y 1 := by
  obtain ⟨h1, h2, h3, h4⟩ := h
  refine ⟨by omega, by omega, by omega, by omega, by decide, by decide, ?_⟩
  unfold g3
  exact Nat.gcd_one_right _
/-- two places -/
def PairOk (G : Hp) (u : Addr) : Prop := ∃ (a b : Addr) (w : Way), G u = some (.tup [.ref a, .ref b]) ∧ Pla G a w.ax w.ay w.ad ∧ Pla G b w.bx w.by' w.bd ∧ WayOk w
theorem PairOk.map {G G' : Hp} {u : Addr} (h : PairOk G u) (k : ∀ c xs, G c = some (.tup xs) → G' c = some (.tup xs)) : PairOk G' u := by
  obtain ⟨a, b, w, h1, h2, h3, h4⟩ := h
  exact ⟨a, b, w, k _ _ h1, k _ _ h2, k _ _ h3, h4⟩
theorem PairOk.same {G G' : Hp} {u : Addr} (h : PairOk G u) (k : Same G G') : PairOk G' u := h.map fun _ _ e => k _ _ e
theorem PairOk.stp {G G' : Hp} {u s : Addr} (h : PairOk G u) (hs : Src G s) (k : Stp s G G') : PairOk G' u := h.map fun _ _ e => k.keep _ _ (hs.ne e (by intro _ _ _ z; cases z)) e
theorem PairOk.put {G : Hp} {u F : Addr} {xs : List V} {o : HO} (h : PairOk G u) (e : G F = some (.lst xs)) : PairOk (upd G F o) u := h.map fun _ _ e' => by
  rw [upd_ne (ne_of e' e (by intro z; cases z))]
  exact e'
/-- so far: the source turned on, some pairs found -/
structure Way1 (s F : Addr) (H G : Hp) (us : List Addr) : Prop where
  st : Stp s H G
  at_ : G F = some (.lst (us.map V.ref))
  ok : ∀ u ∈ us, PairOk G u
  nf : H F = none
  ns : F ≠ s
theorem Way1.same {s F : Addr} {H G G' : Hp} {us : List Addr} (h : Way1 s F H G us) (k : Same G G') : Way1 s F H G' us := ⟨h.st.same k, k _ _ h.at_, fun u m => (h.ok u m).same k, h.nf, h.ns⟩
theorem Way1.stp {s F : Addr} {H G G' : Hp} {us : List Addr} (h : Way1 s F H G us) (k : Stp s G G') : Way1 s F H G' us := ⟨h.st.trans k, k.keep _ _ h.ns h.at_, fun u m => (h.ok u m).stp h.st.src k, h.nf, h.ns⟩
theorem Way1.put {s F u a b : Addr} {H G : Hp} {us : List Addr} {X Y D x y d : Int} (h : Way1 s F H G us) (e : G u = some (.tup [.ref a, .ref b])) (ha : Pla G a X Y D) (hb : Pla G b x y d) (oa : PlOk X Y D) (ob : PlOk x y d) : Way1 s F H (upd G F (.lst (us.map V.ref ++ [.ref u]))) (us ++ [u]) := by
  refine ⟨h.st.set h.nf h.ns, by rw [upd_same, List.map_append]; rfl, fun v m => ?_, h.nf, h.ns⟩
  rcases List.mem_append.mp m with m | m
  · exact (h.ok v m).put h.at_
  · rw [List.mem_singleton.mp m]
    exact PairOk.put ⟨a, b, ⟨X, Y, D, x, y, d⟩, e, ha, hb, oa, ob⟩ h.at_
/-- some pairs of places -/
def spWays : Sp := fun vs H Q _ => ∃ (s p : Addr) (ts : List Addr) (f : Addr → Int × Int), vs = [.ref s, .ref p] ∧ Src H s ∧ p ≠ s ∧ H p = some (.lst (ts.map V.ref)) ∧ SitF f H ts ∧ 0 < ts.length ∧ ts.length < 64 ∧
  ∀ (p' : Addr) (us : List Addr) H', Stp s H H' → H p' = none → H' p' = some (.lst (us.map V.ref)) → us.length ≤ 10 → (∀ u ∈ us, ∃ (a b : Addr) (w : Way), H' u = some (.tup [.ref a, .ref b]) ∧ Pla H' a w.ax w.ay w.ad ∧ Pla H' b w.bx w.by' w.bd ∧ WayOk w ∧ ¬ (w.ax = w.bx ∧ w.ay = w.by' ∧ w.ad = w.bd)) → Q (.ref p') H'
set_option pp.maxSteps 300 in
theorem ok_ways {f fO fN fPl : Addr} {fd fdO fdN fdPl : FuncData} {k : Nat} (F : Fun K "_law_ways" "_law_ways" sWays f fd) (GO : FnOk P w K mg base CX0 (k + 3) fO fdO ["_law_source", "_law_some"] (spOne K)) (gO : mg "_law_one" = some (.ref fO)) (kO : PySem.W.keepIn K (.ref fO) = true) (bO : Binds K fdO ["_law_source", "_law_some"] []) (GN : FnOk P w K mg base CX0 (k + 3) fN fdN ["_law_source", "_law_many"] spNext) (gN : mg "_law_next" = some (.ref fN)) (kN : PySem.W.keepIn K (.ref fN) = true) (bN : Binds K fdN ["_law_source", "_law_many"] []) (GPl : FnOk P w K mg base CX0 (k + 3) fPl fdPl ["_law_x", "_law_y", "_law_d"] spPlOf) (gPl : mg "_law_place" = some (.ref fPl)) (kPl : PySem.W.keepIn K (.ref fPl) = true) (bPl : Binds K fdPl ["_law_x", "_law_y", "_law_d"] []) (mrange : mg "range" = none) : FnOk P w K mg base CX0 (k + 4) f fd ["_law_source", "_law_sites_here"] spWays := by
  refine F.ok scWays (fun vs H Q E h => ?_) (fun cdv A outer s0 H vs Q E hr h => ?_)
  · obtain ⟨s, p, ts, g, rfl, _⟩ := h
    rfl
  · obtain ⟨s, p, ts, g, rfl, src, ps, hp, hs, l0, l1, q⟩ := h
    have nd := scWays.nd
    have hu := hu_of hr
    have hu5 : (A.deeper (envOfC "_law_ways" (defScope sWays) s0.heap.objs.size f cdv)).units + 64 < cLine := by have := hr.un; omega
    refine ⟨_, (pss_cons (ps_par (i := 2) (j := 3) (by rfl) nd rfl rfl (by decide) rfl rfl (pa_cons (pe_call GO hr (by rfl) gO kO bO .nil pass0 (pa_cons (pv 0) (pa_cons (pv 1) pa_nil))) (pa_cons (pe_call GO hr (by rfl) gO kO bO .nil pass0 (pa_cons (pv 0) (pa_cons (pv 1) pa_nil))) pa_nil)) (by rfl)) (pss_cons (ps_par (i := 4) (j := 5) (by rfl) nd rfl rfl (by decide) rfl rfl (pa_cons (pe_op op_sub (pe_ix ix_tup (pv 3) pe_int (fun _ _ => rfl)) (pe_ix ix_tup (pv 2) pe_int (fun _ _ => rfl))) (pa_cons (pe_op op_sub (pe_ix ix_tup (pv 3) pe_int (fun _ _ => rfl)) (pe_ix ix_tup (pv 2) pe_int (fun _ _ => rfl))) pa_nil)) (by rfl)) (pss_cons (ps_set (i := 6) nd rfl (.inl rfl) (pe_lstG (pa_cons (pe_tupG (pa_cons (pe_tupG (pa_cons (pe_ix ix_tup (pv 2) pe_int (fun _ _ => rfl)) (pa_cons (pe_ix ix_tup (pv 2) pe_int (fun _ _ => rfl)) (pa_cons pe_int pa_nil)))) (pa_cons (pe_tupG (pa_cons (pe_ix ix_tup (pv 3) pe_int (fun _ _ => rfl)) (pa_cons (pe_ix ix_tup (pv 3) pe_int (fun _ _ => rfl)) (pa_cons pe_int pa_nil)))) pa_nil))) pa_nil))) (pss_cons (ps_par (i := 7) (j := 8) (by rfl) nd rfl rfl (by decide) rfl rfl (pa_cons (pe_op op_add (pe_ix ix_tup (pv 2) pe_int (fun _ _ => rfl)) (pe_ix ix_tup (pv 3) pe_int (fun _ _ => rfl))) (pa_cons (pe_op op_add (pe_ix ix_tup (pv 2) pe_int (fun _ _ => rfl)) (pe_ix ix_tup (pv 3) pe_int (fun _ _ => rfl))) pa_nil)) (by rfl)) (pss_cons (ps_expr (pe_bm PySem.F.plainAttrs_list PySem.F.slot_list_append PySem.F.type_list_append mt_append (pv 6) (pa_cons (pe_tupG (pa_cons (pe_call GPl hr (by rfl) gPl kPl bPl .nil pass0 (pa_cons (pe_op op_sub (pv 7) (pe_op op_mulW pe_int (pv 5))) (pa_cons (pe_op op_add (pv 8) (pe_op op_mulW pe_int (pv 4))) (pa_cons pe_int pa_nil)))) (pa_cons (pe_call GPl hr (by rfl) gPl kPl bPl .nil pass0 (pa_cons (pe_op op_add (pv 7) (pe_op op_mulW pe_int (pv 5))) (pa_cons (pe_op op_sub (pv 8) (pe_op op_mulW pe_int (pv 4))) (pa_cons pe_int pa_nil)))) pa_nil))) pa_nil))) (pss_cons (ps_set (i := 9) nd rfl (.inr rfl) (pe_call GO hr (by rfl) gO kO bO .nil pass0 (pa_cons (pv 0) (pa_cons (pe_lstG (pa_cons pe_int (pa_cons pe_int (pa_cons (pe_op op_pow pe_int pe_int) pa_nil)))) pa_nil)))) (pss_cons (ps_setLc (i := 10) (own := [("_law_k", 13)]) (g := (gName 13)) (tt := tYes)  rfl nd rfl rfl (sw_true rfl rfl rfl (by decide +kernel)) (pi_range1 (by rfl) mrange (pa_cons pe_int pa_nil)) (blkOk_by (own := [("_law_k", 13)]) (N := nWays) (sc := defScope sWays) (by decide +kernel)) (fun _ _ _ _ _ => by exact (pg_name (i := 13) nd rfl (.inl rfl))) (fun _ _ _ _ _ => by exact pts_nil) (fun _ _ _ _ _ => by exact (pe_op op_sub (pe_call GN hr (by rfl) gN kN bN .nil pass0 (pa_cons (pv 0) (pa_cons (pe_op op_mulW pe_int (pv 9)) pa_nil))) (pv 9)))) (pss_cons (ps_set (i := 11) nd rfl (.inl rfl) (pe_call GPl hr (by rfl) gPl kPl bPl .nil pass0 (pa_cons (pe_op op_add (pe_op op_mulW (pe_ix ix_tup (pv 2) pe_int (fun _ _ => rfl)) pe_int) (pe_ix ix_list (pv 10) pe_int (fun _ _ => rfl))) (pa_cons (pe_op op_add (pe_op op_mulW (pe_ix ix_tup (pv 2) pe_int (fun _ _ => rfl)) pe_int) (pe_ix ix_list (pv 10) pe_int (fun _ _ => rfl))) (pa_cons pe_int pa_nil))))) (pss_cons (ps_expr (pe_bm PySem.F.plainAttrs_list PySem.F.slot_list_append PySem.F.type_list_append mt_append (pv 6) (pa_cons (pe_tupG (pa_cons (pv 11) (pa_cons (pe_call GPl hr (by rfl) gPl kPl bPl .nil pass0 (pa_cons (pe_op op_add (pe_op op_mulW (pe_ix ix_tup (pv 3) pe_int (fun _ _ => rfl)) pe_int) (pe_ix ix_list (pv 10) pe_int (fun _ _ => rfl))) (pa_cons (pe_op op_add (pe_op op_mulW (pe_ix ix_tup (pv 3) pe_int (fun _ _ => rfl)) pe_int) (pe_ix ix_list (pv 10) pe_int (fun _ _ => rfl))) (pa_cons pe_int pa_nil)))) pa_nil))) pa_nil))) (pss_cons (ps_set (i := 12) nd rfl (.inl rfl) (pe_op op_add (pe_op op_pow pe_int pe_int) (pe_call GN hr (by rfl) gN kN bN .nil pass0 (pa_cons (pv 0) (pa_cons (pe_op op_pow pe_int pe_int) pa_nil))))) (pss_cons (ps_set (i := 11) nd rfl (.inl rfl) (pe_call GPl hr (by rfl) gPl kPl bPl .nil pass0 (pa_cons (pe_op op_add (pe_op op_mulW (pe_op op_sub (pe_op op_add (pe_ix ix_tup (pv 2) pe_int (fun _ _ => rfl)) (pe_ix ix_tup (pv 3) pe_int (fun _ _ => rfl))) (pe_op op_mulW pe_int (pv 5))) (pv 12)) pe_int) (pa_cons (pe_op op_mulW (pe_op op_add (pe_op op_add (pe_ix ix_tup (pv 2) pe_int (fun _ _ => rfl)) (pe_ix ix_tup (pv 3) pe_int (fun _ _ => rfl))) (pe_op op_mulW pe_int (pv 4))) (pv 12)) (pa_cons (pe_op op_mulW pe_int (pv 12)) pa_nil))))) (pss_cons (ps_expr (pe_bm PySem.F.plainAttrs_list PySem.F.slot_list_append PySem.F.type_list_append mt_append (pv 6) (pa_cons (pe_tupG (pa_cons (pv 11) (pa_cons (pe_call GPl hr (by rfl) gPl kPl bPl .nil pass0 (pa_cons (pe_op op_mulW (pe_op op_add (pe_op op_add (pe_ix ix_tup (pv 2) pe_int (fun _ _ => rfl)) (pe_ix ix_tup (pv 3) pe_int (fun _ _ => rfl))) (pe_op op_mulW pe_int (pv 5))) (pv 12)) (pa_cons (pe_op op_add (pe_op op_mulW (pe_op op_sub (pe_op op_add (pe_ix ix_tup (pv 2) pe_int (fun _ _ => rfl)) (pe_ix ix_tup (pv 3) pe_int (fun _ _ => rfl))) (pe_op op_mulW pe_int (pv 4))) (pv 12)) pe_int) (pa_cons (pe_op op_mulW pe_int (pv 12)) pa_nil)))) pa_nil))) pa_nil))) (pss_one (ps_ret (pe_lc (own := [("_law_pair", 14)]) (g := (gName 14))  rfl nd (pi_list (pv 6)) (blkOk_by (own := [("_law_pair", 14)]) (N := nWays) (sc := defScope sWays) (by decide +kernel)) (fun _ _ _ _ _ => by exact (pg_name (i := 14) nd rfl (.inl rfl))) (fun _ _ _ _ _ => by exact (pts_one (pt_cmpR (r := rNeD K) (by exact op_neD hu5) (pe_ix (r := rIxT K) (by exact ix_tup) (pv 14) pe_int (fun _ _ => rfl)) (pe_ix (r := rIxT K) (by exact ix_tup) (pv 14) pe_int (fun _ _ => rfl)) (nomark _)))) (fun _ _ _ _ _ => by exact (pv 14))))))))))))))))), ?_⟩
    have l2 : 0 < (ts.map V.ref).length := by rw [List.length_map]; exact l0
    have l3 : (ts.map V.ref).length ≤ 1000 := by rw [List.length_map]; omega
    have line3 : ∀ a b c : V, ([a, b, c] : List V).length ≤ sizeLine := fun _ _ _ => by show 3 ≤ sizeLine; decide
    refine ⟨_, rfl, _, rfl, s, p, _, rfl, src, hp, ps, l2, l3, fun z1 H1 mm1 st1 => ⟨_, rfl, _, rfl, s, p, _, rfl, st1.src, st1.keep _ _ ps hp, ps, l2, l3, fun z2 H2 mm2 st2' => ⟨_, _, rfl, ?_⟩⟩⟩
    obtain ⟨t1, m1, rfl⟩ := List.mem_map.mp mm1
    obtain ⟨t2, m2, rfl⟩ := List.mem_map.mp mm2
    have st2 := st1.trans st2'
    have b1 := (hs t1 m1).2
    have b2 := (hs t2 m2).2
    have k1 : ∀ {G}, Stp s H G → Sit G t1 (g t1).1 (g t1).2 := fun st => (hs t1 m1).1.stp src st
    have k2 : ∀ {G}, Stp s H G → Sit G t2 (g t2).1 (g t2).2 := fun st => (hs t2 m2).1.stp src st
    generalize g t1 = q1 at b1 k1
    generalize g t2 = q2 at b2 k2
    obtain ⟨x1, y1⟩ := q1
    obtain ⟨x2, y2⟩ := q2
    obtain ⟨b11, b12, b13, b14⟩ := b1
    obtain ⟨b21, b22, b23, b24⟩ := b2
    simp only at b11 b12 b13 b14 b21 b22 b23 b24
    refine ⟨_, rfl, _, _, _, _, rfl, rfl, SqT.of (k2 st2), at0_ _ _, _, rfl, _, _, _, _, rfl, rfl, SqT.of (k1 st2), at0_ _ _, _, _, rfl, rfl, _, rfl, _, _, _, _, rfl, rfl, SqT.of (k2 st2), at1_ _ _, _, rfl, _, _, _, _, rfl, rfl, SqT.of (k1 st2), at1_ _ _, _, _, rfl, rfl, _, _, rfl, ?_⟩
    refine ⟨_, rfl, _, _, _, _, rfl, rfl, SqT.of (k1 st2), at0_ _ _, _, rfl, _, _, _, _, rfl, rfl, SqT.of (k1 st2), at1_ _ _, line3 _ _ _, fun a1 G1 s1 n1 e1 => ⟨_, rfl, _, _, _, _, rfl, rfl, SqT.of (k2 (st2.same s1)), at0_ _ _, _, rfl, _, _, _, _, rfl, rfl, SqT.of (k2 (st2.same s1)), at1_ _ _, line3 _ _ _, fun a2 G2 s2 n2 e2 => ⟨two_line, fun u1 G3 s3 n3 e3 => ⟨two_one, fun F4 G4 s4 n4 e4 => ?_⟩⟩⟩⟩
    have S4 := s1.trans (s2.trans (s3.trans s4))
    have W4 : Way1 s F4 H G4 [u1] := ⟨st2.same S4, e4, fun u m => by
      rw [List.mem_singleton.mp m]
      exact ⟨a1, a2, ⟨x1, y1, 1, x2, y2, 1⟩, s4 _ _ e3, (s2.trans (s3.trans s4)) _ _ e1, (s3.trans s4) _ _ e2, pl_one ⟨b11, b12, b13, b14⟩, pl_one ⟨b21, b22, b23, b24⟩⟩, st2.free ((s1.trans (s2.trans s3)).free n4), (st2.same (s1.trans (s2.trans s3))).src.nen n4⟩
    refine ⟨_, rfl, _, _, _, _, rfl, rfl, SqT.of (k1 W4.st), at0_ _ _, _, rfl, _, _, _, _, rfl, rfl, SqT.of (k2 W4.st), at0_ _ _, _, _, rfl, rfl, _, rfl, _, _, _, _, rfl, rfl, SqT.of (k1 W4.st), at1_ _ _, _, rfl, _, _, _, _, rfl, rfl, SqT.of (k2 W4.st), at1_ _ _, _, _, rfl, rfl, _, _, rfl, ?_⟩
    have big : ∀ z : Int, z.natAbs < 10 ^ 30 → z.natAbs < 2 ^ 8000 := fun z h1 => nb_up (a := 100) (by omega) (by decide)
    have lenF : ∀ {us : List Addr}, us.length ≤ 10 → (us.map V.ref).length < sizeLine := fun h => by
      rw [List.length_map]
      exact Nat.lt_of_le_of_lt h (by decide)
    refine ⟨_, rfl, .inl ⟨rfl, _, SqL.of W4.at_⟩, _, rfl, _, rfl, _, _, rfl, rfl, (cw (by omega) (by omega)), _, _, rfl, rfl, _, rfl, _, rfl, _, _, rfl, rfl, (cw (by omega) (by omega)), _, _, rfl, rfl, _, _, _, rfl, by omega, big _ (by omega), fun a Ga sa na ea => ⟨_, rfl, _, rfl, _, _, rfl, rfl, (cw (by omega) (by omega)), _, _, rfl, rfl, _, rfl, _, rfl, _, _, rfl, rfl, (cw (by omega) (by omega)), _, _, rfl, rfl, _, _, _, rfl, by omega, big _ (by omega), fun b Gb sb nb eb => ⟨two_line, fun u5 Gu su nu eu => ⟨F4, _, _, rfl, rfl, su _ _ (sb _ _ (sa _ _ W4.at_)), lenF (us := [u1]) (by show 1 ≤ 10; decide), ?_⟩⟩⟩⟩
    have W5 := (W4.same (sa.trans (sb.trans su))).put eu (su _ _ (sb _ _ ea)) (su _ _ eb) (place_ok (by omega) (by omega) (by omega) (by omega)) (place_ok (by omega) (by omega) (by omega) (by omega))
    generalize upd Gu F4 (.lst (([u1]).map V.ref ++ [.ref u5])) = G5 at W5
    show tSeq _ _ _ [some (.ref s), some (.ref p), some (.ref t1), some (.ref t2), some (.int (x2 - x1)), some (.int (y2 - y1)), some (.ref F4), some (.int (x1 + x2)), some (.int (y1 + y2)), none, none, none, none, none, none] _
    refine ⟨_, rfl, _, _, rfl, rfl, ⟨by decide, by decide, by decide⟩, line3 _ _ _, fun l1 G6 s6 n6 e6 => ?_⟩
    have W6 := W5.same s6
    refine ⟨s, l1, _, rfl, W6.st.src, e6, W5.st.src.nen n6, by show 0 < 3; decide, by show 3 ≤ 1000; decide, fun x G7 mx st7 => ?_⟩
    obtain ⟨nr, rfl, r0, r1⟩ : ∃ g : Int, x = .int g ∧ 0 < g ∧ g ≤ 10 ^ 6 := by
      rcases List.mem_cons.mp mx with e | mx
      · exact ⟨7, e, by decide, by decide⟩
      rcases List.mem_cons.mp mx with e | mx
      · exact ⟨50, e, by decide, by decide⟩
      rcases List.mem_cons.mp mx with e | mx
      · exact ⟨_, e, by decide, by decide⟩
      · cases mx
    have W7 := W6.stp st7
    refine ⟨4, rfl, by decide, by decide, fun D nD => lc_range (lo := 0) (n := 4) (fun i Hc => ∃ acc : List Int, Stp s G7 Hc ∧ Hc D = some (.lst (acc.map V.int)) ∧ acc.length = i ∧ ∀ z ∈ acc, z.natAbs ≤ 10 ^ 6) ⟨[], (Stp.refl W7.st.src).new nD, upd_same, rfl, fun _ m => (nomatch m)⟩ (fun i Hc hi z => ?_) fun G8 z => ?_⟩
    · obtain ⟨acc, st, eD, ln, bz⟩ := z
      refine ⟨rfl, _, rfl, _, rfl, _, _, rfl, rfl, cw (by omega) (by omega), s, _, rfl, st.src, by omega, big _ (by omega), fun rr Ga r2 r3 sta => ⟨_, rfl, _, _, rfl, rfl, _, sta.keep _ _ (W7.st.src.nen nD) eD, ?_, acc ++ [rr - nr], (st.trans sta).set nD (W7.st.src.nen nD), ?_, ?_, fun z m => ?_⟩⟩
      · rw [List.length_map, ln]
        exact Nat.lt_trans hi (by decide)
      · rw [upd_same, List.map_append]
        rfl
      · rw [List.length_append, ln]
        rfl
      · rcases List.mem_append.mp m with m | m
        · exact bz z m
        · rw [List.mem_singleton.mp m]
          omega
    obtain ⟨acc, st8, eD, ln, bz⟩ := z
    obtain ⟨d0, d1, d2, d3, rfl⟩ : ∃ a b c d, acc = [a, b, c, d] := by
      rcases acc with _ | ⟨a, _ | ⟨b, _ | ⟨c, _ | ⟨d, _ | ⟨e, r⟩⟩⟩⟩⟩ <;> first | (exfalso; simp at ln; done) | exact ⟨_, _, _, _, rfl⟩
    have z0 := bz d0 (by simp)
    have z1 := bz d1 (by simp)
    have z2 := bz d2 (by simp)
    have z3 := bz d3 (by simp)
    have W8 := W7.stp st8
    have eD : G8 D = some (.lst [.int d0, .int d1, .int d2, .int d3]) := eD
    refine ⟨_, rfl, _, _, _, _, rfl, rfl, SqT.of (k1 W8.st), at0_ _ _, _, _, rfl, rfl, (cw (by omega) (by omega)), _, rfl, _, _, _, _, rfl, rfl, SqL.of (eD), a40_ _ _ _ _, _, _, rfl, rfl, _, rfl, _, _, _, _, rfl, rfl, SqT.of (k1 W8.st), at1_ _ _, _, _, rfl, rfl, (cw (by omega) (by omega)), _, rfl, _, _, _, _, rfl, rfl, SqL.of (eD), a41_ _ _ _ _, _, _, rfl, rfl, _, _, _, rfl, by omega, big _ (by omega), fun a3 G9 s9 n9 e9 => ?_⟩
    have W9 := W8.same s9
    refine ⟨_, rfl, .inl ⟨rfl, _, SqL.of W9.at_⟩, _, rfl, _, rfl, _, _, _, _, rfl, rfl, SqT.of (k2 W9.st), at0_ _ _, _, _, rfl, rfl, (cw (by omega) (by omega)), _, rfl, _, _, _, _, rfl, rfl, SqL.of ((s9 _ _ eD)), a42_ _ _ _ _, _, _, rfl, rfl, _, rfl, _, _, _, _, rfl, rfl, SqT.of (k2 W9.st), at1_ _ _, _, _, rfl, rfl, (cw (by omega) (by omega)), _, rfl, _, _, _, _, rfl, rfl, SqL.of ((s9 _ _ eD)), a43_ _ _ _ _, _, _, rfl, rfl, _, _, _, rfl, by omega, big _ (by omega), fun b Gb sb nb eb => ⟨two_line, fun u10 Gu su nu eu => ⟨F4, _, _, rfl, rfl, su _ _ (sb _ _ W9.at_), lenF (us := [u1, u5]) (by show 2 ≤ 10; decide), ?_⟩⟩⟩
    have W10 := (W9.same (sb.trans su)).put eu (su _ _ (sb _ _ e9)) (su _ _ eb) (place_ok (by omega) (by omega) (by omega) (by omega)) (place_ok (by omega) (by omega) (by omega) (by omega))
    generalize upd Gu F4 (.lst (([u1] ++ [u5]).map V.ref ++ [.ref u10])) = G10 at W10
    show tSeq _ _ _ [some (.ref s), some (.ref p), some (.ref t1), some (.ref t2), some (.int (x2 - x1)), some (.int (y2 - y1)), some (.ref F4), some (.int (x1 + x2)), some (.int (y1 + y2)), some (.int nr), some (.ref D), some (.ref a3), none, none, none] _
    refine ⟨_, _, rfl, rfl, ⟨by decide, by decide, by decide⟩, _, rfl, _, _, rfl, rfl, ⟨by decide, by decide, by decide⟩, s, _, rfl, W10.st.src, by decide, big _ (by decide), fun rr G11 r2 r3 st11 => ⟨_, _, rfl, rfl, ?_⟩⟩
    have W11 := W10.stp st11
    have hg0 : ((10 : Int) ^ (22 : Int).toNat) = 10000000000000000000000 := by decide
    have hg9 : ((10 : Int) ^ (9 : Int).toNat) = 1000000000 := by decide
    rw [hg9] at r3
    obtain ⟨gr, egr⟩ : ∃ gr : Int, (10 : Int) ^ (22 : Int).toNat + rr = gr := ⟨_, rfl⟩
    have gr1 : 10000000000000000000000 ≤ gr := by rw [← egr, hg0]; omega
    have gr2 : gr < 10000000000001000000000 := by rw [← egr, hg0]; omega
    show gName 12 (V.int ((10 : Int) ^ (22 : Int).toNat + rr)) _ _ _
    rw [egr]
    have gb : ∀ z : Int, z.natAbs ≤ 10 ^ 7 → (z * gr).natAbs < 10 ^ 30 - 1 := fun z hz => by
      rw [Int.natAbs_mul]
      exact Nat.lt_of_le_of_lt (Nat.mul_le_mul hz (show gr.natAbs ≤ 10000000000001000000000 by omega)) (by decide)
    have g1 := gb (x1 + x2 - 4 * (y2 - y1)) (by omega)
    have g2 := gb (y1 + y2 + 4 * (x2 - x1)) (by omega)
    have g3' := gb (x1 + x2 + 4 * (y2 - y1)) (by omega)
    have g4 := gb (y1 + y2 - 4 * (x2 - x1)) (by omega)
    have h1 : (((x1, y1).1 + (x2, y2).1 - 4 * ((x2, y2).2 - (x1, y1).2)) * gr + 1).natAbs < 10 ^ 30 := by
      show ((x1 + x2 - 4 * (y2 - y1)) * gr + 1).natAbs < 10 ^ 30
      omega
    have h2 : (((x1, y1).2 + (x2, y2).2 + 4 * ((x2, y2).1 - (x1, y1).1)) * gr).natAbs < 10 ^ 30 := by
      show ((y1 + y2 + 4 * (x2 - x1)) * gr).natAbs < 10 ^ 30
      omega
    have h3 : (((x1, y1).1 + (x2, y2).1 + 4 * ((x2, y2).2 - (x1, y1).2)) * gr).natAbs < 10 ^ 30 := by
      show ((x1 + x2 + 4 * (y2 - y1)) * gr).natAbs < 10 ^ 30
      omega
    have h4 : (((x1, y1).2 + (x2, y2).2 - 4 * ((x2, y2).1 - (x1, y1).1)) * gr + 1).natAbs < 10 ^ 30 := by
      show ((y1 + y2 - 4 * (x2 - x1)) * gr + 1).natAbs < 10 ^ 30
      omega
    refine ⟨_, rfl, _, _, _, _, rfl, rfl, SqT.of (k1 W11.st), at0_ _ _, _, rfl, _, _, _, _, rfl, rfl, SqT.of (k2 W11.st), at0_ _ _, _, _, rfl, rfl, _, rfl, _, _, rfl, rfl, (cw (by omega) (by omega)), _, _, rfl, rfl, _, rfl, _, _, rfl, rfl, (cw (by omega) (by omega)), _, _, rfl, rfl, _, rfl, _, _, _, _, rfl, rfl, SqT.of (k1 W11.st), at1_ _ _, _, rfl, _, _, _, _, rfl, rfl, SqT.of (k2 W11.st), at1_ _ _, _, _, rfl, rfl, _, rfl, _, _, rfl, rfl, (cw (by omega) (by omega)), _, _, rfl, rfl, _, rfl, _, _, rfl, rfl, (cw (by omega) (by omega)), _, rfl, _, _, rfl, rfl, (cw (by omega) (by omega)), _, _, _, rfl, by omega, big _ (by omega), fun a4 G12 s12 n12 e12 => ?_⟩
    have W12 := W11.same s12
    refine ⟨_, rfl, .inl ⟨rfl, _, SqL.of W12.at_⟩, _, rfl, _, rfl, _, _, _, _, rfl, rfl, SqT.of (k1 W12.st), at0_ _ _, _, rfl, _, _, _, _, rfl, rfl, SqT.of (k2 W12.st), at0_ _ _, _, _, rfl, rfl, _, rfl, _, _, rfl, rfl, (cw (by omega) (by omega)), _, _, rfl, rfl, _, rfl, _, _, rfl, rfl, (cw (by omega) (by omega)), _, rfl, _, _, _, _, rfl, rfl, SqT.of (k1 W12.st), at1_ _ _, _, rfl, _, _, _, _, rfl, rfl, SqT.of (k2 W12.st), at1_ _ _, _, _, rfl, rfl, _, rfl, _, _, rfl, rfl, (cw (by omega) (by omega)), _, _, rfl, rfl, _, rfl, _, _, rfl, rfl, (cw (by omega) (by omega)), _, _, rfl, rfl, _, rfl, _, _, rfl, rfl, (cw (by omega) (by omega)), _, _, _, rfl, by omega, big _ (by omega), fun b Gb sb nb eb => ⟨two_line, fun u13 Gu su nu eu => ⟨F4, _, _, rfl, rfl, su _ _ (sb _ _ W12.at_), lenF (us := [u1, u5, u10]) (by show 3 ≤ 10; decide), ?_⟩⟩⟩
    have W13 := (W12.same (sb.trans su)).put eu (su _ _ (sb _ _ e12)) (su _ _ eb) (place_ok (by omega) h1 h2 (by omega)) (place_ok (by omega) h3 h4 (by omega))
    generalize upd Gu F4 (.lst (([u1] ++ [u5] ++ [u10]).map V.ref ++ [.ref u13])) = G13 at W13
    rw [show ((([some (.ref s), some (.ref p), some (.ref t1), some (.ref t2), some (.int (x2 - x1)), some (.int (y2 - y1)), some (.ref F4), some (.int (x1 + x2)), some (.int (y1 + y2)), some (.int nr), some (.ref D), some (.ref a3), none, none, none] : L2.St).set 12 (some (V.int gr))).set 11 (some (V.ref a4))) = [some (.ref s), some (.ref p), some (.ref t1), some (.ref t2), some (.int (x2 - x1)), some (.int (y2 - y1)), some (.ref F4), some (.int (x1 + x2)), some (.int (y1 + y2)), some (.int nr), some (.ref D), some (.ref a4), some (.int gr), none, none] from rfl]
    refine ⟨_, rfl, F4, rfl, ⟨_, SqL.of W13.at_⟩, fun D2 nD2 => lc_list (K := K) (a := F4) (xs := ([u1] ++ [u5] ++ [u10] ++ [u13]).map V.ref) (fun j H' => Same G13 H' ∧ ∃ vs : List Addr, H' D2 = some (.lst (vs.map V.ref)) ∧ vs.length ≤ j ∧ ∀ u ∈ vs, ∃ (a b : Addr) (w : Way), G13 u = some (.tup [.ref a, .ref b]) ∧ Pla G13 a w.ax w.ay w.ad ∧ Pla G13 b w.bx w.by' w.bd ∧ WayOk w ∧ ¬ (w.ax = w.bx ∧ w.ay = w.by' ∧ w.ad = w.bd)) ⟨Same.upd nD2, [], upd_same, Nat.le_refl _, fun _ m => (nomatch m)⟩ (fun j H' _ z => SqL.of (z.1 _ _ W13.at_)) (fun j x Ha ex z => ?_) fun Ha z => ?_⟩
    · obtain ⟨sm, vs, eV, lv, ov⟩ := z
      obtain ⟨u, eu, rfl⟩ : ∃ t, ([u1] ++ [u5] ++ [u10] ++ [u13])[j]? = some t ∧ x = V.ref t := by
        rw [List.getElem?_map] at ex
        obtain ⟨t, et, e⟩ := Option.map_eq_some_iff.mp ex
        exact ⟨t, et, e.symm⟩
      have jl : j < 4 := (List.getElem?_eq_some_iff.mp eu).1
      obtain ⟨a, b, w, c1, c2, c3, c4⟩ := W13.ok u (List.mem_of_getElem? eu)
      refine ⟨rfl, _, rfl, _, _, _, _, rfl, rfl, SqT.of (sm _ _ c1), at0_ _ _, _, rfl, _, _, _, _, rfl, rfl, SqT.of (sm _ _ c1), at1_ _ _, _, _, dpPla (sm _ _ c2), dpPla (sm _ _ c3), rfl, rfl, _, rfl, ?_⟩
      rw [eqv_pla]
      by_cases c : w.ax = w.bx ∧ w.ay = w.by' ∧ w.ad = w.bd
      · rw [decide_eq_true c]
        show if (!true) = true then _ else _
        rw [if_neg (by decide)]
        exact ⟨sm, vs, eV, Nat.le_succ_of_le lv, ov⟩
      · rw [decide_eq_false c]
        show if (!false) = true then _ else _
        rw [if_pos (by decide)]
        refine ⟨_, rfl, _, eV, ?_, Same.put sm nD2, vs ++ [u], ?_, ?_, fun v m => ?_⟩
        · rw [List.length_map]
          exact Nat.lt_of_le_of_lt (show vs.length ≤ 4 by omega) (by decide)
        · rw [upd_same, List.map_append]
          rfl
        · rw [List.length_append]
          exact Nat.succ_le_succ lv
        · rcases List.mem_append.mp m with m | m
          · exact ov v m
          · rw [List.mem_singleton.mp m]
            exact ⟨a, b, w, c1, c2, c3, c4, c⟩
    · obtain ⟨sm, vs, eV, lv, ov⟩ := z
      have lv : vs.length ≤ 4 := lv
      exact q D2 vs Ha (W13.st.same sm) (W13.st.free nD2) eV (by omega) fun u m => by
        obtain ⟨a, b, w, c1, c2, c3, c4, c5⟩ := ov u m
        exact ⟨a, b, w, sm _ _ c1, sm _ _ c2, sm _ _ c3, c4, c5⟩
end
section
variable {P : Program} {w : World} {K : PySem.W.Frag} {mg : Str → Option Value} {base : Heap}
abbrev sLaw : Stmt := topS 34
abbrev nLaw : List Str := ["_law_script", "_law_number_here", "_law_source", "_law_lap", "_law_sites_here", "_law_aa", "_law_bb", "_law_due_here", "_law_heard"]
theorem scLaw : FnScope nLaw ["_law_script"] (defScope sLaw) := ⟨rfl, rfl, rfl, by decide +kernel, rfl, by decide +kernel, by decide +kernel⟩
theorem no_dif {d : PyData} {A B : Prop} (h : SeqAt.shaped d = true) (b : B) : if (!PyData.eqv d d) = true then A else B := by
  rw [PySem.SeqAt.eqv_refl d (SeqAt.canLay_of_shaped h)]
  exact b
theorem nod_on {f : Addr → Int × Int} {ts L : List Addr} (nod : (ts.map f).Nodup) (h : L.Nodup) (sub : ∀ t ∈ L, t ∈ ts) : (L.map f).Nodup := by
  refine List.pairwise_map.mpr ?_
  exact List.Pairwise.imp_of_mem (fun ha hb ne e => ne (f_inj nod (sub _ ha) (sub _ hb) e)) h
theorem near_perm {g : Addr → Int × Int} {v : Way} {rs ts : List Addr} (pm : rs.Perm ts) (m : Rat) : (v.near g rs m).Perm (v.near g ts m) := by
  unfold Way.near
  have e : (fun t => decide (∀ r ∈ rs, lv (v.ln (g t)) m ≤ lv (v.ln (g r)) m)) = fun t => decide (∀ r ∈ ts, lv (v.ln (g t)) m ≤ lv (v.ln (g r)) m) := funext fun t => decide_eq_decide.mpr ⟨fun h r hr => h r (pm.mem_iff.mpr hr), fun h r hr => h r (pm.mem_iff.mp hr)⟩
  rw [e]
  exact pm.filter _
/-- what is told along the way of the last call -/
theorem ex_due {t1 t2 t3 : Addr} {g : Addr → Int × Int} {rs L : List Addr} (g1 : g t1 = (0, 0)) (g2 : g t2 = (4, 0)) (g3 : g t3 = (1, 3)) (n12 : t1 ≠ t2) (pm : rs.Perm [t1, t2, t3]) (on : OnWay g ⟨0, 0, 1, 4, 0, 1⟩ rs L) : [t1, t2] = L := by
  have l1 : Way.ln ⟨0, 0, 1, 4, 0, 1⟩ (g t1) = (0, 0) := by rw [g1]; decide
  have l2 : Way.ln ⟨0, 0, 1, 4, 0, 1⟩ (g t2) = (16, -32) := by rw [g2]; decide
  have l3 : Way.ln ⟨0, 0, 1, 4, 0, 1⟩ (g t3) = (10, -8) := by rw [g3]; decide
  have v1 : ∀ m : Rat, lv (0, 0) m = 0 := fun m => by unfold lv; push_cast; grind
  have v2 : ∀ m : Rat, lv (16, -32) m = 16 - 32 * m := fun m => by unfold lv; push_cast; grind
  have v3 : ∀ m : Rat, lv (10, -8) m = 10 - 8 * m := fun m => by unfold lv; push_cast; grind
  have all : ∀ r, r ∈ rs → r = t1 ∨ r = t2 ∨ r = t3 := fun r hr => by
    have := pm.mem_iff.mp hr
    simpa using this
  have stops : Stops g ⟨0, 0, 1, 4, 0, 1⟩ rs [1 / 4, 1 / 2, 1] := by
    refine ⟨?_, rfl, fun s hs r hr u h0 h1 ne e => ?_⟩
    · refine List.pairwise_cons.mpr ⟨fun x hx => ?_, List.pairwise_cons.mpr ⟨fun x hx => ?_, List.pairwise_cons.mpr ⟨fun x hx => ?_, List.pairwise_singleton _ _⟩⟩⟩ <;> simp only [List.mem_cons, List.not_mem_nil, or_false] at hx
      · rcases hx with rfl | rfl | rfl <;> decide +kernel
      · rcases hx with rfl | rfl <;> decide +kernel
      · subst hx
        decide +kernel
    · rw [List.mem_cons, List.mem_cons, List.mem_singleton]
      rcases all s hs with rfl | rfl | rfl <;> rcases all r hr with rfl | rfl | rfl <;> first | exact absurd rfl ne | (simp only [l1, l2, l3, v1, v2, v3] at e; grind)
  have near1 : ∀ m : Rat, m < 1 / 2 → Way.near g ⟨0, 0, 1, 4, 0, 1⟩ rs m = [t1] := fun m hm => by
    refine List.perm_singleton.mp ((near_perm pm m).trans ?_)
    have e : Way.near g ⟨0, 0, 1, 4, 0, 1⟩ [t1, t2, t3] m = [t1] := by
      unfold Way.near
      have p1 : decide (∀ r ∈ [t1, t2, t3], lv (Way.ln ⟨0, 0, 1, 4, 0, 1⟩ (g t1)) m ≤ lv (Way.ln ⟨0, 0, 1, 4, 0, 1⟩ (g r)) m) = true := decide_eq_true fun r hr => by
        simp only [List.mem_cons, List.not_mem_nil, or_false] at hr
        rcases hr with rfl | rfl | rfl <;> simp only [l1, l2, l3, v1, v2, v3] <;> grind
      have p2 : decide (∀ r ∈ [t1, t2, t3], lv (Way.ln ⟨0, 0, 1, 4, 0, 1⟩ (g t2)) m ≤ lv (Way.ln ⟨0, 0, 1, 4, 0, 1⟩ (g r)) m) = false := decide_eq_false fun h => by
        have := h t1 List.mem_cons_self
        rw [l1, l2, v1, v2] at this
        grind
      have p3 : decide (∀ r ∈ [t1, t2, t3], lv (Way.ln ⟨0, 0, 1, 4, 0, 1⟩ (g t3)) m ≤ lv (Way.ln ⟨0, 0, 1, 4, 0, 1⟩ (g r)) m) = false := decide_eq_false fun h => by
        have := h t1 List.mem_cons_self
        rw [l1, l3, v1, v3] at this
        grind
      rw [List.filter_cons, p1, List.filter_cons, p2, List.filter_cons, p3]
      rfl
    rw [e]
  have near2 : ∀ m : Rat, 1 / 2 < m → Way.near g ⟨0, 0, 1, 4, 0, 1⟩ rs m = [t2] := fun m hm => by
    refine List.perm_singleton.mp ((near_perm pm m).trans ?_)
    have e : Way.near g ⟨0, 0, 1, 4, 0, 1⟩ [t1, t2, t3] m = [t2] := by
      unfold Way.near
      have p2 : decide (∀ r ∈ [t1, t2, t3], lv (Way.ln ⟨0, 0, 1, 4, 0, 1⟩ (g t2)) m ≤ lv (Way.ln ⟨0, 0, 1, 4, 0, 1⟩ (g r)) m) = true := decide_eq_true fun r hr => by
        simp only [List.mem_cons, List.not_mem_nil, or_false] at hr
        rcases hr with rfl | rfl | rfl <;> simp only [l1, l2, l3, v1, v2, v3] <;> grind
      have p1 : decide (∀ r ∈ [t1, t2, t3], lv (Way.ln ⟨0, 0, 1, 4, 0, 1⟩ (g t1)) m ≤ lv (Way.ln ⟨0, 0, 1, 4, 0, 1⟩ (g r)) m) = false := decide_eq_false fun h => by
        have := h t2 (List.mem_cons_of_mem _ List.mem_cons_self)
        rw [l1, l2, v1, v2] at this
        grind
      have p3 : decide (∀ r ∈ [t1, t2, t3], lv (Way.ln ⟨0, 0, 1, 4, 0, 1⟩ (g t3)) m ≤ lv (Way.ln ⟨0, 0, 1, 4, 0, 1⟩ (g r)) m) = false := decide_eq_false fun h => by
        have := h t2 (List.mem_cons_of_mem _ List.mem_cons_self)
        rw [l2, l3, v2, v3] at this
        grind
      rw [List.filter_cons, p1, List.filter_cons, p2, List.filter_cons, p3]
      rfl
    rw [e]
  have du := due_is on stops
  simp only [walkF] at du
  rw [near1 _ (by decide +kernel), near1 _ (by decide +kernel), near2 _ (by decide +kernel)] at du
  rw [← du]
  simp [n12.symm]
theorem cut_ints (ns : List Int) (lo hi : Option Int) : ∃ ms : List Int, cutV (ns.map V.int) lo hi = ms.map V.int ∧ ms.length ≤ ns.length := by
  refine ⟨(ns.drop (HT.sIx (ns.map V.int).length 0 lo)).take (HT.sIx (ns.map V.int).length (ns.map V.int).length hi - HT.sIx (ns.map V.int).length 0 lo), ?_, ?_⟩
  · unfold cutV
    rw [List.map_take, List.map_drop]
  · rw [List.length_take, List.length_drop]
    omega
def spLaw (K : PySem.W.Frag) : Sp := fun vs H Q _ => ∃ (a : Addr) (ns : List Int), vs = [.ref a] ∧ SqL K H a (ns.map V.int) ∧ ns.length ≤ 63 ∧ ∀ H', Q (.bl true) H'
set_option pp.maxSteps 300 in
theorem ok_law {f fC fSr fSi fWy fDu fAl : Addr} {fd fdC fdSr fdSi fdWy fdDu fdAl : FuncData} (F : Fun K "law" "law" sLaw f fd)
    (GC : FnOk P w K mg base CX0 (1) fC fdC ["_law_script", "_law_index"] (spCell K)) (gC : mg "_law_cell_at" = some (.ref fC)) (kC : PySem.W.keepIn K (.ref fC) = true) (bC : Binds K fdC ["_law_script", "_law_index"] []) (GSr : FnOk P w K mg base CX0 (1) fSr fdSr ["_law_number_here"] spSrc) (gSr : mg "_law_source_of" = some (.ref fSr)) (kSr : PySem.W.keepIn K (.ref fSr) = true) (bSr : Binds K fdSr ["_law_number_here"] []) (GSi : FnOk P w K mg base CX0 (3) fSi fdSi ["_law_source", "_law_most"] spSitesN) (gSi : mg "_law_sites" = some (.ref fSi)) (kSi : PySem.W.keepIn K (.ref fSi) = true) (bSi : Binds K fdSi ["_law_source", "_law_most"] []) (GWy : FnOk P w K mg base CX0 (8) fWy fdWy ["_law_source", "_law_sites_here"] spWays) (gWy : mg "_law_ways" = some (.ref fWy)) (kWy : PySem.W.keepIn K (.ref fWy) = true) (bWy : Binds K fdWy ["_law_source", "_law_sites_here"] []) (GDu : FnOk P w K mg base CX0 (8) fDu fdDu ["_law_sites_here", "_law_aa", "_law_bb"] spDue) (gDu : mg "_law_due" = some (.ref fDu)) (kDu : PySem.W.keepIn K (.ref fDu) = true) (bDu : Binds K fdDu ["_law_sites_here", "_law_aa", "_law_bb"] []) (GAl : FnOk P w K mg base CX0 (8) fAl fdAl ["sites", "a", "b"] spAlong) (gAl : mg "along" = some (.ref fAl)) (kAl : PySem.W.keepIn K (.ref fAl) = true) (bAl : Binds K fdAl ["sites", "a", "b"] []) (kbAl : KBinds K fdAl ["sites", "a", "b"] ["b", "a", "sites"] gRev gRev)
    (mrange : mg "range" = none) (msorted : mg "sorted" = none) (mlen : mg "len" = none) (mset : mg "set" = none) : FnOk P w K mg base CX0 9 f fd ["_law_script"] (spLaw K) := by
  refine F.ok scLaw (fun vs H Q E h => ?_) (fun cdv A outer s0 H vs Q E hr h => ?_)
  · obtain ⟨a, ns, rfl, _⟩ := h
    rfl
  · obtain ⟨a, ns, rfl, hS, hlen, q⟩ := h
    have nd := scLaw.nd
    have hu5 := hr.units
    refine ⟨_, (pss_cons (ps_for PassesOwn.never rfl (pi_list (pe_op op_catG (pe_lstG (pa_cons (pe_call GC (hr.mono (by decide)) (by rfl) gC kC bC .nil pass0 (pa_cons (pv 0) (pa_cons pe_int pa_nil))) pa_nil)) (pe_slice sl_listG (pv 0) (po_some pe_int) (po_some pe_int)))) (pg_name (i := 1) nd rfl (.inl rfl)) (pss_cons (ps_set (i := 2) nd rfl (.inl rfl) (pe_call GSr (hr.mono (by decide)) (by rfl) gSr kSr bSr .nil pass0 (pa_cons (pv 1) pa_nil))) (pss_one (ps_for PassesOwn.never rfl (pi_range1 (by rfl) mrange (pa_cons pe_int pa_nil)) (pg_name (i := 3) nd rfl (.inl rfl)) (pss_cons (ps_set (i := 4) nd rfl (.inl rfl) (pe_call GSi (hr.mono (by decide)) (by rfl) gSi kSi bSi .nil pass0 (pa_cons (pv 2) (pa_cons pe_int pa_nil)))) (pss_one (ps_for PassesOwn.never rfl (pi_list (pe_call GWy (hr.mono (by decide)) (by rfl) gWy kWy bWy .nil pass0 (pa_cons (pv 2) (pa_cons (pv 4) pa_nil)))) (pg_tup (by rfl) (pgs_cons (pg_name (i := 5) nd rfl (.inl rfl)) (pgs_cons (pg_name (i := 6) nd rfl (.inl rfl)) pgs_nil))) (pss_cons (ps_set (i := 7) nd rfl (.inl rfl) (pe_call GDu (hr.mono (by decide)) (by rfl) gDu kDu bDu .nil pass0 (pa_cons (pv 4) (pa_cons (pv 5) (pa_cons (pv 6) pa_nil))))) (pss_cons (ps_set (i := 8) nd rfl (.inl rfl) (pe_call GAl (hr.mono (by decide)) (by rfl) gAl kAl bAl .nil pass0 (pa_cons (pv 4) (pa_cons (pv 5) (pa_cons (pv 6) pa_nil))))) (pss_cons (ps_if (pt_cmpR (op_neD hu5) (pv 8) (pv 7) (nomark _)) (pss_one (ps_ret pe_bl)) pss_nil) (pss_cons (ps_if (pt_cmpR (op_neD hu5) (pe_callKw GAl (hr.mono (by decide)) (by rfl) gAl kAl kbAl pass0 (pk_cons (pv 6) (pk_cons (pv 5) (pk_cons (pe_revL (pv 4)) pk_nil)))) (pv 7) (nomark _)) (pss_one (ps_ret pe_bl)) pss_nil) (pss_cons (ps_if (pt_cmpR (op_neD hu5) (pe_callB cr_sortS (by rfl) msorted (by decide +kernel) (pa_cons (pe_call GAl (hr.mono (by decide)) (by rfl) gAl kAl bAl .nil pass0 (pa_cons (pv 4) (pa_cons (pv 6) (pa_cons (pv 5) pa_nil)))) pa_nil)) (pe_callB cr_sortS (by rfl) msorted (by decide +kernel) (pa_cons (pv 7) pa_nil)) (nomark _)) (pss_one (ps_ret pe_bl)) pss_nil) (pss_one (ps_if (pt_cmpR op_ne (pe_callB call_len_setN (by rfl) mlen (by decide +kernel) (pa_cons (pe_callTy (cr_setOfT rfl hu5) (by rfl) mset (by decide +kernel) (pa_cons (pv 7) pa_nil)) pa_nil)) (pe_callB call_len_seq (by rfl) mlen (by decide +kernel) (pa_cons (pv 7) pa_nil)) (nomark _)) (pss_one (ps_ret pe_bl)) pss_nil)))))))))))))) (pss_one (ps_ret (pe_cmpR (op_eqD hu5) (pe_call GAl (hr.mono (by decide)) (by rfl) gAl kAl bAl .nil pass0 (pa_cons (pe_lstG (pa_cons (pe_tupG (pa_cons pe_int (pa_cons pe_int pa_nil))) (pa_cons (pe_tupG (pa_cons pe_int (pa_cons pe_int pa_nil))) (pa_cons (pe_tupG (pa_cons pe_int (pa_cons pe_int pa_nil))) pa_nil)))) (pa_cons (pe_tupG (pa_cons pe_int (pa_cons pe_int (pa_cons pe_int pa_nil)))) (pa_cons (pe_tupG (pa_cons pe_int (pa_cons pe_int (pa_cons pe_int pa_nil)))) pa_nil)))) (pe_lstG (pa_cons (pe_tupG (pa_cons pe_int (pa_cons pe_int pa_nil))) (pa_cons (pe_tupG (pa_cons pe_int (pa_cons pe_int pa_nil))) pa_nil))) (nomark _))))), ?_⟩
    have line3 : ∀ a b c : V, ([a, b, c] : List V).length ≤ sizeLine := fun _ _ _ => by show 3 ≤ sizeLine; decide
    -- the numbers
    refine ⟨_, rfl, a, ns, rfl, hS, by omega, fun n0 H1 sm1 => ⟨two_one, fun L1 H2 s2 nL1 eL1 => ?_⟩⟩
    obtain ⟨ms, em, lm⟩ := cut_ints ns (some 1) (some 4)
    refine ⟨_, rfl, _, rfl, _, rfl, a, ns.map V.int, rfl, (sm1.trans s2).seq hS, fun L2 H3 s3 n3 e3 => ?_⟩
    refine ⟨L1, L2, _, _, rfl, rfl, s3 _ _ eL1, e3, ?_, fun L H4 s4 n4 e4 => ?_⟩
    · rw [em, List.length_map]
      exact Nat.le_trans (show _ ≤ 100 by show 1 + ms.length ≤ 100; omega) (by decide)
    have eL : H4 L = some (.lst ((n0 :: ms).map V.int)) := by
      rw [e4, em]
      rfl
    refine ⟨L, rfl, ⟨_, SqL.of eL⟩, for_list (K := K) (a := L) (xs := (n0 :: ms).map V.int) (fun i σ' H' => (∃ y1 y2 y3 y4 y5 y6 y7 y8, σ' = [some (.ref a), y1, y2, y3, y4, y5, y6, y7, y8]) ∧ H' L = some (.lst ((n0 :: ms).map V.int)))
      ⟨⟨_, _, _, _, _, _, _, _, rfl⟩, eL⟩ (fun i σ' H' _ z => SqL.of z.2) ?_ ?_⟩
    · rintro i x σ' H' ex ⟨⟨y1, y2, y3, y4, y5, y6, y7, y8, rfl⟩, hL⟩
      obtain ⟨n, rfl⟩ : ∃ n, x = V.int n := by
        obtain ⟨n, _, e⟩ := List.mem_map.mp (List.mem_of_getElem? ex)
        exact ⟨n, e.symm⟩
      refine ⟨_, rfl, n, rfl, fun s p1 p2 p3 ns' => ?_⟩
      have hs : Src (upd H' s (.lst [.int p1, .int p2, .int p3])) s := ⟨p1, p2, p3, upd_same⟩
      have hLs : L ≠ s := ne_of_none hL ns'
      have hL1 : (upd H' s (.lst [.int p1, .int p2, .int p3])) L = some (.lst ((n0 :: ms).map V.int)) := by rw [upd_ne hLs]; exact hL
      generalize upd H' s (.lst [.int p1, .int p2, .int p3]) = G1 at hs hL1
      let J : Hp → Prop := fun H' => Src H' s ∧ H' L = some (.lst ((n0 :: ms).map V.int))
      have Js : ∀ {H1 H2 : Hp}, J H1 → Stp s H1 H2 → J H2 := fun j st => ⟨st.src, st.keep _ _ hLs j.2⟩
      have Jm : ∀ {H1 H2 : Hp}, J H1 → Same H1 H2 → J H2 := fun j sm => Js j ((Stp.refl j.1).same sm)
      refine ⟨6, rfl, by decide, by decide, for_range (lo := 0) (n := 6) (fun i σ' H' => (∃ y3 y4 y5 y6 y7 y8, σ' = [some (.ref a), some (.int n), some (.ref s), y3, y4, y5, y6, y7, y8]) ∧ J H') ⟨⟨_, _, _, _, _, _, rfl⟩, hs, hL1⟩ ?_ (fun _ _ z => ?_)⟩
      · rintro i σ' H' hi ⟨⟨y3, y4, y5, y6, y7, y8, rfl⟩, j⟩
        refine ⟨_, rfl, s, 12, rfl, j.1, by decide, by decide, fun p ts g H1 st1 np ep l0 l12 sf nod => ?_⟩
        have ps : p ≠ s := j.1.nen np
        have j1 := Js j st1
        have l64 : ts.length < 64 := by omega
        refine ⟨_, rfl, _, rfl, s, p, ts, g, rfl, j1.1, ps, ep, sf, l0, l64, fun W us H2 st2 nW eW lus ok => ⟨W, rfl, ⟨_, SqL.of eW⟩, ?_⟩⟩
        have j2 := Js j1 st2
        have ep2 := st2.keep _ _ ps ep
        have sf2 : SitF g H2 ts := fun t m => ⟨(sf t m).1.stp j1.1 st2, (sf t m).2⟩
        refine for_list (K := K) (a := W) (xs := us.map V.ref) (fun i' σ' H' => (∃ y5 y6 y7 y8, σ' = [some (.ref a), some (.int n), some (.ref s), some (.int (0 + (i : Nat))), some (.ref p), y5, y6, y7, y8]) ∧ Same H2 H') ⟨⟨_, _, _, _, rfl⟩, Same.refl _⟩ (fun _ _ H' _ z => SqL.of (z.2 _ _ eW)) (fun i' x σ' H' ex z => ?_) fun σ' H' z => ?_
        · obtain ⟨⟨y5, y6, y7, y8, rfl⟩, sm⟩ := z
          obtain ⟨u, eu, rfl⟩ : ∃ t, us[i']? = some t ∧ x = V.ref t := by
            rw [List.getElem?_map] at ex
            obtain ⟨t, et, e⟩ := Option.map_eq_some_iff.mp ex
            exact ⟨t, et, e.symm⟩
          obtain ⟨pa, pb, v, c1, c2, c3, wk, ne⟩ := ok u (List.mem_of_getElem? eu)
          refine ⟨u, _, rfl, SqT.of (sm _ _ c1), rfl, _, _, rfl, _, _, rfl, rfl, ?_⟩
          refine ⟨_, rfl, _, rfl, _, rfl, p, pa, pb, ts, g, v, rfl, sm _ _ ep2, sf2.same sm, nod, l0, l64, sm _ _ c2, sm _ _ c3, wk, fun d us1 H3 s3 e3 dueq => ?_⟩
          have S3 := sm.trans s3
          refine ⟨_, rfl, _, rfl, _, rfl, p, pa, pb, ts, g, v, rfl, S3 _ _ ep2, l0, l64, sf2.same S3, nod, S3 _ _ c2, S3 _ _ c3, wk, ne, fun hd rs L4 H4 s4 e4 pm so on => ?_⟩
          have eq1 := dueq rs L4 pm so on
          subst eq1
          have S4 := S3.trans s4
          have sub : ∀ t ∈ us1, t ∈ ts := fun t m => pm.mem_iff.mp ((on_mem on t).mp m).1
          have ndu : us1.Nodup := on_nodup on (pm.nodup_iff.mpr (nodup_f nod))
          have su : ∀ {G}, Same H2 G → SitF g G us1 := fun sm t m => (sf2.same sm) t (sub t m)
          have e3' := s4 _ _ e3
          refine ⟨_, rfl, _, rfl, _, _, .lst (SqL.of e4) (dp_sites (su S4)), .lst (SqL.of e3') (dp_sites (su S4)), sites_shaped g us1, sites_shaped g us1, _, rfl, no_dif (sites_shaped g us1) ?_⟩
          -- by keywords, from the last one on, the sites turned about
          refine ⟨_, rfl, _, rfl, _, rfl, p, _, rfl, SqL.of (S4 _ _ ep2), fun pr npr => ?_⟩
          have s5 := Same.upd (o := .lst (ts.map V.ref).reverse) npr
          have er : (upd H4 pr (.lst (ts.map V.ref).reverse)) pr = some (.lst (ts.reverse.map V.ref)) := by rw [upd_same, List.map_reverse]
          generalize upd H4 pr (.lst (ts.map V.ref).reverse) = H5 at s5 er
          have S5 := S4.trans s5
          have sfr : SitF g H5 ts.reverse := fun t m => (sf2.same S5) t (List.mem_reverse.mp m)
          have nodr : (ts.reverse.map g).Nodup := by
            rw [List.map_reverse]
            exact (List.reverse_perm _).nodup_iff.mpr nod
          refine ⟨pr, pa, pb, ts.reverse, g, v, rfl, er, by rw [List.length_reverse]; exact l0, by rw [List.length_reverse]; exact l64, sfr, nodr, S5 _ _ c2, S5 _ _ c3, wk, ne, fun hd2 rs2 L6 H6 s6 e6 pm2 so2 on2 => ?_⟩
          have eq2 := dueq rs2 L6 (pm2.trans (List.reverse_perm ts)) so2 on2
          subst eq2
          have S6 := S5.trans s6
          refine ⟨_, rfl, _, _, .lst (SqL.of e6) (dp_sites (su S6)), .lst (SqL.of (s6 _ _ (s5 _ _ e3'))) (dp_sites (su S6)), sites_shaped g us1, sites_shaped g us1, _, rfl, no_dif (sites_shaped g us1) ?_⟩
          -- the way back
          refine ⟨_, rfl, _, rfl, _, rfl, p, pb, pa, ts, g, v.rev, rfl, S6 _ _ ep2, l0, l64, sf2.same S6, nod, S6 _ _ c3, S6 _ _ c2, ⟨wk.b, wk.a⟩, fun z => ne ⟨z.1.symm, z.2.1.symm, z.2.2.symm⟩, fun hd3 rs3 L7 H7 s7 e7 pm3 so3 on3 => ?_⟩
          have S7 := S6.trans s7
          have mem7 : ∀ t, t ∈ L7 ↔ t ∈ us1 := on_rev on on3 fun t => by rw [pm3.mem_iff, pm.mem_iff]
          have su7 : ∀ {G}, Same H2 G → SitF g G L7 := fun sm t m => (sf2.same sm) t (sub t ((mem7 t).mp m))
          have nd7 : L7.Nodup := on_nodup on3 (pm3.nodup_iff.mpr (nodup_f nod))
          refine ⟨hd3, L7, g, rfl, SqL.of e7, fun t m => (su7 S7 t m).1, fun r7 q7 H8 p7 o7 s8 n8 e8 => ?_⟩
          have S8 := S7.trans s8
          have e3'' := s8 _ _ (s7 _ _ (s6 _ _ (s5 _ _ e3')))
          refine ⟨_, rfl, d, us1, g, rfl, SqL.of e3'', fun t m => (su S8 t m).1, fun r9 q9 H9 p9 o9 s9 n9 e9 => ?_⟩
          have S9 := S8.trans s9
          have same79 : r7 = r9 := srt_uniq sLt_irr sLt_tr (sLt_of o7 ((p7.map g).nodup_iff.mpr (nod_on nod nd7 fun t m => sub t ((mem7 t).mp m)))) (sLt_of o9 ((p9.map g).nodup_iff.mpr (nod_on nod ndu sub))) fun t => by rw [p7.mem_iff, p9.mem_iff, mem7]
          subst same79
          have su9 : SitF g H9 r7 := fun t m => su S9 t (p9.mem_iff.mp m)
          refine ⟨_, _, .lst (SqL.of (s9 _ _ e8)) (dp_sites su9), .lst (SqL.of e9) (dp_sites su9), sites_shaped g r7, sites_shaped g r7, _, rfl, no_dif (sites_shaped g r7) ?_⟩
          -- no site twice
          have e10 := s9 _ _ e3''
          have kl : us1.length < 64 := Nat.lt_of_le_of_lt (len_le_of_sub ndu sub) l64
          refine ⟨_, rfl, d, us1.map fun t => (t, [(g t).1, (g t).2]), rfl, ?_, ?_, ?_, fun S R nS h1 h2 => ?_⟩
          · rw [List.map_map]
            exact SqL.of e10
          · intro x m
            obtain ⟨t, mt, rfl⟩ := List.mem_map.mp m
            exact SqT.of (su S9 t mt).1
          · rw [List.length_map]
            exact kl
          · have vals : ∀ x, x ∈ R.map (·.2) ↔ x ∈ us1.map fun t => [(g t).1, (g t).2] := fun x => by
              constructor
              · intro m
                obtain ⟨r, mr, rfl⟩ := List.mem_map.mp m
                obtain ⟨t, mt, rfl⟩ := List.mem_map.mp (h1 r mr)
                exact List.mem_map.mpr ⟨t, mt, rfl⟩
              · intro m
                obtain ⟨t, mt, rfl⟩ := List.mem_map.mp m
                exact h2 _ (List.mem_map.mpr ⟨t, mt, rfl⟩)
            have nv : (us1.map fun t => [(g t).1, (g t).2]).Nodup := by
              refine List.pairwise_map.mpr (List.Pairwise.imp_of_mem (fun {x y} hx hy ne e => ne (f_inj nod (sub x hx) (sub y hy) ?_)) ndu)
              exact Prod.ext (List.cons.inj e).1 (List.cons.inj (List.cons.inj e).2).1
            refine ⟨S, R, rfl, upd_same, fun nR => ?_⟩
            have lens : R.length = us1.length := by
              have a1 := len_le_of_sub nR fun x m => (vals x).mp m
              have a2 := len_le_of_sub nv fun x m => (vals x).mpr m
              rw [List.length_map, List.length_map] at a1 a2
              omega
            have e11 := Same.upd (o := SetTO P w S R) nS _ _ e10
            refine ⟨_, rfl, d, _, rfl, .inl (SqL.of e11), rfl, _, rfl, ?_⟩
            have ee : (!decide (V.int (R.length : Nat) = V.int ((us1.map V.ref).length : Nat))) = false := by
              rw [List.length_map, lens, decide_eq_true rfl]
              rfl
            show if (!decide (V.int (R.length : Nat) = V.int ((us1.map V.ref).length : Nat))) = true then _ else _
            rw [ee, if_neg (by decide)]
            exact ⟨⟨_, _, _, _, rfl⟩, S9.trans (Same.upd nS)⟩
        · obtain ⟨⟨y5, y6, y7, y8, rfl⟩, sm⟩ := z
          exact ⟨⟨_, _, _, _, _, _, rfl⟩, Jm j2 sm⟩
      · obtain ⟨⟨y3, y4, y5, y6, y7, y8, rfl⟩, j⟩ := z
        exact ⟨⟨_, _, _, _, _, _, _, _, rfl⟩, j.2⟩
    · rintro σ' H' _
      refine ⟨two_line, fun t1 H1 s1 n1 e1 => ⟨two_line, fun t2 H2 s2 n2 e2 => ⟨two_line, fun t3 H3 s3 n3 e3 => ⟨line3 _ _ _, fun pl H4 s4 n4 e4 => ⟨line3 _ _ _, fun pa H5 s5 n5 e5 => ⟨line3 _ _ _, fun pb H6 s6 n6 e6 => ?_⟩⟩⟩⟩⟩⟩
      have n12 : t1 ≠ t2 := ne_of_none e1 n2
      have n13 : t1 ≠ t3 := ne_of_none (s2 _ _ e1) n3
      have n23 : t2 ≠ t3 := ne_of_none e2 n3
      let g : Addr → Int × Int := fun t => if t = t1 then (0, 0) else if t = t2 then (4, 0) else (1, 3)
      have g1 : g t1 = (0, 0) := if_pos rfl
      have g2 : g t2 = (4, 0) := by show (if t2 = t1 then _ else _) = _; rw [if_neg n12.symm, if_pos rfl]
      have g3 : g t3 = (1, 3) := by show (if t3 = t1 then _ else _) = _; rw [if_neg n13.symm, if_neg n23.symm]
      have S4 := s4.trans (s5.trans s6)
      have sf : SitF g H6 [t1, t2, t3] := fun t m => by
        rcases List.mem_cons.mp m with rfl | m
        · rw [g1]
          exact ⟨S4 _ _ (s3 _ _ (s2 _ _ e1)), by decide, by decide, by decide, by decide⟩
        rcases List.mem_cons.mp m with rfl | m
        · rw [g2]
          exact ⟨S4 _ _ (s3 _ _ e2), by decide, by decide, by decide, by decide⟩
        · rw [List.mem_singleton.mp m, g3]
          exact ⟨S4 _ _ e3, by decide, by decide, by decide, by decide⟩
      have nod : ([t1, t2, t3].map g).Nodup := by
        rw [List.map_cons, List.map_cons, List.map_cons, List.map_nil, g1, g2, g3]
        decide
      refine ⟨pl, pa, pb, [t1, t2, t3], g, ⟨0, 0, 1, 4, 0, 1⟩, rfl, (s5.trans s6) _ _ e4, by show 0 < 3; decide, by show 3 < 64; decide, sf, nod, s6 _ _ e5, e6, ⟨pl_one ⟨by decide, by decide, by decide, by decide⟩, pl_one ⟨by decide, by decide, by decide, by decide⟩⟩, by decide, fun hd rs L H7 s7 e7 pm so on => ?_⟩
      have eL := ex_due g1 g2 g3 n12 pm on
      subst eL
      refine ⟨two_line, fun q1 H8 s8 n8 e8 => ⟨two_line, fun q2 H9 s9 n9 e9 => ⟨two_line, fun M H10 s10 n10 e10 => ?_⟩⟩⟩
      have S10 := s8.trans (s9.trans s10)
      have sf2 : SitF g H10 [t1, t2] := fun t m => ((sf.same s7).same S10) t (by
        rcases List.mem_cons.mp m with rfl | m
        · exact List.mem_cons_self
        · rw [List.mem_singleton.mp m]
          exact List.mem_cons_of_mem _ List.mem_cons_self)
      have da : [dSite (0, 0), dSite (4, 0)] = [t1, t2].map fun t => dSite (g t) := by
        rw [List.map_cons, List.map_cons, List.map_nil, g1, g2]
      refine ⟨_, .list [dSite (0, 0), dSite (4, 0)], .lst (SqL.of (S10 _ _ e7)) (dp_sites sf2), .lst (SqL.of e10) (.cons (dpSit ((s9.trans s10) _ _ e8)) (.cons (dpSit (s10 _ _ e9)) .nil)), sites_shaped g _, by rw [da]; exact sites_shaped g _, ?_⟩
      rw [da, PySem.SeqAt.eqv_refl _ (SeqAt.canLay_of_shaped (sites_shaped g _))]
      exact q _
end
/-! ### what the top has written; the law's own head -/
theorem all_mk {l : PySem.W.OpenLaw} {w : World} {K : PySem.W.Frag} {h : Heap} {mg : Str → Option Value} {fa fPc fCp fAr fCs fWt fLo fAl fSr fN fO fC fSi fLq fLc fLp fPt fNe fCr fDu fWy fL : Addr} (X : K.In h) (G : h.Ns mainGlobals mg) (hfa : mg "law" = some (.ref fa))
    {odPc anPc : Option Addr} {slPc : Array (Option Value)} {ocPc kVPc dcPc pmPc cdPc ctPc : Value}
    {odCp anCp : Option Addr} {slCp : Array (Option Value)} {ocCp kVCp dcCp pmCp cdCp ctCp : Value}
    {odAr anAr : Option Addr} {slAr : Array (Option Value)} {ocAr kVAr dcAr pmAr cdAr ctAr : Value}
    {odCs anCs : Option Addr} {slCs : Array (Option Value)} {ocCs kVCs dcCs pmCs cdCs ctCs : Value}
    {odWt anWt : Option Addr} {slWt : Array (Option Value)} {ocWt kVWt dcWt pmWt cdWt ctWt : Value}
    {odLo anLo : Option Addr} {slLo : Array (Option Value)} {ocLo kVLo dcLo pmLo cdLo ctLo : Value}
    {odAl anAl : Option Addr} {slAl : Array (Option Value)} {ocAl kVAl dcAl pmAl cdAl ctAl : Value}
    {odSr anSr : Option Addr} {slSr : Array (Option Value)} {ocSr kVSr dcSr pmSr cdSr ctSr : Value}
    {odN anN : Option Addr} {slN : Array (Option Value)} {ocN kVN dcN pmN cdN ctN : Value}
    {odO anO : Option Addr} {slO : Array (Option Value)} {ocO kVO dcO pmO cdO ctO : Value}
    {odC anC : Option Addr} {slC : Array (Option Value)} {ocC kVC dcC pmC cdC ctC : Value}
    {odSi anSi : Option Addr} {slSi : Array (Option Value)} {ocSi kVSi dcSi pmSi cdSi ctSi : Value}
    {odLq anLq : Option Addr} {slLq : Array (Option Value)} {ocLq kVLq dcLq pmLq cdLq ctLq : Value}
    {odLc anLc : Option Addr} {slLc : Array (Option Value)} {ocLc kVLc dcLc pmLc cdLc ctLc : Value}
    {odLp anLp : Option Addr} {slLp : Array (Option Value)} {ocLp kVLp dcLp pmLp cdLp ctLp : Value}
    {odPt anPt : Option Addr} {slPt : Array (Option Value)} {ocPt kVPt dcPt pmPt cdPt ctPt : Value}
    {odNe anNe : Option Addr} {slNe : Array (Option Value)} {ocNe kVNe dcNe pmNe cdNe ctNe : Value}
    {odCr anCr : Option Addr} {slCr : Array (Option Value)} {ocCr kVCr dcCr pmCr cdCr ctCr : Value}
    {odDu anDu : Option Addr} {slDu : Array (Option Value)} {ocDu kVDu dcDu pmDu cdDu ctDu : Value}
    {odWy anWy : Option Addr} {slWy : Array (Option Value)} {ocWy kVWy dcWy pmWy cdWy ctWy : Value}
    {odL anL : Option Addr} {slL : Array (Option Value)} {ocL kVL dcL pmL cdL ctL : Value}
    {tMOST_SITES : Tok}
    (aPc : PySem.W.nsIn K mainGlobals "is_place" = some (some (.ref fPc))) (lPc : K.lookup fPc = some ⟨ocPc, odPc, .func (PySem.W.fnOf "is_place" "is_place" (defArgs sIsPl) (defBody sIsPl) (defScope sIsPl) .none kVPc dcPc pmPc anPc cdPc ctPc), slPc⟩) (cPc : PySem.W.codeIn K cdPc "is_place" = true) (kPc : PySem.W.keepIn K (.ref fPc) = true)
    (aCp : PySem.W.nsIn K mainGlobals "check_place" = some (some (.ref fCp))) (lCp : K.lookup fCp = some ⟨ocCp, odCp, .func (PySem.W.fnOf "check_place" "check_place" (defArgs sCheckP) (defBody sCheckP) (defScope sCheckP) .none kVCp dcCp pmCp anCp cdCp ctCp), slCp⟩) (cCp : PySem.W.codeIn K cdCp "check_place" = true) (kCp : PySem.W.keepIn K (.ref fCp) = true)
    (aAr : PySem.W.nsIn K mainGlobals "are_sites" = some (some (.ref fAr))) (lAr : K.lookup fAr = some ⟨ocAr, odAr, .func (PySem.W.fnOf "are_sites" "are_sites" (defArgs s_are_sites) (defBody s_are_sites) (defScope s_are_sites) .none kVAr dcAr pmAr anAr cdAr ctAr), slAr⟩) (cAr : PySem.W.codeIn K cdAr "are_sites" = true) (kAr : PySem.W.keepIn K (.ref fAr) = true)
    (aCs : PySem.W.nsIn K mainGlobals "check_sites" = some (some (.ref fCs))) (lCs : K.lookup fCs = some ⟨ocCs, odCs, .func (PySem.W.fnOf "check_sites" "check_sites" (defArgs s_check_sites) (defBody s_check_sites) (defScope s_check_sites) .none kVCs dcCs pmCs anCs cdCs ctCs), slCs⟩) (cCs : PySem.W.codeIn K cdCs "check_sites" = true) (kCs : PySem.W.keepIn K (.ref fCs) = true)
    (aWt : PySem.W.nsIn K mainGlobals "with_twin" = some (some (.ref fWt))) (lWt : K.lookup fWt = some ⟨ocWt, odWt, .func (PySem.W.fnOf "with_twin" "with_twin" (defArgs s_with_twin) (defBody s_with_twin) (defScope s_with_twin) .none kVWt dcWt pmWt anWt cdWt ctWt), slWt⟩) (cWt : PySem.W.codeIn K cdWt "with_twin" = true) (kWt : PySem.W.keepIn K (.ref fWt) = true)
    (aLo : PySem.W.nsIn K mainGlobals "lowest_lines" = some (some (.ref fLo))) (lLo : K.lookup fLo = some ⟨ocLo, odLo, .func (PySem.W.fnOf "lowest_lines" "lowest_lines" (defArgs s_lowest_lines) (defBody s_lowest_lines) (defScope s_lowest_lines) .none kVLo dcLo pmLo anLo cdLo ctLo), slLo⟩) (cLo : PySem.W.codeIn K cdLo "lowest_lines" = true) (kLo : PySem.W.keepIn K (.ref fLo) = true)
    (aAl : PySem.W.nsIn K mainGlobals "along" = some (some (.ref fAl))) (lAl : K.lookup fAl = some ⟨ocAl, odAl, .func (PySem.W.fnOf "along" "along" (defArgs s_along) (defBody s_along) (defScope s_along) .none kVAl dcAl pmAl anAl cdAl ctAl), slAl⟩) (cAl : PySem.W.codeIn K cdAl "along" = true) (kAl : PySem.W.keepIn K (.ref fAl) = true)
    (aSr : PySem.W.nsIn K mainGlobals "_law_source_of" = some (some (.ref fSr))) (lSr : K.lookup fSr = some ⟨ocSr, odSr, .func (PySem.W.fnOf "_law_source_of" "_law_source_of" (defArgs sSrc) (defBody sSrc) (defScope sSrc) .none kVSr dcSr pmSr anSr cdSr ctSr), slSr⟩) (cSr : PySem.W.codeIn K cdSr "_law_source_of" = true) (kSr : PySem.W.keepIn K (.ref fSr) = true)
    (aN : PySem.W.nsIn K mainGlobals "_law_next" = some (some (.ref fN))) (lN : K.lookup fN = some ⟨ocN, odN, .func (PySem.W.fnOf "_law_next" "_law_next" (defArgs sNext) (defBody sNext) (defScope sNext) .none kVN dcN pmN anN cdN ctN), slN⟩) (cN : PySem.W.codeIn K cdN "_law_next" = true) (kN : PySem.W.keepIn K (.ref fN) = true)
    (aO : PySem.W.nsIn K mainGlobals "_law_one" = some (some (.ref fO))) (lO : K.lookup fO = some ⟨ocO, odO, .func (PySem.W.fnOf "_law_one" "_law_one" (defArgs sOne) (defBody sOne) (defScope sOne) .none kVO dcO pmO anO cdO ctO), slO⟩) (cO : PySem.W.codeIn K cdO "_law_one" = true) (kO : PySem.W.keepIn K (.ref fO) = true)
    (aC : PySem.W.nsIn K mainGlobals "_law_cell_at" = some (some (.ref fC))) (lC : K.lookup fC = some ⟨ocC, odC, .func (PySem.W.fnOf "_law_cell_at" "_law_cell_at" (defArgs sCell) (defBody sCell) (defScope sCell) .none kVC dcC pmC anC cdC ctC), slC⟩) (cC : PySem.W.codeIn K cdC "_law_cell_at" = true) (kC : PySem.W.keepIn K (.ref fC) = true)
    (aSi : PySem.W.nsIn K mainGlobals "_law_sites" = some (some (.ref fSi))) (lSi : K.lookup fSi = some ⟨ocSi, odSi, .func (PySem.W.fnOf "_law_sites" "_law_sites" (defArgs sSites) (defBody sSites) (defScope sSites) .none kVSi dcSi pmSi anSi cdSi ctSi), slSi⟩) (cSi : PySem.W.codeIn K cdSi "_law_sites" = true) (kSi : PySem.W.keepIn K (.ref fSi) = true)
    (aLq : PySem.W.nsIn K mainGlobals "_law_square" = some (some (.ref fLq))) (lLq : K.lookup fLq = some ⟨ocLq, odLq, .func (PySem.W.fnOf "_law_square" "_law_square" (defArgs sLSq) (defBody sLSq) (defScope sLSq) .none kVLq dcLq pmLq anLq cdLq ctLq), slLq⟩) (cLq : PySem.W.codeIn K cdLq "_law_square" = true) (kLq : PySem.W.keepIn K (.ref fLq) = true)
    (aLc : PySem.W.nsIn K mainGlobals "_law_common" = some (some (.ref fLc))) (lLc : K.lookup fLc = some ⟨ocLc, odLc, .func (PySem.W.fnOf "_law_common" "_law_common" (defArgs sLCom) (defBody sLCom) (defScope sLCom) .none kVLc dcLc pmLc anLc cdLc ctLc), slLc⟩) (cLc : PySem.W.codeIn K cdLc "_law_common" = true) (kLc : PySem.W.keepIn K (.ref fLc) = true)
    (aLp : PySem.W.nsIn K mainGlobals "_law_place" = some (some (.ref fLp))) (lLp : K.lookup fLp = some ⟨ocLp, odLp, .func (PySem.W.fnOf "_law_place" "_law_place" (defArgs sLPl) (defBody sLPl) (defScope sLPl) .none kVLp dcLp pmLp anLp cdLp ctLp), slLp⟩) (cLp : PySem.W.codeIn K cdLp "_law_place" = true) (kLp : PySem.W.keepIn K (.ref fLp) = true)
    (aPt : PySem.W.nsIn K mainGlobals "_law_point" = some (some (.ref fPt))) (lPt : K.lookup fPt = some ⟨ocPt, odPt, .func (PySem.W.fnOf "_law_point" "_law_point" (defArgs sPoint) (defBody sPoint) (defScope sPoint) .none kVPt dcPt pmPt anPt cdPt ctPt), slPt⟩) (cPt : PySem.W.codeIn K cdPt "_law_point" = true) (kPt : PySem.W.keepIn K (.ref fPt) = true)
    (aNe : PySem.W.nsIn K mainGlobals "_law_nearest" = some (some (.ref fNe))) (lNe : K.lookup fNe = some ⟨ocNe, odNe, .func (PySem.W.fnOf "_law_nearest" "_law_nearest" (defArgs sNearL) (defBody sNearL) (defScope sNearL) .none kVNe dcNe pmNe anNe cdNe ctNe), slNe⟩) (cNe : PySem.W.codeIn K cdNe "_law_nearest" = true) (kNe : PySem.W.keepIn K (.ref fNe) = true)
    (aCr : PySem.W.nsIn K mainGlobals "_law_crossings" = some (some (.ref fCr))) (lCr : K.lookup fCr = some ⟨ocCr, odCr, .func (PySem.W.fnOf "_law_crossings" "_law_crossings" (defArgs sCross) (defBody sCross) (defScope sCross) .none kVCr dcCr pmCr anCr cdCr ctCr), slCr⟩) (cCr : PySem.W.codeIn K cdCr "_law_crossings" = true) (kCr : PySem.W.keepIn K (.ref fCr) = true)
    (aDu : PySem.W.nsIn K mainGlobals "_law_due" = some (some (.ref fDu))) (lDu : K.lookup fDu = some ⟨ocDu, odDu, .func (PySem.W.fnOf "_law_due" "_law_due" (defArgs sDue) (defBody sDue) (defScope sDue) .none kVDu dcDu pmDu anDu cdDu ctDu), slDu⟩) (cDu : PySem.W.codeIn K cdDu "_law_due" = true) (kDu : PySem.W.keepIn K (.ref fDu) = true)
    (aWy : PySem.W.nsIn K mainGlobals "_law_ways" = some (some (.ref fWy))) (lWy : K.lookup fWy = some ⟨ocWy, odWy, .func (PySem.W.fnOf "_law_ways" "_law_ways" (defArgs sWays) (defBody sWays) (defScope sWays) .none kVWy dcWy pmWy anWy cdWy ctWy), slWy⟩) (cWy : PySem.W.codeIn K cdWy "_law_ways" = true) (kWy : PySem.W.keepIn K (.ref fWy) = true)
    (aL : PySem.W.nsIn K mainGlobals "law" = some (some (.ref fL))) (lL : K.lookup fL = some ⟨ocL, odL, .func (PySem.W.fnOf "law" "law" (defArgs sLaw) (defBody sLaw) (defScope sLaw) .none kVL dcL pmL anL cdL ctL), slL⟩) (cL : PySem.W.codeIn K cdL "law" = true) (kL : PySem.W.keepIn K (.ref fL) = true)
    (zint : PySem.W.nsIn K mainGlobals "int" = some none)
    (zisinstance : PySem.W.nsIn K mainGlobals "isinstance" = some none)
    (ztuple : PySem.W.nsIn K mainGlobals "tuple" = some none)
    (zlen : PySem.W.nsIn K mainGlobals "len" = some none)
    (zabs : PySem.W.nsIn K mainGlobals "abs" = some none)
    (zrange : PySem.W.nsIn K mainGlobals "range" = some none)
    (zlist : PySem.W.nsIn K mainGlobals "list" = some none)
    (zset : PySem.W.nsIn K mainGlobals "set" = some none)
    (zenumerate : PySem.W.nsIn K mainGlobals "enumerate" = some none)
    (zsorted : PySem.W.nsIn K mainGlobals "sorted" = some none)
    (zmin : PySem.W.nsIn K mainGlobals "min" = some none)
    (zzip : PySem.W.nsIn K mainGlobals "zip" = some none)
    (gMOST_SITES : PySem.W.nsIn K mainGlobals "MOST_SITES" = some (some (.int 200 tMOST_SITES)))
    (ggcd : PySem.W.nsIn K mainGlobals "gcd" = some (some (.builtin "math.gcd")))
    : ∃ fd : FuncData, (∀ (s : Shared) (v : Value), BindsTo s fd ⟨[v], []⟩ [("_law_script", v)]) ∧ ∀ base : Heap, K.In base → base.Ns mainGlobals mg → FnOk l.prog w K mg base CX0 9 fa fd ["_law_script"] (spLaw K) := by
  have e := hfa.symm.trans (PySem.W.mg_of X G aL)
  cases e
  have FPc := fun_mk (st := sIsPl) lPc cPc kPc
  have bPc := FPc.binds (ps := ["value"]) fun _ _ _ _ _ _ us hl => match us, hl with | [_], _ => rfl
  have gPc := PySem.W.mg_of X G aPc
  have FCp := fun_mk (st := sCheckP) lCp cCp kCp
  have bCp := FCp.binds (ps := ["value", "name"]) fun _ _ _ _ _ _ us hl => match us, hl with | [_, _], _ => rfl
  have gCp := PySem.W.mg_of X G aCp
  have FAr := fun_mk (st := s_are_sites) lAr cAr kAr
  have bAr := FAr.binds (ps := ["value"]) fun _ _ _ _ _ _ us hl => match us, hl with | [_], _ => rfl
  have gAr := PySem.W.mg_of X G aAr
  have FCs := fun_mk (st := s_check_sites) lCs cCs kCs
  have bCs := FCs.binds (ps := ["value"]) fun _ _ _ _ _ _ us hl => match us, hl with | [_], _ => rfl
  have gCs := PySem.W.mg_of X G aCs
  have FWt := fun_mk (st := s_with_twin) lWt cWt kWt
  have bWt := FWt.binds (ps := ["site", "twins"]) fun _ _ _ _ _ _ us hl => match us, hl with | [_, _], _ => rfl
  have gWt := PySem.W.mg_of X G aWt
  have FLo := fun_mk (st := s_lowest_lines) lLo cLo kLo
  have bLo := FLo.binds (ps := ["rows", "a", "b"]) fun _ _ _ _ _ _ us hl => match us, hl with | [_, _, _], _ => rfl
  have gLo := PySem.W.mg_of X G aLo
  have FAl := fun_mk (st := s_along) lAl cAl kAl
  have bAl := FAl.binds (ps := ["sites", "a", "b"]) fun _ _ _ _ _ _ us hl => match us, hl with | [_, _, _], _ => rfl
  have gAl := PySem.W.mg_of X G aAl
  have FSr := fun_mk (st := sSrc) lSr cSr kSr
  have bSr := FSr.binds (ps := ["_law_number_here"]) fun _ _ _ _ _ _ us hl => match us, hl with | [_], _ => rfl
  have gSr := PySem.W.mg_of X G aSr
  have FN := fun_mk (st := sNext) lN cN kN
  have bN := FN.binds (ps := ["_law_source", "_law_many"]) fun _ _ _ _ _ _ us hl => match us, hl with | [_, _], _ => rfl
  have gN := PySem.W.mg_of X G aN
  have FO := fun_mk (st := sOne) lO cO kO
  have bO := FO.binds (ps := ["_law_source", "_law_some"]) fun _ _ _ _ _ _ us hl => match us, hl with | [_, _], _ => rfl
  have gO := PySem.W.mg_of X G aO
  have FC := fun_mk (st := sCell) lC cC kC
  have bC := FC.binds (ps := ["_law_script", "_law_index"]) fun _ _ _ _ _ _ us hl => match us, hl with | [_, _], _ => rfl
  have gC := PySem.W.mg_of X G aC
  have FSi := fun_mk (st := sSites) lSi cSi kSi
  have bSi := FSi.binds (ps := ["_law_source", "_law_most"]) fun _ _ _ _ _ _ us hl => match us, hl with | [_, _], _ => rfl
  have gSi := PySem.W.mg_of X G aSi
  have FLq := fun_mk (st := sLSq) lLq cLq kLq
  have bLq := FLq.binds (ps := ["_law_place_here", "_law_site"]) fun _ _ _ _ _ _ us hl => match us, hl with | [_, _], _ => rfl
  have gLq := PySem.W.mg_of X G aLq
  have FLc := fun_mk (st := sLCom) lLc cLc kLc
  have bLc := FLc.binds (ps := ["_law_aa", "_law_bb"]) fun _ _ _ _ _ _ us hl => match us, hl with | [_, _], _ => rfl
  have gLc := PySem.W.mg_of X G aLc
  have FLp := fun_mk (st := sLPl) lLp cLp kLp
  have bLp := FLp.binds (ps := ["_law_x", "_law_y", "_law_d"]) fun _ _ _ _ _ _ us hl => match us, hl with | [_, _, _], _ => rfl
  have gLp := PySem.W.mg_of X G aLp
  have FPt := fun_mk (st := sPoint) lPt cPt kPt
  have bPt := FPt.binds (ps := ["_law_aa", "_law_bb", "_law_n", "_law_d"]) fun _ _ _ _ _ _ us hl => match us, hl with | [_, _, _, _], _ => rfl
  have gPt := PySem.W.mg_of X G aPt
  have FNe := fun_mk (st := sNearL) lNe cNe kNe
  have bNe := FNe.binds (ps := ["_law_sites_here", "_law_place_here"]) fun _ _ _ _ _ _ us hl => match us, hl with | [_, _], _ => rfl
  have gNe := PySem.W.mg_of X G aNe
  have FCr := fun_mk (st := sCross) lCr cCr kCr
  have bCr := FCr.binds (ps := ["_law_sites_here", "_law_aa", "_law_bb"]) fun _ _ _ _ _ _ us hl => match us, hl with | [_, _, _], _ => rfl
  have gCr := PySem.W.mg_of X G aCr
  have FDu := fun_mk (st := sDue) lDu cDu kDu
  have bDu := FDu.binds (ps := ["_law_sites_here", "_law_aa", "_law_bb"]) fun _ _ _ _ _ _ us hl => match us, hl with | [_, _, _], _ => rfl
  have gDu := PySem.W.mg_of X G aDu
  have FWy := fun_mk (st := sWays) lWy cWy kWy
  have bWy := FWy.binds (ps := ["_law_source", "_law_sites_here"]) fun _ _ _ _ _ _ us hl => match us, hl with | [_, _], _ => rfl
  have gWy := PySem.W.mg_of X G aWy
  have FL := fun_mk (st := sLaw) lL cL kL
  have mint := PySem.W.mg_none_of X G zint
  have misinstance := PySem.W.mg_none_of X G zisinstance
  have mtuple := PySem.W.mg_none_of X G ztuple
  have mlen := PySem.W.mg_none_of X G zlen
  have mabs := PySem.W.mg_none_of X G zabs
  have mrange := PySem.W.mg_none_of X G zrange
  have mlist := PySem.W.mg_none_of X G zlist
  have mset := PySem.W.mg_none_of X G zset
  have menumerate := PySem.W.mg_none_of X G zenumerate
  have msorted := PySem.W.mg_none_of X G zsorted
  have mmin := PySem.W.mg_none_of X G zmin
  have mzip := PySem.W.mg_none_of X G zzip
  have mMOST_SITES := PySem.W.mg_of X G gMOST_SITES
  have mgcd := PySem.W.mg_of X G ggcd
  have kbAl := kb_rev (ps := ["sites", "a", "b"]) (ks := ["b", "a", "sites"]) FAl (by decide) fun _ _ _ _ _ _ ws hl => match ws, hl with | [_, _, _], _ => rfl
  refine ⟨PySem.W.fnOf "law" "law" (defArgs sLaw) (defBody sLaw) (defScope sLaw) .none kVL dcL pmL anL cdL ctL, fun s v => .of_eq rfl, fun base _ _ => ?_⟩
  have D_is_place : Df K mg "is_place" sIsPl ["value"] := Df.mk' FPc gPc kPc bPc
  have D_check_place : Df K mg "check_place" sCheckP ["value", "name"] := Df.mk' FCp gCp kCp bCp
  have D_are_sites : Df K mg "are_sites" s_are_sites ["value"] := Df.mk' FAr gAr kAr bAr
  have D_check_sites : Df K mg "check_sites" s_check_sites ["value"] := Df.mk' FCs gCs kCs bCs
  have D_with_twin : Df K mg "with_twin" s_with_twin ["site", "twins"] := Df.mk' FWt gWt kWt bWt
  have D_lowest_lines : Df K mg "lowest_lines" s_lowest_lines ["rows", "a", "b"] := Df.mk' FLo gLo kLo bLo
  have C_is_place := D_is_place.cl fun f fd F => ok_ispl (P := l.prog) (w := w) (base := base) (k := 0) F misinstance mtuple mint mlen mgcd
  obtain ⟨fPl, fdPl, GPl, gPl, kPl, bPl⟩ := C_is_place.ex
  have C_check_place := D_check_place.cl fun f fd F => ok_checkp (k := 0) F GPl gPl kPl bPl
  have C_are_sites := ok_are_sites (P := l.prog) (w := w) (K := K) (mg := mg) (base := base) D_are_sites mint misinstance mlen mlist mset mtuple mMOST_SITES
  have C_check_sites := ok_check_sites D_check_sites C_are_sites
  have C_with_twin := ok_with_twin (P := l.prog) (w := w) (K := K) (mg := mg) (base := base) D_with_twin
  have C_lowest_lines := ok_lowest_lines (P := l.prog) (w := w) (K := K) (mg := mg) (base := base) D_lowest_lines mlen msorted
  have GAl := FnOk.mono (ok_along (P := l.prog) (w := w) (K := K) (mg := mg) (base := base) FAl C_check_sites C_with_twin C_lowest_lines C_check_place) (show 3 ≤ 8 by decide)
  have GSr := ok_src (P := l.prog) (w := w) (base := base) (k := 0) FSr mint
  have GN := fun k => ok_next (P := l.prog) (w := w) (base := base) (k := k) FN mint
  have GO := fun k => ok_one (k := k) FO (GN k) gN kN bN mlen
  have GC := ok_cell (P := l.prog) (w := w) (mg := mg) (base := base) (k := 0) FC
  have GSi := ok_sitesN (k := 0) FSi (GN 0) gN kN bN (GO 0) gO kO bO mrange
  have GLq := ok_lsqW (P := l.prog) (w := w) (mg := mg) (base := base) (k := 5) FLq
  have GLc := fun k => ok_com (P := l.prog) (w := w) (base := base) (k := k) FLc mint mabs
  have GLp := fun k => ok_lpl (k := k) FLp (GLc k) gLc kLc bLc
  have GPt := ok_point (k := 4) FPt (GLp 4) gLp kLp bLp
  have GNe := ok_nearl (k := 5) FNe GLq gLq kLq bLq msorted menumerate mmin
  have GCr := ok_cross (k := 5) FCr GLq gLq kLq bLq (GLc 5) gLc kLc bLc menumerate mabs mlen
  have GDu := ok_due (k := 4) FDu GCr gCr kCr bCr GPt gPt kPt bPt GNe gNe kNe bNe mzip
  have GWy := ok_ways (k := 4) FWy (GO 5) gO kO bO (GN 6) gN kN bN (GLp 5) gLp kLp bLp mrange
  exact ok_law FL GC gC kC bC GSr gSr kSr bSr GSi gSi kSi bSi GWy gWy kWy bWy GDu gDu kDu bDu GAl gAl kAl bAl kbAl mrange msorted mlen mset
end NcK
open PySem PySem.W PyProof.Rows
set_option maxHeartbeats 0 in
theorem PySem.Challenge.cw_nearcells_k26_cells_along_a_way_holds : PySem.Challenge.rw_nearcells_k26_cells_along_a_way.Holds := by
  w_on; o_law; k_head; (case hw => w_witness2)
  k_fill
  refine L2.walk_of (l := PySem.Challenge.rw_nearcells_k26_cells_along_a_way) (n := 63) (k := 9) (x := "_law_script") (CX := fun _ => L2.CX0) (sp := fun w => NcK.spLaw _) rfl (by decide) rfl ⟨rfl, by decide, by decide⟩ (fun w h Y => PySem.W.kIn_of Y) ?F (fun _ _ a ns hl _ hS => ⟨a, ns, rfl, hS, hl, fun _ => rfl⟩) (fun _ _ _ _ _ h => h)
  case F =>
    intro w mg fa h KX G hmg
    refine' NcK.all_mk KX G hmg ?aPc ?lPc ?cPc ?kPc ?aCp ?lCp ?cCp ?kCp ?aAr ?lAr ?cAr ?kAr ?aCs ?lCs ?cCs ?kCs ?aWt ?lWt ?cWt ?kWt ?aLo ?lLo ?cLo ?kLo ?aAl ?lAl ?cAl ?kAl ?aSr ?lSr ?cSr ?kSr ?aN ?lN ?cN ?kN ?aO ?lO ?cO ?kO ?aC ?lC ?cC ?kC ?aSi ?lSi ?cSi ?kSi ?aLq ?lLq ?cLq ?kLq ?aLc ?lLc ?cLc ?kLc ?aLp ?lLp ?cLp ?kLp ?aPt ?lPt ?cPt ?kPt ?aNe ?lNe ?cNe ?kNe ?aCr ?lCr ?cCr ?kCr ?aDu ?lDu ?cDu ?kDu ?aWy ?lWy ?cWy ?kWy ?aL ?lL ?cL ?kL ?zint ?zisinstance ?ztuple ?zlen ?zabs ?zrange ?zlist ?zset ?zenumerate ?zsorted ?zmin ?zzip ?gMOST_SITES ?ggcd
    (case aPc => k_is); (case lPc => k_is); (case cPc => k_is); (case kPc => k_is); (case aCp => k_is); (case lCp => k_is); (case cCp => k_is); (case kCp => k_is); (case aAr => k_is); (case lAr => k_is); (case cAr => k_is); (case kAr => k_is); (case aCs => k_is); (case lCs => k_is); (case cCs => k_is); (case kCs => k_is); (case aWt => k_is); (case lWt => k_is); (case cWt => k_is); (case kWt => k_is); (case aLo => k_is); (case lLo => k_is); (case cLo => k_is); (case kLo => k_is); (case aAl => k_is); (case lAl => k_is); (case cAl => k_is); (case kAl => k_is); (case aSr => k_is); (case lSr => k_is); (case cSr => k_is); (case kSr => k_is); (case aN => k_is); (case lN => k_is); (case cN => k_is); (case kN => k_is); (case aO => k_is); (case lO => k_is); (case cO => k_is); (case kO => k_is); (case aC => k_is); (case lC => k_is); (case cC => k_is); (case kC => k_is); (case aSi => k_is); (case lSi => k_is); (case cSi => k_is); (case kSi => k_is); (case aLq => k_is); (case lLq => k_is); (case cLq => k_is); (case kLq => k_is); (case aLc => k_is); (case lLc => k_is); (case cLc => k_is); (case kLc => k_is); (case aLp => k_is); (case lLp => k_is); (case cLp => k_is); (case kLp => k_is); (case aPt => k_is); (case lPt => k_is); (case cPt => k_is); (case kPt => k_is); (case aNe => k_is); (case lNe => k_is); (case cNe => k_is); (case kNe => k_is); (case aCr => k_is); (case lCr => k_is); (case cCr => k_is); (case kCr => k_is); (case aDu => k_is); (case lDu => k_is); (case cDu => k_is); (case kDu => k_is); (case aWy => k_is); (case lWy => k_is); (case cWy => k_is); (case kWy => k_is); (case aL => k_is); (case lL => k_is); (case cL => k_is); (case kL => k_is); (case zint => k_is); (case zisinstance => k_is); (case ztuple => k_is); (case zlen => k_is); (case zabs => k_is); (case zrange => k_is); (case zlist => k_is); (case zset => k_is); (case zenumerate => k_is); (case zsorted => k_is); (case zmin => k_is); (case zzip => k_is); (case gMOST_SITES => k_is); (case ggcd => k_is)
