import PyProof.Rows.All
import Wide.All
import OpenK.AllK
import Wide.FinOn
import HandS.ForMost
import HandS.TupLe
import HandS.IsInst
import HandS.Wide
import HandS.Walk
import HandS.Gcd
import HandS.Codes
import HandS.Style
import KE.KMathG
import HandS.NoneIn
import HandS.CallLocal
import HandS.IterVal
import HandS.TupSets
import HandS.Iter
import PyProof.MinMaxWalk
import HandS.SetKeys
import PyProof.DictMoreH
import HandS.SortRule
import HandS.Comp
import PyProof.Rows.TupDisplay
import KE.KRevSl
import KE.DataMinMax
import KE.SortData
import HandS.Deep
import KE.KNestM
import KE.KLam
import PySem.Challenge.RW_nearcells_k06_whole_hulls_and_what_is_in
set_option Elab.async false
set_option linter.all false
set_option maxRecDepth 100000
set_option maxHeartbeats 4000000
/-! Own rules: min and max of two things that are compared by the heap (pairs); a call by keywords alone. -/
namespace Nc
open PySem PySem.Spec PyProof.Rows L2
section
variable {prog : Program} {w : World} {A : Around} {E : Value → Shared → Prop} {s : Shared} {va vb : Value} {k : Bool}
/-- all that stood before stands -/
abbrev KeepH (h h' : Heap) : Prop := ∀ c o, h.get? c = some o → h'.get? c = some o


/-- the loop of min behind its first item: best so far vx (twice at S), one more item vy to come, or none -/
theorem min_round {R : Result → Shared → Prop} {I S T : Addr} {vx vy : Value} {its : Array Value} {b : Bool} {c i : Nat} {s : Shared} (hh : A.handled = none) (hIT : T ≠ I) (hIS : S ≠ I) (hST : S ≠ T)
    (hit : s.heap.IsTupleIter I T i ∧ s.heap.IsTuple T its) (hy : its[i]? = some vy) (hend : its.size = i + 1) (hS : s.heap.get? S = some { cls := .type "list", dict := none, data := .seq #[vx, vx] c, slots := #[] })
    (hc : ∀ h' tk, (∀ b o, b ≠ I → s.heap.get? b = some o → h'.get? b = some o) → Ob.RcOp .Lt A.in1 { s with heap := h', toks := tk } vy vx b)
    (hR : ∀ h' tk, (∀ b o, b ≠ I → b ≠ S → s.heap.get? b = some o → h'.get? b = some o) → R (.ok (.ret (if b = true then vy else vx))) { s with heap := h', toks := tk }) :
    codeAny (model prog w) A (.builtin "min.loop" ⟨[.ref I, .none, .ref S], []⟩) R s := by
  have nm : (toString "min" ++ toString ".loop" : String) = "min.loop" := by decide
  have W := Walks.tuple (prog := prog) (w := w) (A := A.in1) hh I T hIT its
  -- no item is left: vz is handed back
  have last : ∀ (vz : Value) (c' : Nat) (s1 : Shared), s1.heap.IsTupleIter I T (i + 1) ∧ s1.heap.IsTuple T its → s1.heap.get? S = some { cls := .type "list", dict := none, data := .seq #[vz, vz] c', slots := #[] } →
      (∀ h' tk, (∀ b o, b ≠ I → b ≠ S → s1.heap.get? b = some o → h'.get? b = some o) → R (.ok (.ret vz)) { s1 with heap := h', toks := tk }) → codeAny (model prog w) A (.builtin "min.loop" ⟨[.ref I, .none, .ref S], []⟩) R s1 := by
    intro vz c' s1 st1 g1 r1
    obtain ⟨hp, gg, dd, tt, os⟩ := s1
    refine codeAny_builtin PySem.F.entry_min_loop ?_
    rw [Around.under_plainId PySem.F.plain_min_loop _]
    refine wpAny_bind (wpAny_seqItems g1 rfl (wpAny_bind (wpAny_tryCatch (W.done _ _ _ (hend ▸ st1) fun hq tk hk => ?_))))
    have g2 := hk S _ (fun z => hIS (List.mem_singleton.mp z)) g1
    refine wpAny_bind (wpAny_updateSeq g2 rfl (wpAny_bind (wpAny_letGo (wpAny_pure ?_))))
    exact r1 _ tk fun d o n1 n2 e => (Heap.get?_update_other _ _ (Ne.symm n2)).trans (hk d o (fun z => n1 (List.mem_singleton.mp z)) e)
  obtain ⟨hp, gg, dd, tt, os⟩ := s
  refine codeAny_builtin PySem.F.entry_min_loop ?_
  rw [Around.under_plainId PySem.F.plain_min_loop _]
  refine wpAny_bind (wpAny_seqItems hS rfl (wpAny_bind (wpAny_tryCatch (W.item i _ _ _ (by omega) hit fun v hq tk hP st hk => ?_))))
  have ev : v = vy := Option.some.inj ((show its[i]? = some v from hP).symm.trans hy)
  subst ev
  have kk : ∀ d o, d ≠ I → hp.get? d = some o → hq.get? d = some o := fun d o n e => hk d o (fun z => n (List.mem_singleton.mp z)) e
  have g2 := kk S _ hIS hS
  refine wpAny_bind (wpAny_pure ?_)
  show wpAny _ _ (tryCatch (holding [v, v] (richCompare _ v vx >>= _)) _ >>= _) _ _ _
  refine wpAny_bind (wpAny_tryCatch (wpAny_holding (wpAny_bind ((hc hq tk kk) prog w _ _ ?_))))
  refine wpAny_bind (wpAny_holding (wpAny_truthy_bool (wpAny_bind (wpAny_letGo (wpAny_pure ?_)))))
  cases b with
  | true =>
    simp only [if_true]
    refine wpAny_bind (wpAny_updateSeq g2 rfl (wpAny_bind (wpAny_letGo ?_)))
    rw [nm]
    have fr : ∀ d o, d ≠ S → hq.get? d = some o → (hq.update S fun o => { o with data := .seq #[v, v] (c + 1) }).get? d = some o := fun d o n e => (Heap.get?_update_other _ _ (Ne.symm n)).trans e
    refine wpAny_pure ⟨plainId_quiet PySem.F.plain_min_loop _, last v _ _ (W.frame _ _ _ st fun d hd o e => ?_) (Heap.get?_update_self _ g2 rfl) fun h' tk' hk' => ?_⟩
    · refine (Heap.get?_update_other _ _ ?_).trans e
      intro z
      rcases List.mem_cons.mp hd with q | q
      · exact hIS (z.trans q)
      · exact hST (z.trans (List.mem_singleton.mp q))
    · exact hR h' tk' fun d o n1 n2 e => hk' d o n1 n2 ((Heap.get?_update_other _ _ (Ne.symm n2)).trans (kk d o n1 e))
  | false =>
    simp only [Bool.false_eq_true, if_false]
    refine wpAny_bind (wpAny_letGo ?_)
    rw [nm]
    refine wpAny_pure ⟨plainId_quiet PySem.F.plain_min_loop _, last vx _ _ st g2 fun h' tk' hk' => ?_⟩
    exact hR h' tk' fun d o n1 n2 e => hk' d o n1 n2 (kk d o n1 e)

theorem min2_by {Q : Value → Shared → Prop} (hh : A.handled = none)
    (hc : ∀ h' tk, KeepH s.heap h' → Ob.RcOp .Lt A.in1 { s with heap := h', toks := tk } vb va k)
    (hq : ∀ h' tk, KeepH s.heap h' → Q (if k = true then vb else va) { s with heap := h', toks := tk }) :
    wpAny (model prog w) A (call (.builtin "min") [va, vb]) Q E s := by
  have nm : (toString "min" ++ toString ".loop" : String) = "min.loop" := by decide
  obtain ⟨hp, gg, dd, tt, os⟩ := s
  refine call_function_tree PySem.F.kind_min PySem.F.plain_min PySem.F.entry_min (PySem.F.args_min2 _ _) ?_
  refine wpAny_bind (wpAny_of_eq (show Builtin.Builtins.bindParams "min" ["key", "default"] 0 ⟨[], []⟩ = pure [none, none] from rfl) ?_)
  show wpAny _ A.in1 (newTuple [va, vb] >>= _) _ _ _
  have hT : (hp.push { cls := .type "tuple", data := .seq #[va, vb] }).IsTuple hp.objs.size #[va, vb] := ⟨_, Heap.get?_push_size _ rfl, rfl, 0, rfl⟩
  have z1 : (hp.push { cls := .type "tuple", data := .seq #[va, vb] }).objs.size = hp.objs.size + 1 := Heap.size_push ..
  have k1 : KeepH hp (hp.push { cls := .type "tuple", data := .seq #[va, vb] }) := fun c o e => Heap.get?_push_of_some _ e
  refine wpAny_bind (wpAny_newObj_type (wpAny_bind (wpAny_pyIter_tuple hT (wpAny_bind (wpAny_newObj_type ?_)))))
  generalize hp.push { cls := .type "tuple", data := .seq #[va, vb] } = h1 at *
  generalize eT : hp.objs.size = T at *
  generalize eI : h1.objs.size = I at *
  have gI : (h1.push { cls := .type "tuple_iterator", data := .fields #[.ref T, .int 0 0] }).get? I = some { cls := .type "tuple_iterator", data := .fields #[.ref T, .int 0 0] } := by
    rw [← eI]
    exact Heap.get?_push_size _ rfl
  have k2 : KeepH h1 (h1.push { cls := .type "tuple_iterator", data := .fields #[.ref T, .int 0 0] }) := fun c o e => Heap.get?_push_of_some _ e
  have z2 : (h1.push { cls := .type "tuple_iterator", data := .fields #[.ref T, .int 0 0] }).objs.size = I + 1 := by
    rw [← eI]
    exact Heap.size_push ..
  have hIT : T ≠ I := by omega
  obtain ⟨oT, gT, cT, nT, dT⟩ := hT
  generalize h1.push { cls := .type "tuple_iterator", data := .fields #[.ref T, .int 0 0] } = h2 at *
  have gS : (h2.push { cls := .type "list", data := .seq #[] }).get? h2.objs.size = some { cls := .type "list", data := .seq #[] } := Heap.get?_push_size _ rfl
  have k3 : KeepH h2 (h2.push { cls := .type "list", data := .seq #[] }) := fun c o e => Heap.get?_push_of_some _ e
  show wpAny _ _ (pure (Fin.again (Code.builtin (toString "min" ++ toString ".loop") ⟨[.ref I, .none, .ref h2.objs.size], []⟩))) _ _ ⟨h2.push { cls := .type "list", data := .seq #[] }, gg, dd, tt, os⟩
  rw [nm]
  generalize eS : h2.objs.size = S at *
  generalize h2.push { cls := .type "list", data := .seq #[] } = h3 at *
  have hIS : S ≠ I := by
    omega
  have hST : S ≠ T := by omega
  have W := Walks.tuple (prog := prog) (w := w) (A := A.in1) hh I T hIT #[va, vb]
  refine wpAny_pure ⟨plainId_quiet PySem.F.plain_min_loop _, ?_⟩
  refine codeAny_builtin PySem.F.entry_min_loop ?_
  rw [Around.under_plainId PySem.F.plain_min_loop _]
  have st0 : h3.IsTupleIter I T 0 ∧ h3.IsTuple T #[va, vb] := ⟨⟨_, k3 _ _ gI, rfl, rfl⟩, ⟨oT, k3 _ _ (k2 _ _ gT), cT, nT, dT⟩⟩
  refine wpAny_bind (wpAny_seqItems gS rfl (wpAny_bind (wpAny_tryCatch (W.item 0 ⟨h3, gg, dd, tt, os⟩ _ _ (by show 0 < 2; decide) st0 fun v hq' tk hP st hk => ?_))))
  have ev : v = va := (Option.some.inj (show some va = some v from hP)).symm
  subst ev
  refine wpAny_bind (wpAny_pure ?_)
  have kk : ∀ d o, d ≠ I → h3.get? d = some o → hq'.get? d = some o := fun d o n e => hk d o (fun z => n (List.mem_singleton.mp z)) e
  have g2 := kk S _ hIS gS
  show wpAny _ _ (updateSeq S (fun _ => #[v, v]) >>= _) _ _ _
  refine wpAny_bind (wpAny_updateSeq g2 rfl ?_)
  rw [nm]
  have all : ∀ d o, hp.get? d = some o → d ≠ I ∧ d ≠ S ∧ hq'.get? d = some o := fun d o e => by
    have l : d < T := eT ▸ Heap.lt_size e
    have lI : T < I := by omega
    have lS : T < S := by omega
    have n1 : d ≠ I := Nat.ne_of_lt (Nat.lt_trans l lI)
    exact ⟨n1, Nat.ne_of_lt (Nat.lt_trans l lS), kk d o n1 (k3 _ _ (k2 _ _ (k1 _ _ e)))⟩
  refine wpAny_pure ⟨plainId_quiet PySem.F.plain_min_loop _, min_round (i := 1) (its := #[v, vb]) (vy := vb) (vx := v) (T := T) (b := k) hh hIT hIS hST ?_ rfl rfl (Heap.get?_update_self _ g2 rfl) (fun h' tk' kp => ?_) fun h' tk' kp => ?_⟩
  · refine W.frame _ _ _ st fun d hd o e => (Heap.get?_update_other _ _ ?_).trans e
    intro z
    rcases List.mem_cons.mp hd with q | q
    · exact hIS (z.trans q)
    · exact hST (z.trans (List.mem_singleton.mp q))
  · refine hc h' tk' fun d o e => ?_
    obtain ⟨n1, n2, e2⟩ := all d o e
    exact kp d o n1 ((Heap.get?_update_other _ _ (Ne.symm n2)).trans e2)
  · refine hq h' tk' fun d o e => ?_
    obtain ⟨n1, n2, e2⟩ := all d o e
    exact kp d o n1 n2 ((Heap.get?_update_other _ _ (Ne.symm n2)).trans e2)


/-- the loop of max behind its first item: best so far vx (twice at S), one more item vy to come, or none -/
theorem max_round {R : Result → Shared → Prop} {I S T : Addr} {vx vy : Value} {its : Array Value} {b : Bool} {c i : Nat} {s : Shared} (hh : A.handled = none) (hIT : T ≠ I) (hIS : S ≠ I) (hST : S ≠ T)
    (hit : s.heap.IsTupleIter I T i ∧ s.heap.IsTuple T its) (hy : its[i]? = some vy) (hend : its.size = i + 1) (hS : s.heap.get? S = some { cls := .type "list", dict := none, data := .seq #[vx, vx] c, slots := #[] })
    (hc : ∀ h' tk, (∀ b o, b ≠ I → s.heap.get? b = some o → h'.get? b = some o) → Ob.RcOp .Gt A.in1 { s with heap := h', toks := tk } vy vx b)
    (hR : ∀ h' tk, (∀ b o, b ≠ I → b ≠ S → s.heap.get? b = some o → h'.get? b = some o) → R (.ok (.ret (if b = true then vy else vx))) { s with heap := h', toks := tk }) :
    codeAny (model prog w) A (.builtin "max.loop" ⟨[.ref I, .none, .ref S], []⟩) R s := by
  have nm : (toString "max" ++ toString ".loop" : String) = "max.loop" := by decide
  have W := Walks.tuple (prog := prog) (w := w) (A := A.in1) hh I T hIT its
  -- no item is left: vz is handed back
  have last : ∀ (vz : Value) (c' : Nat) (s1 : Shared), s1.heap.IsTupleIter I T (i + 1) ∧ s1.heap.IsTuple T its → s1.heap.get? S = some { cls := .type "list", dict := none, data := .seq #[vz, vz] c', slots := #[] } →
      (∀ h' tk, (∀ b o, b ≠ I → b ≠ S → s1.heap.get? b = some o → h'.get? b = some o) → R (.ok (.ret vz)) { s1 with heap := h', toks := tk }) → codeAny (model prog w) A (.builtin "max.loop" ⟨[.ref I, .none, .ref S], []⟩) R s1 := by
    intro vz c' s1 st1 g1 r1
    obtain ⟨hp, gg, dd, tt, os⟩ := s1
    refine codeAny_builtin PySem.F.entry_max_loop ?_
    rw [Around.under_plainId PySem.F.plain_max_loop _]
    refine wpAny_bind (wpAny_seqItems g1 rfl (wpAny_bind (wpAny_tryCatch (W.done _ _ _ (hend ▸ st1) fun hq tk hk => ?_))))
    have g2 := hk S _ (fun z => hIS (List.mem_singleton.mp z)) g1
    refine wpAny_bind (wpAny_updateSeq g2 rfl (wpAny_bind (wpAny_letGo (wpAny_pure ?_))))
    exact r1 _ tk fun d o n1 n2 e => (Heap.get?_update_other _ _ (Ne.symm n2)).trans (hk d o (fun z => n1 (List.mem_singleton.mp z)) e)
  obtain ⟨hp, gg, dd, tt, os⟩ := s
  refine codeAny_builtin PySem.F.entry_max_loop ?_
  rw [Around.under_plainId PySem.F.plain_max_loop _]
  refine wpAny_bind (wpAny_seqItems hS rfl (wpAny_bind (wpAny_tryCatch (W.item i _ _ _ (by omega) hit fun v hq tk hP st hk => ?_))))
  have ev : v = vy := Option.some.inj ((show its[i]? = some v from hP).symm.trans hy)
  subst ev
  have kk : ∀ d o, d ≠ I → hp.get? d = some o → hq.get? d = some o := fun d o n e => hk d o (fun z => n (List.mem_singleton.mp z)) e
  have g2 := kk S _ hIS hS
  refine wpAny_bind (wpAny_pure ?_)
  show wpAny _ _ (tryCatch (holding [v, v] (richCompare _ v vx >>= _)) _ >>= _) _ _ _
  refine wpAny_bind (wpAny_tryCatch (wpAny_holding (wpAny_bind ((hc hq tk kk) prog w _ _ ?_))))
  refine wpAny_bind (wpAny_holding (wpAny_truthy_bool (wpAny_bind (wpAny_letGo (wpAny_pure ?_)))))
  cases b with
  | true =>
    simp only [if_true]
    refine wpAny_bind (wpAny_updateSeq g2 rfl (wpAny_bind (wpAny_letGo ?_)))
    rw [nm]
    have fr : ∀ d o, d ≠ S → hq.get? d = some o → (hq.update S fun o => { o with data := .seq #[v, v] (c + 1) }).get? d = some o := fun d o n e => (Heap.get?_update_other _ _ (Ne.symm n)).trans e
    refine wpAny_pure ⟨plainId_quiet PySem.F.plain_max_loop _, last v _ _ (W.frame _ _ _ st fun d hd o e => ?_) (Heap.get?_update_self _ g2 rfl) fun h' tk' hk' => ?_⟩
    · refine (Heap.get?_update_other _ _ ?_).trans e
      intro z
      rcases List.mem_cons.mp hd with q | q
      · exact hIS (z.trans q)
      · exact hST (z.trans (List.mem_singleton.mp q))
    · exact hR h' tk' fun d o n1 n2 e => hk' d o n1 n2 ((Heap.get?_update_other _ _ (Ne.symm n2)).trans (kk d o n1 e))
  | false =>
    simp only [Bool.false_eq_true, if_false]
    refine wpAny_bind (wpAny_letGo ?_)
    rw [nm]
    refine wpAny_pure ⟨plainId_quiet PySem.F.plain_max_loop _, last vx _ _ st g2 fun h' tk' hk' => ?_⟩
    exact hR h' tk' fun d o n1 n2 e => hk' d o n1 n2 (kk d o n1 e)

theorem max2_by {Q : Value → Shared → Prop} (hh : A.handled = none)
    (hc : ∀ h' tk, KeepH s.heap h' → Ob.RcOp .Gt A.in1 { s with heap := h', toks := tk } vb va k)
    (hq : ∀ h' tk, KeepH s.heap h' → Q (if k = true then vb else va) { s with heap := h', toks := tk }) :
    wpAny (model prog w) A (call (.builtin "max") [va, vb]) Q E s := by
  have nm : (toString "max" ++ toString ".loop" : String) = "max.loop" := by decide
  obtain ⟨hp, gg, dd, tt, os⟩ := s
  refine call_function_tree PySem.F.kind_max PySem.F.plain_max PySem.F.entry_max (PySem.F.args_max2 _ _) ?_
  refine wpAny_bind (wpAny_of_eq (show Builtin.Builtins.bindParams "max" ["key", "default"] 0 ⟨[], []⟩ = pure [none, none] from rfl) ?_)
  show wpAny _ A.in1 (newTuple [va, vb] >>= _) _ _ _
  have hT : (hp.push { cls := .type "tuple", data := .seq #[va, vb] }).IsTuple hp.objs.size #[va, vb] := ⟨_, Heap.get?_push_size _ rfl, rfl, 0, rfl⟩
  have z1 : (hp.push { cls := .type "tuple", data := .seq #[va, vb] }).objs.size = hp.objs.size + 1 := Heap.size_push ..
  have k1 : KeepH hp (hp.push { cls := .type "tuple", data := .seq #[va, vb] }) := fun c o e => Heap.get?_push_of_some _ e
  refine wpAny_bind (wpAny_newObj_type (wpAny_bind (wpAny_pyIter_tuple hT (wpAny_bind (wpAny_newObj_type ?_)))))
  generalize hp.push { cls := .type "tuple", data := .seq #[va, vb] } = h1 at *
  generalize eT : hp.objs.size = T at *
  generalize eI : h1.objs.size = I at *
  have gI : (h1.push { cls := .type "tuple_iterator", data := .fields #[.ref T, .int 0 0] }).get? I = some { cls := .type "tuple_iterator", data := .fields #[.ref T, .int 0 0] } := by
    rw [← eI]
    exact Heap.get?_push_size _ rfl
  have k2 : KeepH h1 (h1.push { cls := .type "tuple_iterator", data := .fields #[.ref T, .int 0 0] }) := fun c o e => Heap.get?_push_of_some _ e
  have z2 : (h1.push { cls := .type "tuple_iterator", data := .fields #[.ref T, .int 0 0] }).objs.size = I + 1 := by
    rw [← eI]
    exact Heap.size_push ..
  have hIT : T ≠ I := by omega
  obtain ⟨oT, gT, cT, nT, dT⟩ := hT
  generalize h1.push { cls := .type "tuple_iterator", data := .fields #[.ref T, .int 0 0] } = h2 at *
  have gS : (h2.push { cls := .type "list", data := .seq #[] }).get? h2.objs.size = some { cls := .type "list", data := .seq #[] } := Heap.get?_push_size _ rfl
  have k3 : KeepH h2 (h2.push { cls := .type "list", data := .seq #[] }) := fun c o e => Heap.get?_push_of_some _ e
  show wpAny _ _ (pure (Fin.again (Code.builtin (toString "max" ++ toString ".loop") ⟨[.ref I, .none, .ref h2.objs.size], []⟩))) _ _ ⟨h2.push { cls := .type "list", data := .seq #[] }, gg, dd, tt, os⟩
  rw [nm]
  generalize eS : h2.objs.size = S at *
  generalize h2.push { cls := .type "list", data := .seq #[] } = h3 at *
  have hIS : S ≠ I := by
    omega
  have hST : S ≠ T := by omega
  have W := Walks.tuple (prog := prog) (w := w) (A := A.in1) hh I T hIT #[va, vb]
  refine wpAny_pure ⟨plainId_quiet PySem.F.plain_max_loop _, ?_⟩
  refine codeAny_builtin PySem.F.entry_max_loop ?_
  rw [Around.under_plainId PySem.F.plain_max_loop _]
  have st0 : h3.IsTupleIter I T 0 ∧ h3.IsTuple T #[va, vb] := ⟨⟨_, k3 _ _ gI, rfl, rfl⟩, ⟨oT, k3 _ _ (k2 _ _ gT), cT, nT, dT⟩⟩
  refine wpAny_bind (wpAny_seqItems gS rfl (wpAny_bind (wpAny_tryCatch (W.item 0 ⟨h3, gg, dd, tt, os⟩ _ _ (by show 0 < 2; decide) st0 fun v hq' tk hP st hk => ?_))))
  have ev : v = va := (Option.some.inj (show some va = some v from hP)).symm
  subst ev
  refine wpAny_bind (wpAny_pure ?_)
  have kk : ∀ d o, d ≠ I → h3.get? d = some o → hq'.get? d = some o := fun d o n e => hk d o (fun z => n (List.mem_singleton.mp z)) e
  have g2 := kk S _ hIS gS
  show wpAny _ _ (updateSeq S (fun _ => #[v, v]) >>= _) _ _ _
  refine wpAny_bind (wpAny_updateSeq g2 rfl ?_)
  rw [nm]
  have all : ∀ d o, hp.get? d = some o → d ≠ I ∧ d ≠ S ∧ hq'.get? d = some o := fun d o e => by
    have l : d < T := eT ▸ Heap.lt_size e
    have lI : T < I := by omega
    have lS : T < S := by omega
    have n1 : d ≠ I := Nat.ne_of_lt (Nat.lt_trans l lI)
    exact ⟨n1, Nat.ne_of_lt (Nat.lt_trans l lS), kk d o n1 (k3 _ _ (k2 _ _ (k1 _ _ e)))⟩
  refine wpAny_pure ⟨plainId_quiet PySem.F.plain_max_loop _, max_round (i := 1) (its := #[v, vb]) (vy := vb) (vx := v) (T := T) (b := k) hh hIT hIS hST ?_ rfl rfl (Heap.get?_update_self _ g2 rfl) (fun h' tk' kp => ?_) fun h' tk' kp => ?_⟩
  · refine W.frame _ _ _ st fun d hd o e => (Heap.get?_update_other _ _ ?_).trans e
    intro z
    rcases List.mem_cons.mp hd with q | q
    · exact hIS (z.trans q)
    · exact hST (z.trans (List.mem_singleton.mp q))
  · refine hc h' tk' fun d o e => ?_
    obtain ⟨n1, n2, e2⟩ := all d o e
    exact kp d o n1 ((Heap.get?_update_other _ _ (Ne.symm n2)).trans e2)
  · refine hq h' tk' fun d o e => ?_
    obtain ⟨n1, n2, e2⟩ := all d o e
    exact kp d o n1 n2 ((Heap.get?_update_other _ _ (Ne.symm n2)).trans e2)

end
/-! ### min(t, u), max(t, u) of two tuples of ints -/
/-- t < u by the model's own look from place to place -/
def lexP (lt : Int → Int → Bool) (e : Bool) (ns ms : List Int) : Bool := Ob.lexAt (fun j => decide (ns.getD j 0 = ms.getD j 0)) (fun j => lt (ns.getD j 0) (ms.getD j 0)) e 0 (min ns.length ms.length)
section
variable {X : Cx}
theorem tup_ops {s : Shared} {pins : List (Addr × Obj)} {σ : L2.St} {H : Hp} {a b : Addr} {ns ms : List Int} (I : L2.Inv X pins σ H s) (ha : H a = some (.tup (ns.map V.int))) (hb : H b = some (.tup (ms.map V.int))) (hu : X.A.units + 1 < cLine) (h' : Heap) (tk : Nat) (kp : KeepH s.heap h') :
    Ob.RcOp .Lt X.A.in1 { s with heap := h', toks := tk } (.ref a) (.ref b) (lexP (fun x y => decide (x < y)) (decide (ns.length < ms.length)) ns ms) ∧
    Ob.RcOp .Gt X.A.in1 { s with heap := h', toks := tk } (.ref a) (.ref b) (lexP (fun x y => decide (x > y)) (decide (ns.length > ms.length)) ns ms) := by
  obtain ⟨its, r1, p1, _⟩ := I.tuple (SqT.of ha)
  obtain ⟨its2, r2, p2, _⟩ := I.tuple (SqT.of hb)
  have i1 : IntsAre its ns := Vals.ints r1
  have i2 : IntsAre its2 ms := Vals.ints r2
  have e1 : its.toArray.size = ns.length := by rw [List.size_toArray]; exact i1.length
  have e2 : its2.toArray.size = ms.length := by rw [List.size_toArray]; exact i2.length
  obtain ⟨o1, g1, c1, n1, d1⟩ := p1
  obtain ⟨o2, g2, c2, n2, d2⟩ := p2
  have q1 : Heap.IsTuple h' a its.toArray := ⟨o1, kp _ _ g1, c1, n1, d1⟩
  have q2 : Heap.IsTuple h' b its2.toArray := ⟨o2, kp _ _ g2, c2, n2, d2⟩
  have at1 : ∀ j (h1 : j < its.toArray.size), ∃ t, its.toArray[j] = .int (ns.getD j 0) t := fun j h1 => PyProof.Rows.IntsAre.int_at i1 _ _ (by simp at h1; simp [h1])
  have at2 : ∀ j (h1 : j < its2.toArray.size), ∃ t, its2.toArray[j] = .int (ms.getD j 0) t := fun j h1 => PyProof.Rows.IntsAre.int_at i2 _ _ (by simp at h1; simp [h1])
  have eqs : ∀ (B : Around) (s2 : Shared) j (h1 : j < its.toArray.size) (h2 : j < its2.toArray.size), SeqAt.EqAt B s2 its.toArray[j] its2.toArray[j] (decide (ns.getD j 0 = ms.getD j 0)) := fun B s2 j h1 h2 => by
    obtain ⟨t, et⟩ := at1 j h1
    obtain ⟨t', et'⟩ := at2 j h2
    rw [et, et', ← Bool.beq_eq_decide_eq]
    exact SeqAt.EqAt.int_int _ _ _ _
  constructor
  · have R := Ob.RcOp.tuples_lt (A := X.A.in1) (s := { s with heap := h', toks := tk }) (e := fun j => decide (ns.getD j 0 = ms.getD j 0)) (r := fun j => decide (ns.getD j 0 < ms.getD j 0)) q1 q2 hu (eqs _ _) (fun j h1 h2 _ => by
      obtain ⟨t, et⟩ := at1 j h1
      obtain ⟨t', et'⟩ := at2 j h2
      rw [et, et']
      exact Ob.RcOp.lt_int _ _ _ _)
    rw [e1, e2] at R
    exact R
  · have R := Ob.RcOp.tuples_gt (A := X.A.in1) (s := { s with heap := h', toks := tk }) (e := fun j => decide (ns.getD j 0 = ms.getD j 0)) (r := fun j => decide (ns.getD j 0 > ms.getD j 0)) q1 q2 hu (eqs _ _) (fun j h1 h2 _ => by
      obtain ⟨t, et⟩ := at1 j h1
      obtain ⟨t', et'⟩ := at2 j h2
      rw [et, et']
      exact Ob.RcOp.gt_int _ _ _ _)
    rw [e1, e2] at R
    exact R
/-- min(t, u), max(t, u), both tracked tuples of ints: one of the two themselves -/
def rBest (lt : List Int → List Int → Bool) : List V → Hp → VK → Prop := fun xs H Q => ∃ (a b : Addr) (ns ms : List Int), xs = [.ref a, .ref b] ∧ H a = some (.tup (ns.map V.int)) ∧ H b = some (.tup (ms.map V.int)) ∧ Q (.ref (if lt ms ns = true then b else a)) H
theorem call_minT (hc : X.calm = true) (hu : X.A.units + 1 < cLine) : CallR X (.builtin "min") (rBest fun ns ms => lexP (fun x y => decide (x < y)) (decide (ns.length < ms.length)) ns ms) := by
  intro pins s σ H xs us Q I r h
  obtain ⟨a, b, ns, ms, rfl, ha, hb, q⟩ := h
  obtain ⟨u, w', rfl, r1, r2⟩ := vals2 r
  cases r1
  cases r2
  refine min2_by (I.ok.hd hc) (fun h' tk kp => (tup_ops I hb ha hu h' tk kp).1) fun h' tk kp => ⟨_, H, I.kept kp, ?_, q⟩
  split <;> rfl
theorem call_maxT (hc : X.calm = true) (hu : X.A.units + 1 < cLine) : CallR X (.builtin "max") (rBest fun ns ms => lexP (fun x y => decide (x > y)) (decide (ns.length > ms.length)) ns ms) := by
  intro pins s σ H xs us Q I r h
  obtain ⟨a, b, ns, ms, rfl, ha, hb, q⟩ := h
  obtain ⟨u, w', rfl, r1, r2⟩ := vals2 r
  cases r1
  cases r2
  refine max2_by (I.ok.hd hc) (fun h' tk kp => (tup_ops I hb ha hu h' tk kp).2) fun h' tk kp => ⟨_, H, I.kept kp, ?_, q⟩
  split <;> rfl
end
/-! ### f(k = v, ..), keywords alone -/
section
variable {X : Cx} {CX : CXT} {k : Nat} {f : Addr} {fd : FuncData} {ps ks : List Str} {sp : Sp} {x : Str} {p pos : Pos} {E : XK} {tk : TA} {kws : List Keyword} {g : List Value → List Value → List Value} {gV : List V → List V → List V}
theorem pe_callKw (F : FnOk X.prog X.w X.K X.mg X.base CX k f fd ps sp) (hr : Room k X.A) (hg : Gl X x) (hm : X.mg x = some (.ref f)) (hk : PySem.W.keepIn X.K (.ref f) = true) (hb : KBinds X.K fd ps ks g gV) (hx : Passes CX X E)
    (hkw : PK X kws tk) (hall : (backToKw pos (keywordEach kws X.env)).all (·.1.isSome) = true := by rfl) (hks : (backToKw pos (keywordEach kws X.env)).filterMap (·.1) = ks := by rfl)
    (hdb : (x == ("__debug__" : Str)) = false := by decide) (hpl : ((backTo pos (starEach [] X.env)).any (·.1) || (backToKw pos (keywordEach kws X.env)).any (·.1.isNone)) = false := by rfl) :
    PE X (.Call (.Name x p) [] kws pos) (fun σ H Q => tk σ H fun zs H2 => sp (gV [] zs) H2 Q E) := by
  refine ⟨fun pins s σ H Q I h => ?_⟩
  refine wpAny_Call_Name_kw (ld_glob I hg hm ?_ hdb)
  refine PySem.W.callWith_KW0 (h₀ := X.base) I.ok.mod.kin hk hall (thn (hkw.run pos pins s σ H _ I h) fun ws s2 ⟨zs, H2, I2, rz, q2⟩ => ⟨I2.kIn, ?_⟩) hpl
  rw [hks]
  exact run_fnk (us := []) (vs := []) F hr hb hx I2 .nil rz q2
end
/-! ### what a source is, and what a step leaves -/
/-- a source at s: three ints -/
def Src (H : Hp) (s : Addr) : Prop := ∃ a b c : Int, H s = some (.lst [.int a, .int b, .int c])
theorem Src.ne {H : Hp} {s p : Addr} {o : HO} (h : Src H s) (e : H p = some o) (d : ∀ a b c : Int, o ≠ .lst [.int a, .int b, .int c]) : p ≠ s := by
  obtain ⟨a, b, c, q⟩ := h
  exact ne_of e q (d a b c)
theorem Src.nen {H : Hp} {s p : Addr} (h : Src H s) (e : H p = none) : p ≠ s := by
  obtain ⟨a, b, c, q⟩ := h
  exact (ne_of_none q e).symm
/-- from H to H' all stands but the source at s, which is still one -/
structure Stp (s : Addr) (H H' : Hp) : Prop where
  keep : ∀ b o, b ≠ s → H b = some o → H' b = some o
  src : Src H' s
theorem Stp.refl {s : Addr} {H : Hp} (h : Src H s) : Stp s H H := ⟨fun _ _ _ e => e, h⟩
theorem Stp.trans {s : Addr} {H H1 H2 : Hp} (a : Stp s H H1) (b : Stp s H1 H2) : Stp s H H2 := ⟨fun c o n e => b.keep c o n (a.keep c o n e), b.src⟩
theorem Stp.new {s : Addr} {H H' : Hp} {p : Addr} {o : HO} (a : Stp s H H') (n : H' p = none) : Stp s H (upd H' p o) := by
  obtain ⟨x, y, z, e⟩ := a.src
  refine ⟨fun b u nb eb => ?_, x, y, z, ?_⟩
  · have q := a.keep b u nb eb
    rw [upd_ne (ne_of_none q n)]
    exact q
  · rw [upd_ne (ne_of_none e n)]
    exact e
theorem Stp.turn {s : Addr} {H H' : Hp} (a : Stp s H H') (x y z : Int) : Stp s H (upd H' s (.lst [.int x, .int y, .int z])) :=
  ⟨fun b u nb eb => by rw [upd_ne nb]; exact a.keep b u nb eb, x, y, z, upd_same⟩
theorem Stp.free {s p : Addr} {H H' : Hp} (a : Stp s H H') (n : H' p = none) : H p = none := by
  cases q : H p with
  | none => rfl
  | some o =>
    have np : p ≠ s := a.src.nen n
    rw [a.keep _ _ np q] at n
    cases n
theorem Stp.set {s : Addr} {H H' : Hp} {p : Addr} {o : HO} (a : Stp s H H') (n : H p = none) (np : p ≠ s) : Stp s H (upd H' p o) := by
  obtain ⟨x, y, z, e⟩ := a.src
  refine ⟨fun b u nb eb => ?_, x, y, z, ?_⟩
  · rw [upd_ne (ne_of_none eb n)]
    exact a.keep b u nb eb
  · rw [upd_ne np.symm]
    exact e
/-- a site at t -/
def Sit (H : Hp) (t : Addr) (x y : Int) : Prop := H t = some (.tup [.int x, .int y])
theorem Sit.ne {H : Hp} {s t : Addr} {x y : Int} (h : Sit H t x y) (q : Src H s) : t ≠ s := q.ne h fun _ _ _ z => by cases z
theorem Sit.stp {H H' : Hp} {s t : Addr} {x y : Int} (h : Sit H t x y) (q : Src H s) (a : Stp s H H') : Sit H' t x y := a.keep _ _ (h.ne q) h
theorem Sit.same {H H' : Hp} {t : Addr} {x y : Int} (h : Sit H t x y) (a : Same H H') : Sit H' t x y := a _ _ h

theorem b2i_small (b : Bool) : -(2 ^ 64) < (if b = true then (1 : Int) else 0) ∧ (if b = true then (1 : Int) else 0) < 2 ^ 64 := by cases b <;> decide
theorem sm {m : Int} (h : m.natAbs < 2 ^ 64) : m.natAbs < 2 ^ 8000 := Nat.lt_of_lt_of_le h (Nat.pow_le_pow_right (by decide) (by decide))
theorem Same.upd {H : Hp} {p : Addr} {o : HO} (h : H p = none) : Same H (upd H p o) := fun b x e => by
  rw [upd_ne (ne_of_none e h)]
  exact e
theorem Stp.same {s : Addr} {H H1 H2 : Hp} (a : Stp s H H1) (b : Same H1 H2) : Stp s H H2 := by
  obtain ⟨x, y, z, e⟩ := a.src
  exact ⟨fun c o n q => b _ _ (a.keep c o n q), x, y, z, b _ _ e⟩
/-! ### ** 2 and // of great numbers, of either sign -/
def CSq (i j : Int) : Prop := j = 2 ∧ i.natAbs < 2 ^ 1000
theorem op_sq {X : Cx} : OpR X (binaryOp .Pow) (rI CSq fun i _ => .int (i * i)) := opI fun i j _ _ _ _ _ hc q => by
  obtain ⟨rfl, hb⟩ := hc
  refine pow_int (by decide) ?_ (by rw [show i ^ (2 : Int).toNat = i * i from Int.pow_succ i 1 ▸ by rw [Int.pow_one]]; exact q)
  have b : Builtin.Int.intBits i ≤ i.natAbs.log2 + 1 := by
    unfold Builtin.Int.intBits
    split <;> omega
  have l := PySem.Flt.log2_lt_of (by decide : 0 < 1000) hb
  omega
def CDivE (_ j : Int) : Prop := j ≠ 0 ∧ j.natAbs < 2 ^ 8000
theorem op_fdivE {X : Cx} : OpR X (binaryOp .FloorDiv) (rI CDivE fun i j => .int (i.fdiv j)) := opI fun i j _ _ _ _ _ hc q =>
  floordiv_int hc.1 q (.inl (PyProof.noPylong_of_log2 (Nat.lt_of_lt_of_le (PySem.Flt.log2_lt_of (by decide) hc.2) (by decide))))
/-! ### readings made weaker -/
theorem peOf {X : Cx} {e : Expr} {t t' : TE} (h : PE X e t) (m : ∀ σ H Q, t' σ H Q → t σ H Q) : PE X e t' := ⟨fun pins s σ H Q I hw => h.run pins s σ H Q I (m σ H Q hw)⟩
theorem paOf {X : Cx} {es : List Expr} {t t' : TA} (h : PA X es t) (m : ∀ σ H Q, t' σ H Q → t σ H Q) : PA X es t' := ⟨fun pos pins s σ H Q I hw => h.run pos pins s σ H Q I (m σ H Q hw)⟩
theorem psOf {X : Cx} {st : Stmt} {t t' : TS} (h : PS X st t) (m : ∀ D σ H, t' D σ H → t D σ H) : PS X st t' := ⟨fun pins s σ H D I hw => h.run pins s σ H D I (m D σ H hw)⟩
theorem pssOf {X : Cx} {st : List Stmt} {t t' : TS} (h : PSs X st t) (m : ∀ D σ H, t' D σ H → t D σ H) : PSs X st t' := ⟨fun pins s σ H D I hw => h.run pins s σ H D I (m D σ H hw)⟩
/-- a written number with a minus -/
theorem pe_neg {X : Cx} {i : Int} {j : Nat} {p p2 : Pos} : PE X (.UnaryOp .USub (.Constant (.int i) j p) p2) (tC (.int (-i))) := peOf (pe_un un_neg pe_int) fun _ _ _ h => ⟨_, rfl, h⟩
/-! ### displays of sites -/
def Bd (b x y : Int) : Prop := -b ≤ x ∧ x ≤ b ∧ -b ≤ y ∧ y ≤ b
theorem Bd.mono {b c x y : Int} (h : Bd b x y) (l : b ≤ c) : Bd c x y := by
  obtain ⟨h1, h2, h3, h4⟩ := h
  exact ⟨by omega, by omega, by omega, by omega⟩
/-- every address of ps a site within b -/
def Sits (b : Int) (H : Hp) (ps : List Addr) : Prop := ∀ p ∈ ps, ∃ x y, Sit H p x y ∧ Bd b x y
theorem Sits.same {b : Int} {H H' : Hp} {ps : List Addr} (h : Sits b H ps) (a : Same H H') : Sits b H' ps := fun p m => by
  obtain ⟨x, y, e, d⟩ := h p m
  exact ⟨x, y, a _ _ e, d⟩
theorem Sits.stp {b : Int} {s : Addr} {H H' : Hp} {ps : List Addr} (h : Sits b H ps) (q : Src H s) (a : Stp s H H') : Sits b H' ps := fun p m => by
  obtain ⟨x, y, e, d⟩ := h p m
  exact ⟨x, y, e.stp q a, d⟩
theorem Sits.put {b : Int} {H : Hp} {ps : List Addr} {p : Addr} {o : HO} (h : Sits b H ps) (n : ∀ x y, H p ≠ some (.tup [.int x, .int y])) : Sits b (upd H p o) ps := fun r m => by
  obtain ⟨x, y, e, d⟩ := h r m
  refine ⟨x, y, ?_, d⟩
  show upd H p o r = _
  rw [upd_ne (fun z => n x y (by rw [← z]; exact e))]
  exact e
def tSit (b : Int) : TE := fun _ H Q => ∀ (p : Addr) H' (x y : Int), Same H H' → H p = none → Sit H' p x y → Bd b x y → Q (.ref p) H'
def tSits (b : Int) (n : Nat) : TA := fun _ H Q => ∀ (ps : List Addr) H', Same H H' → ps.length = n → Sits b H' ps → Q (ps.map V.ref) H'
theorem two_line : 2 ≤ sizeLine := by decide
theorem pe_sit {X : Cx} {e1 e2 : Expr} {k : Nat} {pos : Pos} {x y b : Int} (h : PA X [e1, e2] (tCons (tC (.int x)) (tCons (tC (.int y)) tNil))) (hb : Bd b x y) : PE X (.Tuple [e1, e2] k pos) (tSit b) :=
  peOf (pe_tup h) fun _ H Q q => ⟨two_line, fun p np => q p _ x y (Same.upd np) np upd_same hb⟩
theorem sits_nil {b : Int} : ∀ σ H Q, tSits b 0 σ H Q → tNil σ H Q := fun _ H Q q => q [] H (Same.refl _) rfl (fun _ m => nomatch m)
theorem sits_cons {b : Int} {n : Nat} : ∀ σ H Q, tSits b (n + 1) σ H Q → tCons (tSit b) (tSits b n) σ H Q := fun _ H Q q p H1 x y s1 _ e d ps H2 s2 l h => by
  refine q (p :: ps) H2 (s1.trans s2) (by rw [List.length_cons, l]) fun r m => ?_
  rcases List.mem_cons.mp m with rfl | m
  · exact ⟨x, y, s2 _ _ e, d⟩
  · exact h r m
theorem pa_sits0 {X : Cx} {b : Int} : PA X [] (tSits b 0) := paOf pa_nil sits_nil
theorem pa_sits {X : Cx} {e : Expr} {es : List Expr} {b : Int} {n : Nat} (h : PE X e (tSit b)) (hs : PA X es (tSits b n)) (st : starEach (e :: es) X.env = (false, eval e X.env) :: starEach es X.env := by rfl) : PA X (e :: es) (tSits b (n + 1)) := paOf (pa_cons h hs st) sits_cons
end Nc


/-! Own rules: math.gcd of three ints. -/
namespace Nc
open PySem PySem.Spec PyProof.Rows L2
section
open PySem.Calls
theorem gcd3_run (a : Int) (t : Tok) (b : Int) (u : Tok) (c : Int) (v : Tok) :
    Gives (Builtin.«math.gcd» ⟨[.int a t, .int b u, .int c v], []⟩) (.int (((((Nat.gcd 0 a.natAbs).gcd b.natAbs).gcd c.natAbs : Nat) : Int))) :=
  .of_wp fun M A E s Q h => by obtain ⟨hp, g, d, tk, os⟩ := s; wp_walk; exact ⟨_, rfl, h⟩
theorem gcd3_args (a b c : Value) : argsOk "math.gcd" ⟨[a, b, c], []⟩ := by unfold argsOk; kernel_rfl
end
section
variable {X : Cx}
def rGcd3 : List V → Hp → VK → Prop := fun vs H Q => ∃ a b c : Int, vs = [.int a, .int b, .int c] ∧ Q (.int ((Nat.gcd (Nat.gcd a.natAbs b.natAbs) c.natAbs : Nat) : Int)) H
theorem cr_gcd3 : CallR X (.builtin "math.gcd") rGcd3 := by
  intro pins s σ H vs us Q I r h
  obtain ⟨a, b, c, rfl, q⟩ := h
  cases r with
  | cons r1 r => cases r with
    | cons r2 r => cases r with
      | cons r3 r =>
        cases r
        obtain ⟨t1, rfl⟩ := r1
        obtain ⟨t2, rfl⟩ := r2
        obtain ⟨t3, rfl⟩ := r3
        have g := gcd3_run a t1 b t2 c t3
        rw [Nat.gcd_zero_left] at g
        exact call_function_meets PySem.W.MGF.kind_gcd PySem.W.MGF.plain_gcd PySem.W.MGF.entry_gcd (gcd3_args _ _ _) g.meets ⟨.int _, H, I.tok _, ⟨_, rfl⟩, q⟩
end
end Nc

/-! Own rules: small steps that answer what a term asks: used by the local macros of walk.txt. -/
namespace Nc
open PySem PySem.Spec PyProof.Rows L2
section
variable {K : PySem.W.Frag} {H : Hp} {Q : VK} {p q : Addr} {xs ys : List V} {i j : Int} {v x y : V}
theorem w_ixT (h : H p = some (.tup xs)) (e : atI xs i = some v) (z : Q v H) : rIxT K (.ref p) (.int i) H Q := ⟨_, _, _, _, rfl, rfl, SqT.of h, e, z⟩
theorem w_ixL (h : H p = some (.lst xs)) (e : atI xs i = some v) (z : Q v H) : rIxL K (.ref p) (.int i) H Q := ⟨_, _, _, _, rfl, rfl, SqL.of h, e, z⟩
theorem w_gtup {n : Nat} {t : TGs} {σ : L2.St} {Qs : L2.St → Hp → Prop} (h : H p = some (.tup xs)) (e : xs.length = n) (z : t xs σ H Qs) : gTup K n t (.ref p) σ H Qs := ⟨_, _, rfl, SqT.of h, e, z⟩
theorem w_itt {p A B : Prop} [Decidable p] (h : p) (a : A) : if decide p = true then A else B := by
  rw [decide_eq_true h, if_pos rfl]
  exact a
theorem w_itf {p A B : Prop} [Decidable p] (h : ¬ p) (b : B) : if decide p = true then A else B := by
  rw [decide_eq_false h, if_neg (by decide)]
  exact b
theorem w_ntt {p A B : Prop} [Decidable p] (h : p) (b : B) : if (!decide p) = true then A else B := by
  rw [decide_eq_true h, if_neg (by decide)]
  exact b
theorem w_ntf {p A B : Prop} [Decidable p] (h : ¬ p) (a : A) : if (!decide p) = true then A else B := by
  rw [decide_eq_false h, if_pos (by decide)]
  exact a
theorem w_ifd {p A B : Prop} [Decidable p] (h1 : p → A) (h2 : ¬ p → B) : if decide p = true then A else B := by
  by_cases h : p
  · exact w_itt h (h1 h)
  · exact w_itf h (h2 h)
theorem w_ifnd {p A B : Prop} [Decidable p] (h1 : p → B) (h2 : ¬ p → A) : if (!decide p) = true then A else B := by
  by_cases h : p
  · exact w_ntt h (h1 h)
  · exact w_ntf h (h2 h)
theorem w_if {c : Bool} {A B : Prop} (h1 : c = true → A) (h2 : c = false → B) : if c = true then A else B := by
  cases c
  · exact h2 rfl
  · exact h1 rfl
end
/-! bits -/
theorem nbm {a b : Int} {k : Nat} (ha : a.natAbs < 2 ^ (k / 2)) (hb : b.natAbs < 2 ^ (k / 2)) : (a * b).natAbs < 2 ^ k := by
  have h : a.natAbs * b.natAbs < 2 ^ (k / 2) * 2 ^ (k / 2) := Nat.mul_lt_mul'' ha hb
  rw [Int.natAbs_mul]
  rw [← Nat.pow_add] at h
  exact Nat.lt_of_lt_of_le h (Nat.pow_le_pow_right (by decide) (by omega))
theorem nba {a b : Int} {k : Nat} (h : 0 < k) (ha : a.natAbs < 2 ^ (k - 1)) (hb : b.natAbs < 2 ^ (k - 1)) : (a + b).natAbs < 2 ^ k := by
  obtain ⟨m, rfl⟩ : ∃ m, k = m + 1 := ⟨k - 1, by omega⟩
  rw [Nat.add_sub_cancel] at ha hb
  rw [Nat.pow_succ]
  omega
theorem nbs {a b : Int} {k : Nat} (h : 0 < k) (ha : a.natAbs < 2 ^ (k - 1)) (hb : b.natAbs < 2 ^ (k - 1)) : (a - b).natAbs < 2 ^ k := by
  obtain ⟨m, rfl⟩ : ∃ m, k = m + 1 := ⟨k - 1, by omega⟩
  rw [Nat.add_sub_cancel] at ha hb
  rw [Nat.pow_succ]
  omega
theorem nbn {a : Int} {k : Nat} (ha : a.natAbs < 2 ^ k) : (-a).natAbs < 2 ^ k := by rwa [Int.natAbs_neg]
theorem nbu {a : Int} {j k : Nat} (ha : a.natAbs < 2 ^ j) (h : j ≤ k) : a.natAbs < 2 ^ k := Nat.lt_of_lt_of_le ha (Nat.pow_le_pow_right (by decide) h)
theorem nbd {a b : Int} {k : Nat} (ha : a.natAbs < 2 ^ k) : (a.fdiv b).natAbs < 2 ^ (k + 1) := by
  rw [Nat.pow_succ]
  have h := ha
  rcases Int.lt_trichotomy b 0 with hb | hb | hb
  · have e : a.fdiv b = (-a).fdiv (-b) := (Int.neg_fdiv_neg a b).symm
    rw [e, Int.fdiv_eq_ediv_of_nonneg _ (by omega)]
    have := Int.natAbs_ediv_le_natAbs (-a) (-b)
    omega
  · subst hb
    rw [Int.fdiv_zero]
    omega
  · rw [Int.fdiv_eq_ediv_of_nonneg _ (by omega)]
    have := Int.natAbs_ediv_le_natAbs a b
    omega
theorem cmw {a b : Int} (ha : a.natAbs < 2 ^ 8000) (hb : b.natAbs < 2 ^ 8000) : CMulW a b := wide_mul ha hb (by decide) (by decide) (by decide)
end Nc

/-! Own rules: a def of the text with all that a caller needs, in one. -/
namespace Nc
open PySem PySem.Spec PyProof.Rows L2
/-- the def x as it stands behind the top -/
structure Df (K : PySem.W.Frag) (mg : Str → Option Value) (x : Str) (st : Stmt) (ps : List Str) : Prop where
  ex : ∃ (f : Addr) (fd : FuncData), Fun K x x st f fd ∧ mg x = some (.ref f) ∧ PySem.W.keepIn K (.ref f) = true ∧ Binds K fd ps []
/-- the def x keeps its promise -/
structure Cl (P : Program) (w : World) (K : PySem.W.Frag) (mg : Str → Option Value) (base : Heap) (CX : CXT) (x : Str) (k : Nat) (ps : List Str) (sp : Sp) : Prop where
  ex : ∃ (f : Addr) (fd : FuncData), FnOk P w K mg base CX k f fd ps sp ∧ mg x = some (.ref f) ∧ PySem.W.keepIn K (.ref f) = true ∧ Binds K fd ps []
section
variable {P : Program} {w : World} {K : PySem.W.Frag} {mg : Str → Option Value} {base : Heap} {CX : CXT} {x : Str} {k : Nat} {ps : List Str} {sp : Sp} {st : Stmt}
theorem Df.mk' {f : Addr} {fd : FuncData} (F : Fun K x x st f fd) (g : mg x = some (.ref f)) (k : PySem.W.keepIn K (.ref f) = true) (b : Binds K fd ps []) : Df K mg x st ps := ⟨f, fd, F, g, k, b⟩
theorem Df.cl (D : Df K mg x st ps) (h : ∀ f fd, Fun K x x st f fd → FnOk P w K mg base CX k f fd ps sp) : Cl P w K mg base CX x k ps sp := by
  obtain ⟨f, fd, F, g, kk, b⟩ := D.ex
  exact ⟨f, fd, h f fd F, g, kk, b⟩
theorem Cl.imp {sp' : Sp} (C : Cl P w K mg base CX x k ps sp) (h : ∀ vs H Q E, sp' vs H Q E → sp vs H Q E) : Cl P w K mg base CX x k ps sp' := by
  obtain ⟨f, fd, F, g, kk, b⟩ := C.ex
  exact ⟨f, fd, F.imp h, g, kk, b⟩
theorem Cl.up {j : Nat} (C : Cl P w K mg base CX x j ps sp) (h : j ≤ k) : Cl P w K mg base CX x k ps sp := by
  obtain ⟨f, fd, F, g, kk, b⟩ := C.ex
  exact ⟨f, fd, F.mono h, g, kk, b⟩
end
section
variable {X : Cx} {CX : CXT} {k : Nat} {ps : List Str} {sp : Sp} {E : XK} {x : Str} {p pos : Pos} {e : Expr} {es : List Expr} {t : TA}
theorem pe_cl (C : Cl X.prog X.w X.K X.mg X.base CX x k ps sp) (hr : Room k X.A) (hg : Gl X x) (hx : Passes CX X E) (ha : PA X (e :: es) t) (hdb : (x == ("__debug__" : Str)) = false := by decide) (he : starEach (e :: es) X.env = (false, eval e X.env) :: starEach es X.env := by rfl) (hpl : (backTo pos (starEach es X.env)).any (·.1) = false := by rfl) :
    PE X (.Call (.Name x p) (e :: es) [] pos) (tCall sp [] E t) := by
  obtain ⟨f, fd, F, g, kk, b⟩ := C.ex
  exact pe_call F hr hg g kk b .nil hx ha hdb he hpl
theorem pe_cl0 (C : Cl X.prog X.w X.K X.mg X.base CX x k ps sp) (hr : Room k X.A) (hg : Gl X x) (hx : Passes CX X E) (hdb : (x == ("__debug__" : Str)) = false := by decide) : PE X (.Call (.Name x p) [] [] pos) (tCall sp [] E tNil) := by
  obtain ⟨f, fd, F, g, kk, b⟩ := C.ex
  exact pe_call0 F hr hg g kk b .nil hx hdb
end
/-! ### tuples of ints that are compared -/
section
variable {K : PySem.W.Frag} {H : Hp} {Q : VK} {p q : Addr} {ns ms : List Int}
theorem dpa_ints : ∀ (ns : List Int), DpAll K H (ns.map V.int) (ns.map PyData.int)
  | [] => .nil
  | n :: ns => .cons (.int n) (dpa_ints ns)
theorem dp_ints (h : H p = some (.tup (ns.map V.int))) : Dp K H (.ref p) (.tuple (ns.map PyData.int)) := .tup (SqT.of h) (dpa_ints ns)
theorem dpl_ints (h : H p = some (.lst (ns.map V.int))) : Dp K H (.ref p) (.list (ns.map PyData.int)) := .lst (SqL.of h) (dpa_ints ns)
theorem eqva_ints : ∀ (ns ms : List Int), PyData.eqvAll (ns.map PyData.int) (ms.map PyData.int) = decide (ns = ms)
  | [], [] => rfl
  | [], m :: ms => rfl
  | n :: ns, [] => rfl
  | n :: ns, m :: ms => by
    have ih := eqva_ints ns ms
    simp only [List.map_cons, PyData.eqvAll, PyData.eqv]
    rw [ih]
    by_cases e : n = m
    · subst e
      simp
    · simp [e]
theorem eqv_ints (ns ms : List Int) : PyData.eqv (.tuple (ns.map PyData.int)) (.tuple (ms.map PyData.int)) = decide (ns = ms) := by
  rw [← eqva_ints ns ms]
  simp only [PyData.eqv]
theorem shaped_all : ∀ ns : List Int, PyData.canLayAll0 (ns.map PyData.int) = true ∧ PyData.depthAll (ns.map PyData.int) = 0
  | [] => ⟨rfl, rfl⟩
  | n :: ns => by
    obtain ⟨h1, h2⟩ := shaped_all ns
    simp only [List.map_cons, PyData.canLayAll0, PyData.canLay0, PyData.depthAll, PyData.depth, h1, h2]
    exact ⟨rfl, rfl⟩
theorem shaped_ints (ns : List Int) : SeqAt.shaped (.tuple (ns.map PyData.int)) = true := by
  obtain ⟨h1, h2⟩ := shaped_all ns
  simp only [SeqAt.shaped, PyData.canLay0, PyData.depth, h1, h2]
  rfl
theorem shapedl_ints (ns : List Int) : SeqAt.shaped (.list (ns.map PyData.int)) = true := by
  obtain ⟨h1, h2⟩ := shaped_all ns
  simp only [SeqAt.shaped, PyData.canLay0, PyData.depth, h1, h2]
  rfl
/-- two tuples of ints, a != b, a == b -/
theorem w_neT (h : H p = some (.tup (ns.map V.int))) (h2 : H q = some (.tup (ms.map V.int))) (z : Q (.bl (!decide (ns = ms))) H) : rNeD K (.ref p) (.ref q) H Q := ⟨_, _, dp_ints h, dp_ints h2, shaped_ints _, shaped_ints _, by rw [eqv_ints]; exact z⟩
theorem w_eqT (h : H p = some (.tup (ns.map V.int))) (h2 : H q = some (.tup (ms.map V.int))) (z : Q (.bl (decide (ns = ms))) H) : rEqD K (.ref p) (.ref q) H Q := ⟨_, _, dp_ints h, dp_ints h2, shaped_ints _, shaped_ints _, by rw [eqv_ints]; exact z⟩
theorem w_neT' (h : H p = some (.tup (ns.map V.int))) (h2 : H q = some (.tup (ms.map V.int))) (e : ns = ms) (z : Q (.bl false) H) : rNeD K (.ref p) (.ref q) H Q := w_neT h h2 (by rw [decide_eq_true e]; exact z)
theorem w_eqT' (h : H p = some (.tup (ns.map V.int))) (h2 : H q = some (.tup (ms.map V.int))) (e : ns = ms) (z : Q (.bl true) H) : rEqD K (.ref p) (.ref q) H Q := w_eqT h h2 (by rw [decide_eq_true e]; exact z)
theorem eqvl_ints (ns ms : List Int) : PyData.eqv (.list (ns.map PyData.int)) (.list (ms.map PyData.int)) = decide (ns = ms) := by
  rw [← eqva_ints ns ms]
  simp only [PyData.eqv]
end
section
theorem all_flat (zs : List Int) : (zs.map V.int).all flatV = true := by
  induction zs with
  | nil => rfl
  | cons z zs ih => simpa [flatV] using ih
theorem inV_ints (z : Int) (zs : List Int) : inV (V.int z) (zs.map V.int) = decide (z ∈ zs) := by
  induction zs with
  | nil => rfl
  | cons y zs ih =>
    unfold inV at *
    rw [List.map_cons, List.any_cons, ih]
    simp [eqV]
    by_cases h : y = z
    · subst h; simp
    · have : ¬ z = y := fun e => h e.symm
      simp [h, this]
theorem int_at {zs : List Int} {i : Nat} {x : V} (h : (zs.map V.int)[i]? = some x) : ∃ z, zs[i]? = some z ∧ x = .int z := by
  rw [List.getElem?_map] at h
  obtain ⟨z, e, e2⟩ := Option.map_eq_some_iff.mp h
  exact ⟨z, e, e2.symm⟩
end
end Nc

/-! Own rules: sets of tuples of ints: set(), t in s (not there), s.add(t), len(s). -/
namespace Nc
open PySem PySem.Spec PyProof.Rows L2
def run0 (m : Nat) (h : Int) : SetTable.Probe := runAt m (SetTable.bits h % (m + 1)) (SetTable.bits h)
theorem dummy_nth (m : Nat) : ∀ (n : Nat) (p : SetTable.Probe), p.dummy = none → (nth m p n).dummy = none
  | 0, _, e => e
  | n + 1, p, e => dummy_nth m n (adv m p) (by unfold adv; split <;> exact e)
section
variable {P : Program} {w : World} {A : Around} {E : Value → Shared → Prop} {s : Shared} {a : Addr} {L : List (Addr × List Int)} {es : Array (Int × Value)} {ep : Nat} {t : SetTable}
abbrev hashOf (es : Array (Int × Value)) : Nat → Int := fun i => (es[i]?.map (·.1)).getD 0
/-- from the c-th place of the way on, of a key that isn't there -/
theorem probe_free (R : SetTR P w s.heap a L es ep t) {h : Int} {K c : Nat} (far : K < 10 * SetTable.turns t.mask) (free : way t.mask h K ∉ t.place.toList) (full : ∀ d, d < K → way t.mask h d ∈ t.place.toList) (le : c ≤ K) :
    (∃ q i p, c + q < K ∧ L[i]? = some p ∧ t.place.toList[i]? = some (way t.mask h (c + q)) ∧ t.probe (hashOf es) h (nth t.mask (run0 t.mask h) c) = some (.candidate (way t.mask h (c + q)) i (nth t.mask (run0 t.mask h) (c + q + 1)))) ∨
    t.probe (hashOf es) h (nth t.mask (run0 t.mask h) c) = some (.empty (way t.mask h K) none) := by
  have sh : ∀ q, nth t.mask (nth t.mask (run0 t.mask h) c) q = nth t.mask (run0 t.mask h) (c + q) := fun q => (nth_add t.mask c _ q).symm
  have wj : ∀ q, (nth t.mask (nth t.mask (run0 t.mask h) c) q).j = way t.mask h (c + q) := fun q => congrArg SetTable.Probe.j (sh q)
  have back : c + (K - c) = K := by omega
  rcases go_spec t R.tab.ris R.tab.dm (hashOf es) h (10 * SetTable.turns t.mask) (K - c) (nth t.mask (run0 t.mask h) c) (dummy_nth _ _ _ rfl) (by omega) (fun q hq => by rw [wj]; exact full _ (by omega)) (by rw [wj, back]; exact free) with ⟨q, i, hq, hi, _, _, e⟩ | ⟨_, e⟩
  · rw [wj] at hi
    have il : i < L.length := by
      have l1 : i < t.place.toList.length := (List.getElem?_eq_some_iff.mp hi).1
      have l2 := R.tab.sz
      rw [List.length_map] at l2
      rw [Array.length_toList, l2] at l1
      exact l1
    refine .inl ⟨q, i, L[i], by omega, List.getElem?_eq_getElem il, hi, ?_⟩
    rw [wj, sh] at e
    exact e
  · rw [wj, back] at e
    exact .inr e
theorem mem_at {α : Type} {l : List α} {i : Nat} {p : α} (e : l[i]? = some p) : p ∈ l := List.mem_of_getElem? e
/-- a search for what isn't there ends at the free place -/
theorem search_free (R : SetTR P w s.heap a L es ep t) {x : Addr} {k : List Int} (hx : IsT P w s.heap k x) (room : A.units < cLine) (out : k ∉ L.map (·.2)) {K : Nat} (far : K < 10 * SetTable.turns t.mask)
    (free : way t.mask (thash P w k) K ∉ t.place.toList) (full : ∀ d, d < K → way t.mask (thash P w k) d ∈ t.place.toList) {Q : SetFound → Shared → Prop} (q : ∀ j, Q (.free j false) s) :
    ∀ (f c : Nat) (stand : Option SetTable.Probe), stand.getD (t.probeStart (thash P w k)) = nth t.mask (run0 t.mask (thash P w k)) c → c ≤ K → K < c + f →
      wpAny (model P w) A (setSearchFrom a (.ref x) (thash P w k) false f stand) Q E s := by
  obtain ⟨o, ho, _, hd⟩ := R.ob
  intro f
  induction f with
  | zero =>
    intro c stand _ le lt
    exact absurd lt (by omega)
  | succ f ih =>
    intro c stand e le lt
    rw [setSearchFrom_succ]
    refine wpAny_bind (wpAny_setState_of ho hd R.fits ?_)
    dsimp only
    refine wp_if_neg R.gw ?_
    try refine wpAny_bind (wpAny_pure ?_)
    rw [e]
    rcases probe_free R far free full le with ⟨m, i, p, lt2, at_, pl, z⟩ | z
    · rw [z]
      dsimp only
      have hp := R.tup p (mem_at at_)
      have ne : p.2 ≠ k := fun b => out (List.mem_map.mpr ⟨p, mem_at at_, b⟩)
      have go : wpAny (model P w) A (searchRest a (.ref x) (thash P w k) false f es t (way t.mask (thash P w k) (c + m)) i (nth t.mask (run0 t.mask (thash P w k)) (c + m + 1))) Q E s := by
        unfold searchRest
        rw [R.entry at_]
        dsimp only
        refine wpAny_bind (wpAny_holding (wpAny_eqBool_tuple room hp hx ?_))
        refine wpAny_bind (wpAny_setState_of ho hd R.fits ?_)
        dsimp only
        refine wp_if_neg Bool.false_ne_true ?_
        try refine wpAny_bind (wpAny_pure ?_)
        rw [sameMem]
        dsimp only
        simp only [if_true, slot_live R.tab.ris pl, R.entry at_]
        refine wpAny_bind (wpAny_isSame_ref_self (wpAny_bind (wpAny_pure ?_)))
        simp only [if_true]
        refine wp_if_neg (by simp [ne]) ?_
        exact ih (c + m + 1) _ rfl (by omega) (by omega)
      by_cases led : t.led = true
      · refine wp_if_neg (by simp [led]) ?_
        try refine wpAny_bind (wpAny_pure ?_)
        exact go
      · refine wp_if_pos (by simp [led]) ?_
        refine wpAny_bind (seen_tup hx (fun y my => ?_) ?_)
        · obtain ⟨r, mr, er⟩ := List.mem_map.mp my
          have m1 : r ∈ es ∧ r.1 = thash P w k := by simpa using mr
          have m2 : r ∈ es.toList := by simpa using m1.1
          rw [R.rows] at m2
          obtain ⟨u, mu, eu⟩ := List.mem_map.mp m2
          exact ⟨u.2, u.1, by rw [← er, ← eu], R.tup u mu⟩
        · refine wp_if_neg (by decide) ?_
          try refine wpAny_bind (wpAny_pure ?_)
          exact go
    · rw [z]
      dsimp only
      exact wpAny_pure (q _)
/-- the search that a membership asks for: nothing -/
theorem find_free (R : SetTR P w s.heap a L es ep t) {x : Addr} {k : List Int} (hx : IsT P w s.heap k x) (room : A.units < cLine) (out : k ∉ L.map (·.2)) {Q : Option Nat → Shared → Prop} (q : Q none s) :
    wpAny (model P w) A (setFind a (.ref x) (thash P w k)) Q E s := by
  obtain ⟨o, ho, _, hd⟩ := R.ob
  have far := R.room
  obtain ⟨K, k1, k2, k3⟩ := R.tab.first (by rw [List.length_map]; omega) (thash P w k)
  have big : 10 * SetTable.turns t.mask ≤ 1420 := by
    unfold SetTable.turns
    rcases R.tab.mok with e | e | e <;> omega
  unfold setFind; rw [show (100000 : Nat) = 99999 + 1 from rfl]; unfold setFindIn
  refine wpAny_bind (wpAny_setState_of ho hd R.fits ?_)
  dsimp only
  refine wp_if_neg (by simp [byScan, Value.scannable]) ?_
  try refine wpAny_bind (wpAny_pure ?_)
  unfold setSearch
  refine wpAny_bind (search_free R hx room out k1 k2 k3 (fun j => ?_) 100000 0 none rfl (Nat.zero_le _) (by omega))
  dsimp only
  exact wpAny_pure q
/-- t in s, t not there -/
theorem contains_free (R : SetTR P w s.heap a L es ep t) {x : Addr} {k : List Int} (hx : IsT P w s.heap k x) (room : A.units + 1 < cLine) (out : k ∉ L.map (·.2)) {Q : Value → Shared → Prop} (q : ∀ tk, Q (.bool false) { s with toks := tk }) :
    wpAny (model P w) A (compareOp .In (.ref x) (.ref a)) Q E s := by
  have ty : s.TypeIs (.ref a) "set" := let ⟨o, ho, hc, _⟩ := R.ob; ⟨o, ho, hc.1⟩
  show wpAny _ _ (do return .bool (← contains (.ref a) (.ref x))) Q E s
  refine wpAny_bind ?_; unfold contains; (try with_reducible refine wpAny_holding ?_); refine wpAny_bind (wpAny_specialOf ty F.slot_set_contains.lookup ?_)
  show wpAny _ _ (if (some (Value.builtin "set.__contains__") == some Value.none) = true then _ else _) _ E s
  rw [if_neg (by rw [beq_builtin_none]; decide)]
  refine wpAny_bind (wpAny_callSpecialUnlessNone?_slot (name := Str.ofString "__contains__") ty F.slot_set_contains (wpAny_call_entry F.slot_set_contains ty entry_set_contains ?_ (F.args_set_contains_2 _ _)))
  unfold Builtin.«frozenset.__contains__» Builtin.Frozenset.oneOther; simp only [List.isEmpty_nil, bind_assoc]; unfold Builtin.Frozenset.addrOf Builtin.Frozenset.withSetAsKey setContains
  refine wpAny_bind (wpAny_pure ?_); (try dsimp only); refine wpAny_bind (wpAny_pure ?_); (try dsimp only); refine wpAny_bind (wpAny_tryCatch (wpAny_holding ?_))
  refine wpAny_bind (wpAny_pyHash_tuple (by exact room) hx (wpAny_bind (find_free (s := { s with toks := s.toks + (k.length + 1) }) ⟨R.ob, R.rows, R.tab, R.nd, R.tup, R.plain, R.led, R.room, R.few⟩ hx (by exact room) out (wpAny_pure ?_))))
  show wpAny _ _ (ret (Value.bool false)) _ _ _
  exact wpAny_pure ⟨_, rfl, wpAny_truthy_bool (wpAny_pure (q _))⟩
/-- s.add(t) -/
theorem adds (R : SetTR P w s.heap a L es ep t) {x : Addr} {k : List Int} (hx : IsT P w s.heap k x) (room : A.units + 1 < cLine) (few : L.length + 1 < 64) {Q : Value → Shared → Prop}
    (q : ∀ h' L' es' ep' t' tk, Heap.SameBut a s.heap h' → SetTR P w h' a L' es' ep' t' → (k ∈ L.map (·.2) → L' = L) → (k ∉ L.map (·.2) → L'.Perm ((x, k) :: L)) → Q .none { s with heap := h', toks := tk }) :
    wpAny (model P w) A (call (.builtin "set.add") [.ref a, .ref x]) Q E s := by
  have ty : s.TypeIs (.ref a) "set" := let ⟨o, ho, hc, _⟩ := R.ob; ⟨o, ho, hc.1⟩
  refine wpAny_call_entry F.slot_set_add ty F.entry_set_add ?_ (F.args_set_add_2 _ _)
  unfold Builtin.«set.add» Builtin.Frozenset.oneOther; simp only [List.isEmpty_nil, bind_assoc]; unfold Builtin.Frozenset.addrOf setAdd
  refine wpAny_bind (wpAny_pure ?_); (try dsimp only); refine wpAny_bind (wpAny_pure ?_); (try dsimp only); refine wpAny_bind (wpAny_holding ?_)
  refine wpAny_bind (wpAny_pyHash_tuple (by exact room) hx ?_)
  refine add_at (s := { s with toks := s.toks + (k.length + 1) }) ⟨R.ob, R.rows, R.tab, R.nd, R.tup, R.plain, R.led, R.room, R.few⟩ hx (by exact room) few fun b h' L' es' ep' t' sb R' c1 c2 => ?_
  show wpAny _ _ (ret Value.none) _ _ _
  exact wpAny_pure ⟨_, rfl, q h' L' es' ep' t' _ sb R' c1 c2⟩
end
section
variable {X : Cx}
/-- set() -/
def rSet0T (P : Program) (w : World) : List V → Hp → VK → Prop := fun xs H Q => xs = [] ∧ ∀ p, H p = none → Q (.ref p) (upd H p (SetTO P w p []))
theorem cr_set0T : CallR X (.type "set") (rSet0T X.prog X.w) := by
  intro pins s σ H xs us Q I r h
  obtain ⟨rfl, q⟩ := h
  cases r
  refine setR_new fun _ => ?_
  have new : SetT0 X.prog X.w (s.heap.push { cls := .type "set", dict := none, data := .set #[] 0 (.fresh 0 0 (!X.w.params.followText "set-order")) }) s.heap.objs.size [] := (setTR_fresh (Heap.get?_push_size _ rfl)).t0
  exact ⟨.ref _, upd H s.heap.objs.size (SetTO X.prog X.w s.heap.objs.size []), I.laid (t' := s.toks) (fun b u e => Heap.get?_push_of_some _ e) (Nat.le_refl _) (setTO_new new), rfl, q _ (I.hok.fresh (Nat.le_refl _))⟩
/-- t in s, t a tuple of ints that isn't there -/
def rNotIn (K : PySem.W.Frag) (P : Program) (w : World) : V → V → Hp → VK → Prop := fun x y H Q => ∃ (b a : Addr) (k : List Int) (L : List (Addr × List Int)), x = .ref b ∧ y = .ref a ∧ SqT K H b (k.map V.int) ∧ H a = some (SetTO P w a L) ∧ (∀ p ∈ L, SqT K H p.1 (p.2.map V.int)) ∧ k ∉ L.map (·.2) ∧ Q (.bl false) H
theorem op_notIn (hu : X.A.units + 1 < cLine) : OpR X (compareOp .In) (rNotIn X.K X.prog X.w) := by
  intro pins s σ H x y v u Q I rx ry h
  obtain ⟨b, a, k, L, rfl, rfl, hb, ha, hL, out, q⟩ := h
  cases rx
  cases ry
  have R0 : SetT0 X.prog X.w s.heap a L := (I.hok a _ ha).1
  obtain ⟨es, ep, t, R⟩ := R0.full fun p hp => I.isT (hL p hp)
  exact contains_free R (I.isT hb) hu out fun tk => ⟨.bl false, H, I.tok _, rfl, q⟩
/-- s.add(t), t a tuple of ints that isn't there -/
def tSAddT (K : PySem.W.Frag) (P : Program) (w : World) (to : TE) (t : TA) : TE := fun σ H Q => to σ H fun x H1 => (∃ a L, x = V.ref a ∧ H1 a = some (SetTO P w a L) ∧ ∀ p ∈ L, SqT K H1 p.1 (p.2.map V.int)) ∧ t σ H1 fun xs H2 => ∃ (a b : Addr) (k : List Int) (L : List (Addr × List Int)), x = .ref a ∧ xs = [.ref b] ∧ SqT K H2 b (k.map V.int) ∧ H2 a = some (SetTO P w a L) ∧ (∀ p ∈ L, SqT K H2 p.1 (p.2.map V.int)) ∧ k ∉ L.map (·.2) ∧ L.length + 1 < 64 ∧
  ∀ L', L'.Perm ((b, k) :: L) → Q .non (upd H2 a (SetTO P w a L'))
variable {o e : Expr} {es : List Expr} {to : TE} {t : TA} {apos cpos : Pos}
theorem pe_saddT (hu : X.A.units + 1 < cLine) (ho : PE X o to) (ha : PA X (e :: es) t)
    (hbase : attributeBase o "add" X.env (eval o X.env) = eval o X.env := by rfl)
    (hfew : ((backTo cpos (starEach (e :: es) X.env)).all (fun x => !x.1) && (backToKw cpos (keywordEach [] X.env)).all (fun x => x.1.isSome) && decide ((e :: es).length + ([] : List Keyword).length + (if ([] : List Keyword).isEmpty then 0 else 1) < 30)) = true := by rfl)
    (hline : (apos.endLine == cpos.line) = true := by rfl) (hs : starEach (e :: es) X.env = (false, eval e X.env) :: starEach es X.env := by rfl) (hplain : (backTo cpos (starEach es X.env)).any (·.1) = false := by rfl) :
    PE X (.Call (.Attribute o "add" apos) (e :: es) [] cpos) (tSAddT X.K X.prog X.w to t) := by
  refine ⟨fun pins s σ H Q I h => wpAny_Call_method_late hbase hfew hline rfl (thn (ho.run pins s σ H _ I h) fun v s1 ⟨x, H1, I1, r1, ⟨a, L, ex, hL, hT⟩, q1⟩ => ?_)⟩
  subst ex
  cases r1
  have R1 : SetT0 X.prog X.w s1.heap a L := (I1.hok a _ hL).1
  have ty : s1.TypeIs (.ref a) "set" := let ⟨_, _, _, ⟨o, ho, hc, _⟩, _⟩ := R1.ex; ⟨o, ho, hc.1⟩
  refine ⟨"set", "set.add", F.plainAttrs_set, F.slot_set_add, F.type_set_add, ty, ?_, ?_⟩
  · rintro b eb; cases eb; obtain ⟨_, _, _, ⟨o, ho, hc, _⟩, _⟩ := R1.ex; exact ⟨o, ho, hc.2.1⟩
  have hA := ha.run cpos pins s1 σ H1 _ I1 q1
  rw [hs] at hA ⊢
  refine Calls.callWith_builtin (by show (false || (backTo cpos (starEach es X.env)).any (·.1)) = false; rw [hplain]; rfl) (Calls.evalArgs_plain ?_)
  refine thn hA fun us s2 ⟨vs, H2, I2, r2, a', b, k, L2, e1, e2, hb, hL2, hT2, out, few, q2⟩ => ?_
  cases e1
  subst e2
  rw [Vals.ref1 r2]
  have R0 : SetT0 X.prog X.w s2.heap a L2 := (I2.hok a _ hL2).1
  obtain ⟨es, ep, tt, R⟩ := R0.full fun p hp => I2.isT (hT2 p hp)
  refine adds R (I2.isT hb) hu few fun h' L' es' ep' t' tk sb R' _ c2 => ?_
  have he : ∃ u, h'.get? a = some u := let ⟨o, ho, _⟩ := R'.ob; ⟨o, ho⟩
  exact ⟨.non, upd H2 a (SetTO X.prog X.w a L'), I2.write (e := a) (t' := tk) (by rw [hL2]; trivial) (.inl rfl) (fun c u hc hu => (sb.2 c hc).trans hu) he (setTO_new R'.t0), rfl, q2 L' (c2 out)⟩
end
end Nc

/-! Own rules: min(d), d a dict with pairs of ints as keys; d.setdefault(t, x) of such. -/
namespace Nc
open PySem PySem.Spec PyProof.Rows L2
section
variable {prog : Program} {w : World} {A : Around} {R : Result → Shared → Prop} {I S : Addr} {fp wr : List Addr} {n : Nat} {P : Nat → Value → Prop} {St : Nat → Heap → Prop} {h0 : Heap} {bt : Nat → Nat → Bool}
/-- a walk's steps leave an older heap as it was -/
theorem keep_walk {h h' : Heap} (old : ∀ b ∈ wr, h0.get? b = none) (k : KeepH h0 h) (k' : ∀ b o, b ∉ wr → h.get? b = some o → h'.get? b = some o) : KeepH h0 h' := fun c o e =>
  k' c o (fun m => by rw [old c m] at e; cases e) (k c o e)
theorem keep_at {h : Heap} {g : Obj → Obj} (old : h0.get? S = none) (k : KeepH h0 h) : KeepH h0 (h.update S g) := fun c o e =>
  (Heap.get?_update_other _ _ (fun z => by rw [← z, old] at e; cases e)).trans (k c o e)
/-- min's loop from its (j + 1)-th item on: what is compared may stand in the heap -/
theorem min_rounds (W : Walks prog w A.in1 I fp wr n P St) (cmp : ∀ i j vi vj (s : Shared), KeepH h0 s.heap → P i vi → P j vj → Ob.RcOp .Lt A.in1 s vi vj (bt i j)) (out : S ∉ fp) (old : ∀ b ∈ wr, h0.get? b = none) (oldS : h0.get? S = none) :
    ∀ (k j : Nat) (s : Shared) (best : Value) (c : Nat), k + (j + 1) = n → St (j + 1) s.heap → KeepH h0 s.heap → P (argBest bt j) best → s.heap.get? S = some { cls := .type "list", dict := none, data := .seq #[best, best] c, slots := #[] } →
      (∀ v h' tk, P (argBest bt (n - 1)) v → KeepH h0 h' → R (.ok (.ret v)) { s with heap := h', toks := tk }) → codeAny (model prog w) A (.builtin "min.loop" ⟨[.ref I, .none, .ref S], []⟩) R s := by
  have outW : S ∉ wr := fun m => out (W.sub _ m)
  have nm : (toString "min" ++ toString ".loop" : String) = "min.loop" := by decide
  intro k
  induction k with
  | zero =>
    intro j s best c e st kp pb hS fin
    have jn : j + 1 = n := by omega
    subst jn
    refine codeAny_builtin F.entry_min_loop ?_; rw [Around.under_plainId F.plain_min_loop _]
    refine wpAny_bind (wpAny_seqItems hS rfl (wpAny_bind (wpAny_tryCatch (W.done s _ _ st fun h' tk k' => ?_))))
    refine wpAny_bind (wpAny_updateSeq (k' S _ outW hS) rfl (wpAny_bind (wpAny_letGo (wpAny_pure ?_))))
    exact fin best _ tk pb (keep_at oldS (keep_walk old kp k'))
  | succ k ih =>
    intro j s best c e st kp pb hS fin
    refine codeAny_builtin F.entry_min_loop ?_; rw [Around.under_plainId F.plain_min_loop _]
    refine wpAny_bind (wpAny_seqItems hS rfl (wpAny_bind (wpAny_tryCatch (W.item (j + 1) s _ _ (by omega) st fun v h' tk pv st' k' => ?_))))
    have hS' := k' S _ outW hS
    have kp' := keep_walk old kp k'
    refine wpAny_bind (wpAny_pure ?_)
    show wpAny _ _ (tryCatch (holding [v, v] (richCompare _ v best >>= _)) _ >>= _) _ _ _
    refine wpAny_bind (wpAny_tryCatch (wpAny_holding (wpAny_bind ((cmp (j + 1) (argBest bt j) v best _ kp' pv pb) prog w _ _ ?_))))
    refine wpAny_bind (wpAny_holding (wpAny_truthy_bool (wpAny_bind (wpAny_letGo (wpAny_pure ?_)))))
    cases hb : bt (j + 1) (argBest bt j) with
    | true =>
      simp only [if_true]
      refine wpAny_bind (wpAny_updateSeq hS' rfl (wpAny_bind (wpAny_letGo ?_))); rw [nm]
      refine wpAny_pure ⟨plainId_quiet F.plain_min_loop _, ih (j + 1) _ v _ (by omega) (W.frame _ _ _ st' fun b m o eb => (Heap.get?_update_other _ _ (fun z : S = b => out (by rw [z]; exact m))).trans eb) (keep_at oldS kp') (by unfold argBest; rw [hb]; exact pv) (Heap.get?_update_self _ hS' rfl) fun u h2 tk2 pu k2 => fin u h2 tk2 pu k2⟩
    | false =>
      simp only [Bool.false_eq_true, if_false]
      refine wpAny_bind (wpAny_letGo ?_); rw [nm]
      refine wpAny_pure ⟨plainId_quiet F.plain_min_loop _, ih (j + 1) _ best c (by omega) st' kp' (by unfold argBest; rw [hb]; exact pb) hS' fun u h2 tk2 pu k2 => fin u h2 tk2 pu k2⟩
end
section
variable {prog : Program} {w : World} {A : Around} {E : Value → Shared → Prop} {s : Shared}
/-- min of a walk -/
theorem min_over {x : Value} {Q : Value → Shared → Prop} {n : Nat} {P : Nat → Value → Prop} {bt : Nat → Nat → Bool} (n0 : 0 < n) (cmp : ∀ i j vi vj (s2 : Shared), KeepH s.heap s2.heap → P i vi → P j vj → Ob.RcOp .Lt A.in1 s2 vi vj (bt i j))
    (h : wpAny (model prog w) A.in1 (pyIter x) (fun it s2 => ∃ I fp wr St, it = .ref I ∧ Walks prog w A.in1 I fp wr n P St ∧ St 0 s2.heap ∧ (∀ b ∈ fp, b < s2.heap.objs.size) ∧ (∀ b ∈ wr, s.heap.get? b = none) ∧ KeepH s.heap s2.heap ∧ s.heap.objs.size ≤ s2.heap.objs.size ∧
      ∀ v h' tk, P (argBest bt (n - 1)) v → KeepH s.heap h' → Q v { s2 with heap := h', toks := tk }) E s) : wpAny (model prog w) A (call (.builtin "min") [x]) Q E s := by
  have nm : (toString "min" ++ toString ".loop" : String) = "min.loop" := by decide
  refine call_function_tree F.kind_min F.plain_min F.entry_min (F.args_min1 _) ?_
  refine wpAny_bind (wpAny_of_eq (show Builtin.Builtins.bindParams "min" ["key", "default"] 0 ⟨[], []⟩ = pure [none, none] from rfl) (wpAny_bind (wpAny_pure (wpAny_bind (wpAny_mono h (fun it s2 q => ?_) fun _ _ e => e)))))
  obtain ⟨I, fp, wr, St, rfl, W, st, inF, old, kp, sz, fin⟩ := q
  refine wpAny_bind (wpAny_newObj_type ?_); rw [nm]
  have out : s2.heap.objs.size ∉ fp := fun m => Nat.lt_irrefl _ (inF _ m)
  have outW : s2.heap.objs.size ∉ wr := fun m => out (W.sub _ m)
  have oldS : s.heap.get? s2.heap.objs.size = none := by
    cases z : s.heap.get? s2.heap.objs.size with
    | none => rfl
    | some o => exact absurd (Nat.lt_of_lt_of_le (Heap.lt_size z) sz) (Nat.lt_irrefl _)
  refine wpAny_pure ⟨plainId_quiet F.plain_min_loop _, ?_⟩
  refine codeAny_builtin F.entry_min_loop ?_; rw [Around.under_plainId F.plain_min_loop _]
  have hS : (s2.heap.push { cls := .type "list", data := .seq #[] }).get? s2.heap.objs.size = some { cls := .type "list", data := .seq #[] } := Heap.get?_push_size _ rfl
  have kp1 : KeepH s.heap (s2.heap.push { cls := .type "list", data := .seq #[] }) := fun c o e => Heap.get?_push_of_some _ (kp c o e)
  refine wpAny_bind (wpAny_seqItems hS rfl (wpAny_bind (wpAny_tryCatch (W.item 0 { s2 with heap := s2.heap.push { cls := .type "list", data := .seq #[] } } _ _ n0 (W.frame _ _ _ st fun b _ o e => Heap.get?_push_of_some _ e) fun v h' tk pv st' k' => ?_))))
  have hS' := k' _ _ outW hS
  refine wpAny_bind (wpAny_pure ?_)
  show wpAny _ _ (updateSeq s2.heap.objs.size (fun _ => #[v, v]) >>= _) _ _ _
  refine wpAny_bind (wpAny_updateSeq hS' rfl ?_); rw [nm]
  refine wpAny_pure ⟨plainId_quiet F.plain_min_loop _, min_rounds (h0 := s.heap) W cmp out old oldS (n - 1) 0 _ v _ (by omega) (W.frame _ _ _ st' fun b m o e => (Heap.get?_update_other _ _ (fun z => out (by rw [z]; exact m))).trans e) (keep_at oldS (keep_walk old kp1 k')) pv (Heap.get?_update_self _ hS' rfl) fun u h2 tk2 pu k2 => fin u h2 tk2 pu k2⟩
/-- the walk over a dict's keys, as they stand -/
theorem walks_keys (hh : A.handled = none) {I d : Addr} (ne : d ≠ I) {od : Obj} {es : Array DictEntry} {ep : Nat} (hd : od.data = .dict es ep) :
    Walks prog w A I [I, d] [I] es.size (fun i v => ∃ en, es[i]? = some en ∧ v = en.key) (fun i h => h.IsKeyIter I d i es.size ep ∧ h.get? d = some od) where
  sub := fun b m => by rw [List.mem_singleton.mp m]; exact List.mem_cons_self
  frame := fun i h h' st k => ⟨st.1.at fun o e => k I List.mem_cons_self o e, k d (List.mem_cons_of_mem _ List.mem_cons_self) _ st.2⟩
  item := fun i s Q E lt st q => next_key_item st.1 st.2 hd rfl (Array.getElem?_eq_getElem lt) fun h' st' sb => q _ h' s.toks ⟨_, Array.getElem?_eq_getElem lt, rfl⟩ ⟨st', (sb.2 d ne).trans st.2⟩ fun b o m e => (sb.2 b fun z => m (by rw [z]; exact List.mem_cons_self)).trans e
  done := fun s Q E st q => next_key_end hh st.1 st.2 hd rfl (Nat.le_refl _) fun h' x => q h' s.toks fun b o m e => x b o (fun z => m (by rw [z]; exact List.mem_cons_self)) e
  self := fun i s Q E st q => wpAny_pyIter_keyiter st.1 q
end
/-- t < u of two tracked tuples, in any state that keeps what stood -/
theorem tup_less {X : Cx} {s s2 : Shared} {pins : List (Addr × Obj)} {σ : L2.St} {H : Hp} {a b : Addr} {ns ms : List Int} (I : L2.Inv X pins σ H s) (ha : H a = some (.tup (ns.map V.int))) (hb : H b = some (.tup (ms.map V.int))) (hu : X.A.units + 1 < cLine) (kp : KeepH s.heap s2.heap) :
    Ob.RcOp .Lt X.A.in1 s2 (.ref a) (.ref b) (lexP (fun x y => decide (x < y)) (decide (ns.length < ms.length)) ns ms) := by
  obtain ⟨us, r1, ⟨o1, g1, c1, n1, d1⟩, _⟩ := I.tuple (SqT.of ha)
  obtain ⟨vs, r2, ⟨o2, g2, c2, n2, d2⟩, _⟩ := I.tuple (SqT.of hb)
  have i1 : IntsAre us ns := Vals.ints r1
  have i2 : IntsAre vs ms := Vals.ints r2
  have at1 : ∀ j (h1 : j < us.toArray.size), ∃ t, us.toArray[j] = .int (ns.getD j 0) t := fun j h1 => IntsAre.int_at i1 _ _ (by simp at h1; simp [h1])
  have at2 : ∀ j (h1 : j < vs.toArray.size), ∃ t, vs.toArray[j] = .int (ms.getD j 0) t := fun j h1 => IntsAre.int_at i2 _ _ (by simp at h1; simp [h1])
  have R := Ob.RcOp.tuples_lt (A := X.A.in1) (s := s2) (e := fun j => decide (ns.getD j 0 = ms.getD j 0)) (r := fun j => decide (ns.getD j 0 < ms.getD j 0)) ⟨o1, kp _ _ g1, c1, n1, d1⟩ ⟨o2, kp _ _ g2, c2, n2, d2⟩ hu (fun j h1 h2 => by
    obtain ⟨t, et⟩ := at1 j h1
    obtain ⟨u, eu⟩ := at2 j h2
    rw [et, eu, ← Bool.beq_eq_decide_eq]
    exact SeqAt.EqAt.int_int _ _ _ _) (fun j h1 h2 _ => by
    obtain ⟨t, et⟩ := at1 j h1
    obtain ⟨u, eu⟩ := at2 j h2
    rw [et, eu]
    exact Ob.RcOp.lt_int _ _ _ _)
  rw [List.size_toArray, List.size_toArray, i1.length, i2.length] at R
  exact R
/-! the order of pairs -/
def lexLe (p q : Int × Int) : Prop := p.1 < q.1 ∨ (p.1 = q.1 ∧ p.2 ≤ q.2)
instance (p q : Int × Int) : Decidable (lexLe p q) := by unfold lexLe; infer_instance
theorem lexLe.trans {p q r : Int × Int} (a : lexLe p q) (b : lexLe q r) : lexLe p r := by unfold lexLe at *; omega
theorem lexLe.refl (p : Int × Int) : lexLe p p := .inr ⟨rfl, Int.le_refl _⟩
theorem lexLe.total (p q : Int × Int) : lexLe p q ∨ lexLe q p := by unfold lexLe; omega
theorem lexLe.anti {p q : Int × Int} (a : lexLe p q) (b : lexLe q p) : p = q := by
  unfold lexLe at *
  exact Prod.ext (by omega) (by omega)
theorem lexP_pair (p q : Int × Int) : lexP (fun x y => decide (x < y)) (decide ((2 : Nat) < 2)) [p.1, p.2] [q.1, q.2] = decide (¬ lexLe q p) := by
  show (if decide (p.1 = q.1) = true then (if decide (p.2 = q.2) = true then decide ((2 : Nat) < 2) else decide (p.2 < q.2)) else decide (p.1 < q.1)) = _
  unfold lexLe
  by_cases a : p.1 = q.1
  · rw [if_pos (decide_eq_true a)]
    by_cases b : p.2 = q.2
    · rw [if_pos (decide_eq_true b), decide_eq_false (by omega), decide_eq_false (by omega)]
    · rw [if_neg (by simpa using b)]
      by_cases c : p.2 < q.2
      · rw [decide_eq_true c, decide_eq_true (by omega)]
      · rw [decide_eq_false c, decide_eq_false (by omega)]
  · rw [if_neg (by simpa using a)]
    by_cases c : p.1 < q.1
    · rw [decide_eq_true c, decide_eq_true (by omega)]
    · rw [decide_eq_false c, decide_eq_false (by omega)]
theorem argBest_le (f : Nat → Int × Int) : ∀ k, argBest (fun i j => decide (¬ lexLe (f j) (f i))) k ≤ k ∧ ∀ i, i ≤ k → lexLe (f (argBest (fun i j => decide (¬ lexLe (f j) (f i))) k)) (f i)
  | 0 => ⟨Nat.le_refl _, fun i h => by rw [Nat.le_zero.mp h]; exact lexLe.refl _⟩
  | k + 1 => by
    obtain ⟨h1, h2⟩ := argBest_le f k
    unfold argBest
    by_cases c : lexLe (f (argBest (fun i j => decide (¬ lexLe (f j) (f i))) k)) (f (k + 1))
    · rw [if_neg (by simpa using c)]
      refine ⟨by omega, fun i hi => ?_⟩
      by_cases e : i = k + 1
      · rw [e]; exact c
      · exact h2 i (by omega)
    · rw [if_pos (by simpa using c)]
      refine ⟨Nat.le_refl _, fun i hi => ?_⟩
      by_cases e : i = k + 1
      · rw [e]; exact lexLe.refl _
      · rcases lexLe.total (f (argBest (fun i j => decide (¬ lexLe (f j) (f i))) k)) (f (k + 1)) with z | z
        · exact absurd z c
        · exact z.trans (h2 i (by omega))
section
variable {X : Cx}
/-- a key of two ints -/
def k2 (p : Int × Int) : List L2.Key := [Sum.inl p.1, Sum.inl p.2]
def rMinT : List V → Hp → VK → Prop := fun vs H Q => ∃ (a : Addr) (kvs : List (List L2.Key × V)) (ps : List (Int × Int)), vs = [V.ref a] ∧ H a = some (.dT kvs) ∧ kvs.map (·.1) = ps.map k2 ∧ ps ≠ [] ∧
  ∀ (q : Addr) (p : Int × Int), p ∈ ps → (∀ p' ∈ ps, lexLe p p') → H q = some (.tup [.int p.1, .int p.2]) → Q (.ref q) H
theorem cr_minT (hc : X.calm = true) (hu : X.A.units + 1 < cLine) : CallR X (.builtin "min") rMinT := by
  intro pins s σ H vs us Q I r h
  obtain ⟨a, kvs, ps, rfl, ha, hk, hne, q⟩ := h
  rw [Vals.ref1 r]
  obtain ⟨_, hsys, xs, rel, o, es, ep, ho, hx, hd, he, _⟩ := dt_of I.hok ha
  have hes : es.size = ps.length := by
    have e1 := congrArg List.length he
    have e2 := Paired.length rel
    have e3 := congrArg List.length hk
    rw [List.length_map] at e1
    rw [List.length_map, List.length_map] at e3
    rw [Array.length_toList] at e1
    omega
  have ent : ∀ (i : Nat) (v : Value), (∃ en, es[i]? = some en ∧ v = en.key) → ∃ b, v = .ref b ∧ i < ps.length ∧ H b = some (.tup [.int (ps.getD i (0, 0)).1, .int (ps.getD i (0, 0)).2]) := by
    rintro i v ⟨en, e1, rfl⟩
    have lt : i < ps.length := by
      rw [← hes]
      exact (Array.getElem?_eq_some_iff.mp e1).1
    have lk : i < kvs.length := by
      have e3 := congrArg List.length hk
      rw [List.length_map, List.length_map] at e3
      omega
    obtain ⟨b, hb, e4, e5, _⟩ := paired_get rel (List.getElem?_eq_getElem lk)
    have z := entry_at he i
    rw [hb] at z
    have z2 : es[i]? = some (entryOfKey (tupleKind (mixKind X.prog X.w)) b) := z
    rw [e1] at z2
    have z3 := Option.some.inj z2
    have ek : kvs[i].1 = k2 (ps.getD i (0, 0)) := by
      have w := congrArg (fun l => l[i]?) hk
      simp only [List.getElem?_map, List.getElem?_eq_getElem lk, List.getElem?_eq_getElem lt, Option.map_some] at w
      rw [Option.some.inj w, List.getD_eq_getElem?_getD, List.getElem?_eq_getElem lt]
      rfl
    refine ⟨b.2.1, by rw [z3]; rfl, lt, ?_⟩
    rw [e5, ek]
    rfl
  have n0 : 0 < es.size := by
    rw [hes]
    exact List.length_pos_iff.mpr hne
  refine min_over (n := es.size) (P := fun i v => ∃ en, es[i]? = some en ∧ v = en.key) (bt := fun i j => decide (¬ lexLe (ps.getD j (0, 0)) (ps.getD i (0, 0)))) n0 (fun i j vi vj s2 kp pi pj => ?_) (iter_keys hsys ho hx hd ?_)
  · obtain ⟨b, rfl, _, hb⟩ := ent i vi pi
    obtain ⟨c, rfl, _, hc'⟩ := ent j vj pj
    have z := (tup_less (ns := [(ps.getD i (0, 0)).1, (ps.getD i (0, 0)).2]) (ms := [(ps.getD j (0, 0)).1, (ps.getD j (0, 0)).2]) I hb hc' hu kp)
    have e2 : lexP (fun x y => decide (x < y)) (decide ([(ps.getD i (0, 0)).1, (ps.getD i (0, 0)).2].length < [(ps.getD j (0, 0)).1, (ps.getD j (0, 0)).2].length)) [(ps.getD i (0, 0)).1, (ps.getD i (0, 0)).2] [(ps.getD j (0, 0)).1, (ps.getD j (0, 0)).2] = decide (¬ lexLe (ps.getD j (0, 0)) (ps.getD i (0, 0))) := lexP_pair _ _
    rw [e2] at z
    exact z
  · have lt := Heap.lt_size ho
    refine ⟨s.heap.objs.size, _, _, _, rfl, walks_keys (prog := X.prog) (w := X.w) (A := X.A.in1) (I.ok.hd hc) (Nat.ne_of_lt lt) hd, ⟨⟨_, Heap.get?_push_size _ rfl, rfl, rfl⟩, Heap.get?_push_of_some _ ho⟩, fun b m => ?_, fun b m => ?_, fun c o e => Heap.get?_push_of_some _ e, ?_, fun v h' tk pv kp => ?_⟩
    · show b < (s.heap.push _).objs.size
      rw [Heap.size_push]
      rcases List.mem_cons.mp m with e | m
      · rw [e]; exact Nat.lt_succ_self _
      · rw [List.mem_singleton.mp m]; exact Nat.lt_succ_of_lt lt
    · rw [List.mem_singleton.mp m]
      cases z : s.heap.get? s.heap.objs.size with
      | none => rfl
      | some o => exact absurd (Heap.lt_size z) (Nat.lt_irrefl _)
    · show _ ≤ (s.heap.push _).objs.size
      rw [Heap.size_push]
      omega
    · obtain ⟨b, rfl, lt2, hb⟩ := ent _ v pv
      obtain ⟨b1, b2⟩ := argBest_le (fun i => ps.getD i (0, 0)) (es.size - 1)
      have at_ : ∀ i, i < ps.length → ps.getD i (0, 0) ∈ ps := fun i hi => by
        rw [List.getD_eq_getElem?_getD, List.getElem?_eq_getElem hi]
        exact List.getElem_mem hi
      refine ⟨.ref b, H, I.kept (t' := tk) fun c o e => kp c o e, rfl, q b _ (at_ _ lt2) (fun p' m => ?_) hb⟩
      obtain ⟨i, hi, e⟩ := List.mem_iff_getElem.mp m
      have e2 : ps.getD i (0, 0) = p' := by rw [List.getD_eq_getElem?_getD, List.getElem?_eq_getElem hi, ← e]; rfl
      rw [← e2]
      exact b2 i (by omega)
end
end Nc

/-! Own rules: d.setdefault(t, x) of a dict with tuples as keys; len(s) of a set of tuples. -/
namespace Nc
open PySem PySem.Spec PyProof.Rows L2
section
variable {X : Cx} {pins : List (Addr × Obj)} {σ : L2.St} {H : Hp} {s : Shared} {a b : Addr} {r : Value} {z : V} {ks : List L2.Key} {A : Around} {E : Value → Shared → Prop}
theorem setd_tup {kvs : List (List L2.Key × V)} {Q : Value → Shared → Prop} (hu : A.units + 1 < cLine) (I : L2.Inv X pins σ H s) (e : H a = some (.dT kvs)) (eb : H b = some (.tup (ks.map kV))) (rz : RelV z r) (room : kvs.length < sizeLine)
    (old : ∀ v, valV kvs ks = some v → ∀ w' s', L2.Inv X pins σ H s' → RelV v w' → Q w' s') (new : valV kvs ks = none → ∀ s', L2.Inv X pins σ (upd H a (.dT (putK kvs ks z))) s' → Q r s') :
    wpAny (model X.prog X.w) A (call (.builtin "dict.setdefault") [.ref a, .ref b, r]) Q E s := by
  obtain ⟨len, sys, xs, rel, dd⟩ := dt_of I.hok e
  have lx : xs.length ≤ sizeLine := by rw [← Paired.length rel]; exact len
  refine call_setdefault_heap (hsz := lx) (knd := tupleKind (mixKind X.prog X.w)) (tupleKind_room_in1 hu) (key_of I.hok eb) sys dd (fun p hp => ?_) fun hn h' dd' hs => ?_
  · have q := rel.val ks
    rw [hp] at q
    cases ev : valV kvs ks with
    | none => rw [ev] at q; exact (show False from q).elim
    | some v => rw [ev] at q; exact old v ev _ _ (I.tok _) q
  · have q := rel.val ks
    rw [hn] at q
    have ev : valV kvs ks = none := by
      cases ev : valV kvs ks with
      | none => rfl
      | some v => rw [ev] at q; exact (show False from q).elim
    have l2 : (putK kvs ks z).length ≤ sizeLine := Nat.le_trans (length_putK kvs ks z) room
    obtain ⟨o, es, ep, ho, c1, c2, c3, _, c4⟩ := dd'
    refine new ev _ (d_write I (by rw [e]; exact True.intro) hs ⟨o, ho⟩ ⟨l2, sys, _, (rel.put ks eb rz).keeps fun c ys ec => ?_, o, es, ep, ho, c1, c2, c3, c4⟩)
    rw [upd_ne (ne_of ec e (fun z => nomatch z))]; exact ec
end
/-- d.setdefault(t, x) -/
def tDSetdT (td ty tx : TE) : TE := fun σ H Q => td σ H fun x H1 => ∃ a, x = .ref a ∧ IsD H1 a ∧ ty σ H1 fun y H2 => tx σ H2 fun z H3 => ∃ (kvs : List (List L2.Key × V)) (ks : List L2.Key) (b : Addr), H3 a = some (.dT kvs) ∧ y = .ref b ∧ H3 b = some (.tup (ks.map kV)) ∧ kvs.length < sizeLine ∧
  (∀ v, valV kvs ks = some v → Q v H3) ∧ (valV kvs ks = none → Q z (upd H3 a (.dT (putK kvs ks z))))
theorem pe_dsetdT {X : Cx} {o e f : Expr} {td ty tx : TE} {apos cpos : Pos} (hu : X.A.units + 1 < cLine) (ho : PE X o td) (he : PE X e ty) (hf : PE X f tx) (m : M2 X o "setdefault" apos e f cpos) : PE X (.Call (.Attribute o "setdefault" apos) [e, f] [] cpos) (tDSetdT td ty tx) := by
  constructor
  intro pins s σ H Q I h
  refine wpAny_Call_method m.base m.few m.line PySem.F.plainAttrs_dict PySem.F.slot_dict_setdefault PySem.F.type_dict_setdefault (thn (ho.run pins s σ H _ I h) ?_)
  rintro u s1 ⟨x, H1, I1, rx, a, rfl, d, q1⟩
  cases rx
  obtain ⟨t1, t2, _⟩ := isD_at I1 d
  refine ⟨t1, t2, ?_⟩; rw [m.trees]
  refine Calls.callWith_builtin rfl (Calls.evalArgs_plain (Calls.spliced_cons (thn (he.run pins s1 σ H1 _ I1 q1) ?_)))
  rintro iv s2 ⟨y, H2, I2, ry, q2⟩
  refine Calls.spliced_cons (thn (hf.run pins s2 σ H2 _ I2 q2) ?_)
  rintro fv s3 ⟨z, H3, I3, rz, kvs, ks, b, ea, rfl, eb, room, q3, q4⟩
  cases ry
  exact Calls.spliced_nil (setd_tup hu I3 ea eb rz room (fun v hv w' s4 I4 rw' => ⟨v, _, I4, rw', q3 v hv⟩) fun hn s4 I4 => ⟨z, _, I4, rz, q4 hn⟩)
/-- len(s), s a set of tuples -/
def rLenT2 (P : Program) (w : World) : List V → Hp → VK → Prop := fun vs H Q => ∃ (a : Addr) (L : List (Addr × List Int)), vs = [.ref a] ∧ H a = some (SetTO P w a L) ∧ Q (.int (L.length : Nat)) H
theorem call_len_setT {X : Cx} : CallR X (.builtin "len") (rLenT2 X.prog X.w) := by
  intro pins s σ H xs us Q I r h
  obtain ⟨a, L, rfl, ha, q⟩ := h
  rw [Vals.ref1 r]
  have R0 : SetT0 X.prog X.w s.heap a L := (I.hok a _ ha).1
  obtain ⟨es, ep, t, ⟨o, ho, hex, hd⟩, rows, tab, _, _, _, room, few⟩ := R0.ex
  have sz : es.size = L.length := by
    have h := congrArg List.length rows
    unfold rowsOf at h
    rw [Array.length_toList, List.length_map] at h
    exact h
  have fits : t.fits es.size = true := by
    have h1 := tab.sz
    rw [List.length_map] at h1
    unfold SetTable.fits SetTable.fill
    rw [tab.dm, Bool.and_eq_true, beq_iff_eq, decide_eq_true_eq]
    show t.place.size = es.size ∧ t.place.size + 0 ≤ t.mask
    omega
  refine call_len_set ho hex hd fits (by omega) ?_
  rw [sz]
  exact ⟨.int (L.length : Nat), H, I.tok _, ⟨_, rfl⟩, q⟩
end Nc

/-! Own rules: readings with heaps that are told by what is true of them alone; walks over enumerate; sorted sites. -/
namespace Nc
open PySem PySem.Spec PyProof.Rows L2
section
variable {X : Cx}
def tTupG (t : TA) : TE := fun σ H Q => t σ H fun vs H1 => vs.length ≤ sizeLine ∧ ∀ p H2, Same H1 H2 → H1 p = none → H2 p = some (.tup vs) → Q (.ref p) H2
def tLstG (t : TA) : TE := fun σ H Q => t σ H fun vs H1 => vs.length ≤ sizeLine ∧ ∀ p H2, Same H1 H2 → H1 p = none → H2 p = some (.lst vs) → Q (.ref p) H2
def tDicG : TE := fun _ H Q => ∀ p H2, Same H H2 → H p = none → H2 p = some (.dK []) → Q (.ref p) H2
theorem pe_tupG {es : List Expr} {k : Nat} {pos : Pos} {t : TA} (h : PA X es t) : PE X (.Tuple es k pos) (tTupG t) := ⟨fun pins s σ H Q I w => by
  have step := h.run pos pins s σ H _ I w
  refine wpAny_Tuple_spliced (thn step fun us s1 got => ?_)
  rcases got with ⟨vs, H1, I1, rv, len, q⟩
  refine ⟨rv.length ▸ len, ?_⟩
  have free : H1 s1.heap.objs.size = none := I1.hok.fresh (Nat.le_refl _)
  have new : ObjOk X.prog X.w (upd H1 s1.heap.objs.size (.tup vs)) (s1.heap.push { cls := .type "tuple", data := .seq us.toArray }) s1.heap.objs.size (.tup vs) := ⟨len, us, rv, _, Heap.get?_push_size _ rfl, rfl, _, rfl⟩
  exact ⟨.ref _, _, I1.laid (t' := s1.toks) (fun _ _ e => Heap.get?_push_of_some _ e) (Nat.le_refl _) new, rfl, q _ _ (Same.upd free) free upd_same⟩⟩
theorem pe_lstG {es : List Expr} {pos : Pos} {t : TA} (h : PA X es t) : PE X (.List es pos) (tLstG t) := ⟨fun pins s σ H Q I w => by
  have step := h.run pos pins s σ H _ I w
  refine wpAny_List_spliced (thn step fun us s1 got => ?_)
  rcases got with ⟨vs, H1, I1, rv, len, q⟩
  refine ⟨rv.length ▸ len, ?_⟩
  have free : H1 s1.heap.objs.size = none := I1.hok.fresh (Nat.le_refl _)
  have new : ObjOk X.prog X.w (upd H1 s1.heap.objs.size (.lst vs)) (s1.heap.push { cls := .type "list", data := .seq us.toArray 0 }) s1.heap.objs.size (.lst vs) := ⟨len, us, 0, rv, Heap.get?_push_size _ rfl⟩
  exact ⟨.ref _, _, I1.laid (t' := s1.toks) (fun _ _ e => Heap.get?_push_of_some _ e) (Nat.le_refl _) new, rfl, q _ _ (Same.upd free) free upd_same⟩⟩
theorem pe_dicG {pos : Pos} : PE X (.Dict [] [] pos) tDicG := peOf pe_dnewK fun σ H Q q p np => q p _ (Same.upd np) np upd_same
def rCatG : R2 := fun x y H Q => ∃ l b xs zs, x = .ref l ∧ y = .ref b ∧ H l = some (.lst xs) ∧ H b = some (.lst zs) ∧ xs.length + zs.length ≤ sizeLine ∧ ∀ p H2, Same H H2 → H p = none → H2 p = some (.lst (xs ++ zs)) → Q (.ref p) H2
theorem op_catG : OpR X (binaryOp .Add) rCatG := fun pins s σ H x y v u Q I rx ry w => by
  rcases w with ⟨l, b, xs, zs, e1, e2, h1, h2, z, q⟩
  exact op_cat pins s σ H x y v u Q I rx ry ⟨l, b, xs, zs, e1, e2, h1, h2, z, fun p np => q p _ (Same.upd np) np upd_same⟩
def tDnTG : TE := fun _ H Q => ∀ p H2, Same H H2 → H p = none → H2 p = some (.dT []) → Q (.ref p) H2
theorem pe_dnTG {pos : Pos} : PE X (.Dict [] [] pos) tDnTG := peOf pe_dnewT fun σ H Q q p np => q p _ (Same.upd np) np upd_same
def unref : V → Addr
  | .ref t => t
  | _ => 0
theorem unref_map : ∀ {ys : List V}, (∀ y ∈ ys, ∃ t, y = V.ref t) → ys = (ys.map unref).map V.ref
  | [], _ => rfl
  | y :: ys, h => by
    obtain ⟨t, rfl⟩ := h y List.mem_cons_self
    rw [List.map_cons, List.map_cons, ← unref_map fun z m => h z (List.mem_cons_of_mem _ m)]
    rfl
/-- sorted(xs), xs a list of pairs of ints, f the ints at each address -/
def rSortS (K : PySem.W.Frag) : List V → Hp → VK → Prop := fun vs H Q => ∃ (a : Addr) (ts : List Addr) (f : Addr → Int × Int), vs = [V.ref a] ∧ SqL K H a (ts.map V.ref) ∧ (∀ t ∈ ts, H t = some (.tup [.int (f t).1, .int (f t).2])) ∧
  ∀ (us : List Addr) (p : Addr) (H2 : Hp), us.Perm ts → us.Pairwise (fun a b => lexLe (f a) (f b)) → Same H H2 → H p = none → H2 p = some (.lst (us.map V.ref)) → Q (.ref p) H2
theorem cr_sortS : CallR X (.builtin "sorted") (rSortS X.K) := by
  intro pins s σ H vs us Q I r h
  obtain ⟨a, ts, f, rfl, hl, hk, q⟩ := h
  refine cr_sortedPO pins s σ H _ us Q I r ⟨a, ts.map V.ref, fun v => f (unref v), rfl, hl, fun x m => ?_, fun ys p so st np => ?_⟩
  · obtain ⟨t, mt, rfl⟩ := List.mem_map.mp m
    exact ⟨t, rfl, hk t mt⟩
  · have pm := st.perm
    have er : ys = (ys.map unref).map V.ref := unref_map fun y m => by
      obtain ⟨t, _, e⟩ := List.mem_map.mp (pm.mem_iff.mp m)
      exact ⟨t, e.symm⟩
    refine q (ys.map unref) p _ ?_ ?_ (Same.upd np) np (by rw [← er]; exact upd_same)
    · have z := pm.map unref
      rw [List.map_map, show (unref ∘ V.ref) = id from funext fun _ => rfl, List.map_id] at z
      exact z
    · rw [List.pairwise_map]
      refine List.Pairwise.imp_of_mem (fun {x y} mx my h => ?_) so
      have w := SrtO.lexB_no.mp h
      unfold lexLe
      dsimp only at w
      omega
/-- xs[a:b], a new list -/
def rSlG (K : PySem.W.Frag) : V → Option Int → Option Int → Hp → VK → Prop := fun x lo hi H Q => ∃ a xs, x = .ref a ∧ SqL K H a xs ∧ ∀ p H2, Same H H2 → H p = none → H2 p = some (.lst (cutV xs lo hi)) → Q (.ref p) H2
theorem sl_listG : SlR X (rSlG X.K) := fun pins s σ H x v vl vu lo hi sl Q I rx hs pl pu h => by
  rcases h with ⟨a, xs, e1, e2, q⟩
  exact sl_list pins s σ H x v vl vu lo hi sl Q I rx hs pl pu ⟨a, xs, e1, e2, fun p np => q p _ (Same.upd np) np upd_same⟩
end
theorem for_enumG {K : PySem.W.Frag} {a : Addr} {xs : List V} {g : TG} {tb : TS} {D : Ends} {σ : L2.St} {H : Hp} (Pv : Nat → L2.St → Hp → Prop) (start : Pv 0 σ H) (held : ∀ i σ H, i ≤ xs.length → Pv i σ H → SqL K H a xs)
    (turn : ∀ i x σ H, xs[i]? = some x → Pv i σ H → ∀ T H', Same H H' → H T = none → H' T = some (.tup [.int (i : Nat), x]) → g (.ref T) σ H' fun σ2 H2 => tb { D with nx := Pv (i + 1), ct := Pv (i + 1), bk := D.nx } σ2 H2) (done : ∀ σ H, Pv xs.length σ H → D.nx σ H) :
    ∃ W : Nat → Nat → L2.St → Hp → Prop, (∃ m, W 0 m σ H) ∧ ∀ i m σ H, W i m σ H → ((Ite K a).stop i H ∧ D.nx σ H) ∨ ((Ite K a).go i H ∧ ∃ N : L2.St → Hp → Prop, (∀ σ' H', N σ' H' → ∃ m', m' < m ∧ W (i + 1) m' σ' H') ∧ ∀ x H', (Ite K a).yld i H x H' → g x σ H' fun σ2 H2 => tb { D with nx := N, ct := N, bk := D.nx } σ2 H2) := by
  refine ⟨fun i m σ H => m = xs.length - i ∧ i ≤ xs.length ∧ Pv i σ H, ⟨_, rfl, Nat.zero_le _, start⟩, fun i m σ H w => ?_⟩
  obtain ⟨rfl, le, p⟩ := w
  have seq := held i σ H le p
  by_cases lt : i < xs.length
  · refine .inr ⟨⟨xs, xs[i], seq, List.getElem?_eq_getElem lt⟩, Pv (i + 1), fun σ' H' p' => ⟨_, by omega, rfl, lt, p'⟩, fun y H' yl => ?_⟩
    obtain ⟨T, x, rfl, free, rfl, at_⟩ := yl
    exact turn i x σ H (at_ xs seq) p T _ (Same.upd free) free upd_same
  · have e : i = xs.length := by omega
    subst e
    exact .inl ⟨⟨xs, seq, Nat.le_refl _⟩, done σ H p⟩
theorem lc_enumG {K : PySem.W.Frag} {a : Addr} {xs : List V} {g : TG} {tt : TT} {te : TE} {vs : List Nat} {σ : L2.St} {H1 : Hp} {D : Addr} {Qd : Hp → Prop} (Pv : Nat → Hp → Prop) (start : Pv 0 (upd H1 D (.lst []))) (held : ∀ i H, i ≤ xs.length → Pv i H → SqL K H a xs)
    (turn : ∀ i x H, xs[i]? = some x → Pv i H → ∀ T H', Same H H' → H T = none → H' T = some (.tup [.int (i : Nat), x]) → g (.ref T) (wipe σ vs) H' fun σ2 H2 => wipe σ2 vs = wipe σ vs ∧ tt σ2 H2 fun b H3 =>
      if b = true then te σ2 H3 fun y H4 => ∃ acc, H4 D = some (.lst acc) ∧ acc.length < sizeLine ∧ Pv (i + 1) (upd H4 D (.lst (acc ++ [y]))) else Pv (i + 1) H3) (done : ∀ H, Pv xs.length H → Qd H) :
    ∃ W : Nat → Nat → Hp → Prop, (∃ m, W 0 m (upd H1 D (.lst []))) ∧ ∀ i m H, W i m H → ((Ite K a).stop i H ∧ Qd H) ∨ ((Ite K a).go i H ∧ ∃ Nx : Hp → Prop, (∀ H', Nx H' → ∃ m', m' < m ∧ W (i + 1) m' H') ∧ ∀ x H', (Ite K a).yld i H x H' → g x (wipe σ vs) H' fun σ2 H2 => wipe σ2 vs = wipe σ vs ∧ tt σ2 H2 fun b H3 =>
        if b = true then te σ2 H3 fun y H4 => ∃ acc, H4 D = some (.lst acc) ∧ acc.length < sizeLine ∧ Nx (upd H4 D (.lst (acc ++ [y]))) else Nx H3) := by
  refine ⟨fun i m H => m = xs.length - i ∧ i ≤ xs.length ∧ Pv i H, ⟨_, rfl, Nat.zero_le _, start⟩, fun i m H w => ?_⟩
  obtain ⟨rfl, le, p⟩ := w
  have seq := held i H le p
  by_cases lt : i < xs.length
  · refine .inr ⟨⟨xs, xs[i], seq, List.getElem?_eq_getElem lt⟩, Pv (i + 1), fun H' p' => ⟨_, by omega, rfl, lt, p'⟩, fun y H' yl => ?_⟩
    obtain ⟨T, x, rfl, free, rfl, at_⟩ := yl
    exact turn i x H (at_ xs seq) p T _ (Same.upd free) free upd_same
  · have e : i = xs.length := by omega
    subst e
    exact .inl ⟨⟨xs, seq, Nat.le_refl _⟩, done H p⟩
end Nc

/-! Own rules: the readings of comprehensions with two for. -/
namespace Nc
open PySem PySem.Spec PyProof.Rows L2
section
variable {J : It} {n : Nat} {G : Hp → Prop} {Y : Nat → Hp → V → Hp → Prop}
theorem lc2_out (w : Walk J n G Y) {g : TG} {tt : TT} {B : L2.St → Hp → (Hp → Prop) → Prop} {vs : List Nat} {σ : L2.St} {H1 : Hp} {D : Addr} {Qd : Hp → Prop} (Pv : Nat → Hp → Prop) (start : Pv 0 (upd H1 D (.lst []))) (held : ∀ i H, i ≤ n → Pv i H → G H)
    (turn : ∀ i x H H', i < n → Pv i H → Y i H x H' → g x (wipe σ vs) H' fun σ2 H2 => wipe σ2 vs = wipe σ vs ∧ tt σ2 H2 fun b H3 => if b = true then B σ2 H3 (Pv (i + 1)) else Pv (i + 1) H3) (done : ∀ H, Pv n H → Qd H) :
    ∃ W : Nat → Nat → Hp → Prop, (∃ m, W 0 m (upd H1 D (.lst []))) ∧ ∀ i m H, W i m H → (J.stop i H ∧ Qd H) ∨ (J.go i H ∧ ∃ N : Hp → Prop, (∀ H', N H' → ∃ m', m' < m ∧ W (i + 1) m' H') ∧ ∀ x H', J.yld i H x H' → g x (wipe σ vs) H' fun σ2 H2 => wipe σ2 vs = wipe σ vs ∧ tt σ2 H2 fun b H3 => if b = true then B σ2 H3 N else N H3) := by
  refine ⟨fun i m H => m + i = n ∧ Pv i H, ⟨n, rfl, start⟩, fun i m H w' => ?_⟩
  have le : i ≤ n := by omega
  have g0 := held i H le w'.2
  by_cases lt : i < n
  · exact .inr ⟨w.goes i H lt g0, Pv (i + 1), fun H' p => ⟨m - 1, by omega, by omega, p⟩, fun x H' y => turn i x H H' lt w'.2 (w.yields i H x H' lt g0 y)⟩
  · have e : i = n := by omega
    subst e
    exact .inl ⟨w.stops H g0, done H w'.2⟩
theorem lc2_in (w : Walk J n G Y) {g : TG} {tt : TT} {te : TE} {vs : List Nat} {σ2 : L2.St} {H4 : Hp} {D : Addr} {N : Hp → Prop} (Pw : Nat → Hp → Prop) (start : Pw 0 H4) (held : ∀ j H, j ≤ n → Pw j H → G H)
    (turn : ∀ j x H H', j < n → Pw j H → Y j H x H' → g x (wipe σ2 vs) H' fun σ3 H5 => wipe σ3 vs = wipe σ2 vs ∧ tt σ3 H5 fun b H6 => if b = true then te σ3 H6 fun y H7 => ∃ acc, H7 D = some (.lst acc) ∧ acc.length < sizeLine ∧ Pw (j + 1) (upd H7 D (.lst (acc ++ [y]))) else Pw (j + 1) H6) (done : ∀ H, Pw n H → N H) :
    ∃ W : Nat → Nat → Hp → Prop, (∃ m, W 0 m H4) ∧ ∀ j k H, W j k H → (J.stop j H ∧ N H) ∨ (J.go j H ∧ ∃ N1 : Hp → Prop, (∀ H', N1 H' → ∃ k', k' < k ∧ W (j + 1) k' H') ∧ ∀ x H', J.yld j H x H' → g x (wipe σ2 vs) H' fun σ3 H5 => wipe σ3 vs = wipe σ2 vs ∧ tt σ3 H5 fun b H6 =>
      if b = true then te σ3 H6 fun y H7 => ∃ acc, H7 D = some (.lst acc) ∧ acc.length < sizeLine ∧ N1 (upd H7 D (.lst (acc ++ [y]))) else N1 H6) := by
  refine ⟨fun j m H => m + j = n ∧ Pw j H, ⟨n, rfl, start⟩, fun j m H w' => ?_⟩
  have le : j ≤ n := by omega
  have g0 := held j H le w'.2
  by_cases lt : j < n
  · exact .inr ⟨w.goes j H lt g0, Pw (j + 1), fun H' p => ⟨m - 1, by omega, by omega, p⟩, fun x H' y => turn j x H H' lt w'.2 (w.yields j H x H' lt g0 y)⟩
  · have e : j = n := by omega
    subst e
    exact .inl ⟨w.stops H g0, done H w'.2⟩
end
end Nc

/-! Own rules: a written dict whose keys are tuples. -/
namespace Nc
open PySem PySem.Spec PyProof.Rows L2
abbrev Ent := List L2.Key × Addr × V
section
variable {X : Cx} {pins : List (Addr × Obj)} {σ : L2.St} {a : Addr} {A : Around} {E : Value → Shared → Prop}
/-- pair by pair into a dict of tuple keys -/
theorem store_tups (hu : A.units < cLine) : ∀ (es : List Ent) (vs : List (Value × Value)) (kvs : List (List L2.Key × V)) (s : Shared) (H : Hp) (Q : PUnit → Shared → Prop), L2.Inv X pins σ H s → H a = some (.dT kvs) → VV (es.map fun e => (V.ref e.2.1, e.2.2)) vs → (∀ e ∈ es, H e.2.1 = some (.tup (e.1.map kV))) → kvs.length + es.length ≤ sizeLine →
    (∀ s', L2.Inv X pins σ (upd H a (.dT (es.foldl (fun acc e => putK acc e.1 e.2.2) kvs))) s' → Q PUnit.unit s') → wpAny (model X.prog X.w) A (storeAll a vs) Q E s := by
  intro es
  induction es with
  | nil =>
    intro vs kvs s H Q I e rv _ _ q
    cases rv
    unfold storeAll
    rw [List.forIn_nil]
    refine wpAny_pure (q s ?_)
    have back : upd H a (.dT kvs) = H := funext fun b => by
      by_cases c : b = a
      · rw [c, upd_same, e]
      · rw [upd_ne c]
    show L2.Inv X pins σ (upd H a (.dT kvs)) s
    rw [back]
    exact I
  | cons e es ih =>
    intro vs kvs s H Q I ea rv hk room q
    cases rv with
    | cons r0 rv =>
      rename_i v0 vs
      obtain ⟨u, r⟩ := v0
      obtain ⟨r1, r2⟩ := r0
      cases r1
      rw [List.length_cons] at room
      unfold storeAll
      rw [List.forIn_cons]
      obtain ⟨len, sys, xs, rel, dd⟩ := dt_of I.hok ea
      have lx : xs.length ≤ sizeLine := by rw [← Paired.length rel]; exact len
      refine wpAny_bind (wpAny_bind (wpAny_dictSet_heap (hsz := lx) (knd := tupleKind (mixKind X.prog X.w)) hu (key_of I.hok (hk e List.mem_cons_self)) dd fun h' dd' hs => wpAny_pure ?_))
      have l2 : (putK kvs e.1 e.2.2).length ≤ sizeLine := Nat.le_trans (length_putK kvs _ _) (by omega)
      obtain ⟨o, ds, ep, ho, c1, c2, c3, _, c4⟩ := dd'
      have I2 : L2.Inv X pins σ (upd H a (.dT (putK kvs e.1 e.2.2))) { s with heap := h', toks := s.toks + (tupleKind (mixKind X.prog X.w)).draws e.1 } := d_write I (by rw [ea]; exact True.intro) hs ⟨o, ho⟩ ⟨l2, sys, _, (rel.put e.1 (hk e List.mem_cons_self) r2).keeps fun c ys ec => (by rw [upd_ne (ne_of ec ea (fun z => nomatch z))]; exact ec), o, ds, ep, ho, c1, c2, c3, c4⟩
      have up : ∀ x y : HO, upd (upd H a x) a y = upd H a y := fun x y => funext fun b => by
        by_cases c : b = a
        · rw [c, upd_same, upd_same]
        · rw [upd_ne c, upd_ne c, upd_ne c]
      refine ih vs (putK kvs e.1 e.2.2) _ _ Q I2 upd_same rv (fun e' m => ?_) (by have := length_putK kvs e.1 e.2.2; omega) fun s' I' => q s' ?_
      · rw [upd_ne (ne_of (hk e' (List.mem_cons_of_mem _ m)) ea (fun z => nomatch z))]
        exact hk e' (List.mem_cons_of_mem _ m)
      · rw [up] at I'
        exact I'
end
/-- {t: v, ..}; the new dict stands empty while the pairs are made -/
def tDispT (trs : List (TE × TE)) : TE := fun σ H Q => ∀ p, H p = none → tPairs trs σ (upd H p (.dT [])) fun ps H2 => H2 p = some (.dT []) ∧ ∃ es : List Ent, ps = es.map (fun e => (V.ref e.2.1, e.2.2)) ∧ (∀ e ∈ es, H2 e.2.1 = some (.tup (e.1.map kV))) ∧ es.length ≤ 15 ∧ Q (.ref p) (upd H2 p (.dT (es.foldl (fun acc e => putK acc e.1 e.2.2) [])))
theorem pe_dispT {X : Cx} {pos : Pos} {keys : List (Option Expr)} {values : List Expr} {trs : List (TE × TE)} (hu : X.A.units < cLine) (h : PPs X pos keys values trs) (hall : keys.all (·.isSome) = true) (hl : keys.length = values.length) (h0 : keys ≠ []) (h15 : keys.length ≤ 15) : PE X (.Dict keys values pos) (tDispT trs) := by
  constructor
  intro pins s σ H Q I q
  have I1 := I.laid (a := s.heap.objs.size) (o := .dT []) (h' := s.heap.push { cls := .type "dict", data := .dict #[] }) (t' := s.toks) (fun _ _ q => Heap.get?_push_of_some _ q) (Nat.le_refl _) (dt_empty s.heap I.big)
  refine wpAny_Dict_any hall hl h0 h15 (thn (h.run pins _ σ _ _ I1 (q _ (I.hok.fresh (Nat.le_refl s.heap.objs.size)))) ?_)
  rintro ws s2 ⟨ps, H2, I2, rel, e, es, rfl, hk, few, q2⟩
  exact store_tups hu es ws [] s2 H2 _ I2 e rel hk (by rw [List.length_nil]; have : (15 : Nat) ≤ sizeLine := by decide
                                                       omega) fun s' I' => ⟨.ref s.heap.objs.size, _, I', rfl, q2⟩
end Nc

/-! Own rules: how many a set of tuples holds, no two alike. -/
namespace Nc
open PySem PySem.Spec PyProof.Rows L2
def rLenTN (P : Program) (w : World) : List V → Hp → VK → Prop := fun vs H Q => ∃ (a : Addr) (L : List (Addr × List Int)), vs = [.ref a] ∧ H a = some (SetTO P w a L) ∧ ((L.map (·.2)).Nodup → Q (.int (L.length : Nat)) H)
theorem call_len_setN {X : Cx} : CallR X (.builtin "len") (rLenTN X.prog X.w) := by
  intro pins s σ H xs us Q I r h
  obtain ⟨a, L, rfl, ha, q⟩ := h
  have R0 : SetT0 X.prog X.w s.heap a L := (I.hok a _ ha).1
  obtain ⟨es, ep, t, R⟩ := R0.ex
  exact call_len_setT pins s σ H _ us Q I r ⟨a, L, rfl, ha, q R.2.2.2.1⟩
/-- no two alike, all among others: no more than these -/
theorem len_le_of_sub {α : Type} [BEq α] [LawfulBEq α] : ∀ {l m : List α}, l.Nodup → (∀ x ∈ l, x ∈ m) → l.length ≤ m.length
  | [], _, _, _ => Nat.zero_le _
  | x :: l, m, n, h => by
    obtain ⟨n1, n2⟩ := List.nodup_cons.mp n
    have mx := h x List.mem_cons_self
    have := len_le_of_sub (l := l) (m := m.erase x) n2 fun y hy => (List.mem_erase_of_ne (fun e => n1 (by rw [← e]; exact hy))).mpr (h y (List.mem_cons_of_mem _ hy))
    rw [List.length_erase_of_mem mx] at this
    have pos : 0 < m.length := List.length_pos_of_mem mx
    rw [List.length_cons]
    omega
end Nc

/-! Own rules: slices with the step -1. -/
namespace Nc
open PySem PySem.Spec PyProof.Rows L2
theorem range_down (n : Nat) (s : Nat) : sliceRange ((s + n : Nat) : Int) (s : Int) (-1) = (List.range n).map fun k => s + n - k := by
  unfold sliceRange
  have h1 : ¬ ((-1 : Int) > 0) := by decide
  by_cases h : n = 0
  · subst h
    simp
  · have h2 : (((s + n : Nat) : Int) > (s : Int)) := by omega
    have e : (((s + n : Nat) : Int) - (s : Int) - -1 - 1) / (- -1) = (n : Int) := by
      rw [show (- -1 : Int) = 1 by decide, Int.ediv_one]
      omega
    simp only [h1, if_false, h2, if_true, e, Int.toNat_natCast]
    apply List.map_congr_left
    intro k hk
    have := List.mem_range.mp hk
    omega
/-- xs[a:b:-1] by what is picked -/
def tSlB (K : PySem.W.Frag) (lo hi : Option Int) (F : List V → List V) (te : TE) : TE := fun σ H Q => te σ H fun x H1 => ∃ a xs, x = .ref a ∧ SqL K H1 a xs ∧ ∀ p H2, Same H1 H2 → H1 p = none → H2 p = some (.lst (F xs)) → Q (.ref p) H2
/-- F tells what is picked, of values and of what stands for them -/
structure Picks (lo hi : Option Int) (F : ∀ {α : Type}, List α → List α) : Prop where
  pick : ∀ items : Array Value, slicePick items lo hi (some (-1)) = (F items.toList).toArray
  vals : ∀ {xs : List V} {us : List Value}, Vals xs us → Vals (F xs) (F us)
  len : ∀ (xs : List V), (F xs).length ≤ xs.length
section
variable {X : Cx}
theorem pe_slB {lo hi : Option Int} {elo ehi : Option Expr} {e : Expr} {te : TE} {k : Nat} {p1 p2 p3 pos : Pos} {F : ∀ {α : Type}, List α → List α} (pk : Picks lo hi F) (he : PE X e te)
    {tl th : TO} (hl : PO X elo tl) (ql : ∀ σ H (Q : Option Int → Hp → Prop), Q lo H → tl σ H Q) (hh : PO X ehi th) (qh : ∀ σ H (Q : Option Int → Hp → Prop), Q hi H → th σ H Q) :
    PE X (.Subscript e (.Slice elo ehi (some (.UnaryOp .USub (.Constant (.int 1) k p1) p2)) p3) pos) (tSlB X.K lo hi F te) := by
  refine ⟨fun pins s σ H Q I h => ?_⟩
  refine Subscript_ (thn (he.run pins s σ H _ I h) fun v s1 ⟨x, H1, I1, r1, q1⟩ => ?_)
  obtain ⟨a, xs, ex, hx, q⟩ := q1
  subst ex
  cases r1
  have hst : PO X (some (.UnaryOp .USub (.Constant (.int 1) k p1) p2)) (tPart (tUn (rU fun i => .int (-i)) (tC (.int 1)))) := po_some (pe_un un_neg pe_int)
  refine wpAny_Slice (thn (hl.run pins s1 σ H1 (fun o H2 => o = lo ∧ H2 = H1) I1 (ql _ _ _ ⟨rfl, rfl⟩)) fun vl s2 ⟨l, H2, I2, pl, el, e2⟩ => ?_)
  subst el e2
  refine thn (hh.run pins s2 σ H2 (fun o H3 => o = hi ∧ H3 = H2) I2 (qh _ _ _ ⟨rfl, rfl⟩)) fun vu s3 ⟨u, H3, I3, pu, eu, e3⟩ => ?_
  subst eu e3
  refine thn (hst.run pins s3 σ H3 (fun o H4 => o = some (-1) ∧ H4 = H3) I3 ⟨1, rfl, -1, rfl, rfl, rfl⟩) fun vs s4 ⟨o, H4, I4, ps, eo, e4⟩ => ?_
  subst eo e4
  have I5 : Inv X pins σ H4 { s4 with heap := s4.heap.push { cls := .type "slice", data := .fields #[vl, vu, vs] } } := I4.kept (t' := s4.toks) fun b ob q => Heap.get?_push_of_some _ q
  obtain ⟨its, r, ht, hz⟩ := I5.list hx
  have hlen := r.length
  show wpAny (model X.prog X.w) X.A (subscriptTail e (.Slice elo ehi (some (.UnaryOp .USub (.Constant (.int 1) k p1) p2)) p3) (.ref a) (.ref s4.heap.objs.size)) (EP X pins σ Q) X.xe { s4 with heap := s4.heap.push { cls := .type "slice", data := .fields #[vl, vu, vs] } }
  refine tail_any (ops := [.ref a, .ref s4.heap.objs.size]) ht.isList.typeIs (PySem.slot_list_getitem.lookup) ?_ (by with_unfolding_all rfl)
  refine wpAny_getItem_list_slice ht.isList (Heap.IsSliceOf.new _ vl vu vs) pl pu ps (by decide) ?_ (by rw [List.size_toArray]; omega)
  rw [pk.pick]
  have nn := I5.hok.fresh (Nat.le_refl _)
  refine ⟨.ref _, _, I5.laid (t' := s4.toks) (o := .lst (F xs)) (fun b ob q => Heap.get?_push_of_some _ q) (Nat.le_refl _) ?_, rfl, q _ _ (Same.upd nn) nn upd_same⟩
  exact ⟨Nat.le_trans (pk.len xs) hz, _, 0, pk.vals r, Heap.get?_push_size _ rfl⟩
end
theorem range_rev (m s : Nat) : (List.range m).map (fun k => s + m - k) = ((List.range m).map (fun k => s + 1 + k)).reverse := by
  apply List.ext_getElem
  · simp
  · intro i h1 h2
    simp only [List.length_map, List.length_range] at h1
    rw [List.getElem_reverse]
    simp only [List.getElem_map, List.getElem_range, List.length_map, List.length_range]
    omega
theorem range_rev0 (m : Nat) : (List.range m).map (fun k => m - 1 - k) = ((List.range m).map (fun k => 0 + k)).reverse := by
  apply List.ext_getElem
  · simp
  · intro i h1 h2
    simp only [List.length_map, List.length_range] at h1
    rw [List.getElem_reverse]
    simp only [List.getElem_map, List.getElem_range, List.length_map, List.length_range]
    omega
/-- xs[-2:0:-1] -/
def inner {α : Type} (l : List α) : List α := (l.drop 1).dropLast.reverse
/-- xs[-2::-1] -/
def backL {α : Type} (l : List α) : List α := l.dropLast.reverse
theorem picks_inner : Picks (some (-2)) (some 0) inner where
  pick := fun items => by
    unfold slicePick inner
    rcases Nat.lt_or_ge items.size 2 with h | h
    · have e : (sliceBounds (some (-2)) (some 0) (some (-1)) items.size).1 = -1 := by
        unfold sliceBounds
        simp only [Option.getD_some]
        have : ¬ ((-1 : Int) > 0) := by decide
        simp only [this, if_false]
        rw [if_pos (by decide)]
        omega
      have e2 : ¬ (sliceBounds (some (-2)) (some 0) (some (-1)) items.size).1 > (sliceBounds (some (-2)) (some 0) (some (-1)) items.size).2.1 := by
        rw [e]
        unfold sliceBounds
        simp only [Option.getD_some]
        have : ¬ ((-1 : Int) > 0) := by decide
        simp only [this, if_false]
        omega
      have e3 : (sliceBounds (some (-2)) (some 0) (some (-1)) items.size).2.2 = -1 := rfl
      have e4 : (items.toList.drop 1).dropLast = [] := by
        apply List.eq_nil_of_length_eq_zero
        rw [List.length_dropLast, List.length_drop, Array.length_toList]
        omega
      rw [e3, e4]
      unfold sliceRange
      rw [if_neg (by decide), if_neg e2]
      rfl
    · obtain ⟨m, hm⟩ : ∃ m, items.size = m + 2 := ⟨items.size - 2, by omega⟩
      have e : sliceBounds (some (-2)) (some 0) (some (-1)) items.size = (((0 + m : Nat) : Int), ((0 : Nat) : Int), -1) := by
        unfold sliceBounds
        simp only [Option.getD_some]
        have : ¬ ((-1 : Int) > 0) := by decide
        simp only [this, if_false]
        rw [if_pos (by decide), if_neg (by decide), hm]
        refine Prod.ext ?_ (Prod.ext ?_ rfl)
        · show max (-1) (min (-2 + ((m + 2 : Nat) : Int)) (((m + 2 : Nat) : Int) - 1)) = ((0 + m : Nat) : Int)
          omega
        · show max (-1) (min 0 (((m + 2 : Nat) : Int) - 1)) = ((0 : Nat) : Int)
          omega
      rw [e, range_down, range_rev, List.filterMap_reverse, pick_run items (0 + 1) m, List.dropLast_eq_take, List.length_drop, Array.length_toList, hm]
      rfl
  vals := fun r => by
    unfold inner
    have d := Vals.drop 1 r
    refine Vals.reverse ?_
    rw [List.dropLast_eq_take, List.dropLast_eq_take, d.length]
    exact Vals.take _ d
  len := fun xs => by
    unfold inner
    rw [List.length_reverse, List.length_dropLast, List.length_drop]
    omega
theorem picks_backL : Picks (some (-2)) none backL where
  pick := fun items => by
    unfold slicePick backL
    rcases Nat.eq_zero_or_pos items.size with h | h
    · have e : items.toList = [] := List.eq_nil_of_length_eq_zero (by rw [Array.length_toList]; exact h)
      have e1 : sliceBounds (some (-2)) none (some (-1)) items.size = (-1, -1, -1) := by
        rw [h]
        rfl
      rw [e, e1]
      rfl
    · obtain ⟨m, hm⟩ : ∃ m, items.size = m + 1 := ⟨items.size - 1, by omega⟩
      have e : sliceBounds (some (-2)) none (some (-1)) items.size = ((m : Int) - 1, -1, -1) := by
        unfold sliceBounds
        simp only [Option.getD_some]
        have : ¬ ((-1 : Int) > 0) := by decide
        simp only [this, if_false]
        rw [if_pos (by decide), hm]
        refine Prod.ext ?_ rfl
        show max (-1) (min (-2 + ((m + 1 : Nat) : Int)) (((m + 1 : Nat) : Int) - 1)) = (m : Int) - 1
        omega
      rw [e]
      show ((sliceRange ((m : Int) - 1) (-1) (-1)).filterMap (items[·]?)).toArray = _
      rw [PySem.W.krv_sliceRange, range_rev0, List.filterMap_reverse, pick_run items 0 m, List.dropLast_eq_take, Array.length_toList, hm]
      rfl
  vals := fun r => by
    unfold backL
    refine Vals.reverse ?_
    rw [List.dropLast_eq_take, List.dropLast_eq_take, r.length]
    exact Vals.take _ r
  len := fun xs => by
    unfold backL
    rw [List.length_reverse, List.length_dropLast]
    omega
end Nc

/-! Own rules: comprehensions whose items are told one by one. -/
namespace Nc
open PySem PySem.Spec PyProof.Rows L2
section
variable {J : It} {n : Nat} {G : Hp → Prop} {Y : Nat → Hp → V → Hp → Prop} {g : TG} {te : TE} {tt : TT} {vs : List Nat} {σ : L2.St} {H1 : Hp} {D : Addr} {Qd : Hp → Prop}
theorem same_upd_of {H H' : Hp} {D : Addr} {o : HO} (s : Same H H') (n : H D = none) : Same H (upd H' D o) := fun b x e => by
  rw [upd_ne (ne_of_none e n)]
  exact s b x e
/-- each item is told by Rel, of the heap where it was made; Rel speaks of what stood ahead and of what is not the new list -/
theorem lc_rel (w : Walk J n G Y) (nD : H1 D = none) (few : n ≤ 100000) (Gs : ∀ H, Same H1 H → G H) (Rel : Nat → V → Hp → Prop)
    (stay : ∀ i y H H', (∀ b o, b ≠ D → H b = some o → H' b = some o) → Rel i y H → Rel i y H')
    (hs : ∀ i x H H' (Kp : VK), i < n → Same H1 H → (∃ acc, H D = some (.lst acc)) → Y i H x H' → (∀ y H4, Same H H4 → Rel i y H4 → Kp y H4) → g x (wipe σ vs) H' fun σ2 H2 => wipe σ2 vs = wipe σ vs ∧ te σ2 H2 Kp)
    (hd : ∀ H' ys, Same H1 H' → H' D = some (.lst ys) → ys.length = n → (∀ i y, ys[i]? = some y → Rel i y H') → Qd H') :
    ∃ W : Nat → Nat → Hp → Prop, (∃ m, W 0 m (upd H1 D (.lst []))) ∧ ∀ i m H, W i m H →
      (J.stop i H ∧ Qd H) ∨ (J.go i H ∧ ∃ Nx : Hp → Prop, (∀ H', Nx H' → ∃ m', m' < m ∧ W (i + 1) m' H') ∧ ∀ x H', J.yld i H x H' → g x (wipe σ vs) H' fun σ2 H2 => wipe σ2 vs = wipe σ vs ∧ tYes σ2 H2 fun b H3 =>
        if b = true then te σ2 H3 fun y H4 => ∃ acc, H4 D = some (.lst acc) ∧ acc.length < sizeLine ∧ Nx (upd H4 D (.lst (acc ++ [y]))) else Nx H3) := by
  refine lc_it w (tt := tYes) (fun i H => Same H1 H ∧ ∃ ys, H D = some (.lst ys) ∧ ys.length = i ∧ ∀ j y, ys[j]? = some y → Rel j y H) ⟨same_upd_of (fun _ _ e => e) nD, [], upd_same, rfl, fun _ _ e => nomatch e⟩ (fun i H _ z => Gs H z.1) (fun i x H H' hi z y => ?_) fun H z => ?_
  · obtain ⟨s1, ys, eD, len, rel⟩ := z
    refine hs i x H H' _ hi s1 ⟨ys, eD⟩ y fun v H4 s4 r4 => ?_
    have e4 := s4 _ _ eD
    have s14 : Same H1 H4 := fun b o e => s4 _ _ (s1 _ _ e)
    have lift : ∀ b o, b ≠ D → H4 b = some o → (upd H4 D (.lst (ys ++ [v]))) b = some o := fun b o nb e => by rw [upd_ne nb]; exact e
    refine ⟨ys, e4, Nat.lt_of_lt_of_le (show ys.length < 100001 by omega) (by decide), same_upd_of s14 nD, ys ++ [v], upd_same, by rw [List.length_append, len]; rfl, fun j y' ey => ?_⟩
    by_cases c : j < ys.length
    · rw [List.getElem?_append_left c] at ey
      exact stay j y' H _ (fun b o nb e => lift b o nb (s4 _ _ e)) (rel j y' ey)
    · rw [List.getElem?_append_right (by omega)] at ey
      have hj : j = i := by
        have := (List.getElem?_eq_some_iff.mp ey).1
        simp at this
        omega
      subst hj
      have e0 : j - ys.length = 0 := by omega
      rw [e0] at ey
      cases Option.some.inj ey
      exact stay j v H4 _ lift r4
  · obtain ⟨s1, ys, eD, len, rel⟩ := z
    exact hd H ys s1 eD len rel
/-- .. each item is a value that is known -/
theorem lc_val (w : Walk J n G Y) (nD : H1 D = none) (few : n ≤ 100000) (Gs : ∀ H, Same H1 H → G H) (ys : List V) (ly : ys.length = n)
    (hs : ∀ i x y H H' (Kp : VK), ys[i]? = some y → Same H1 H → (∃ acc, H D = some (.lst acc)) → Y i H x H' → (∀ H4, Same H H4 → Kp y H4) → g x (wipe σ vs) H' fun σ2 H2 => wipe σ2 vs = wipe σ vs ∧ te σ2 H2 Kp)
    (hd : ∀ H', Same H1 H' → H' D = some (.lst ys) → Qd H') :
    ∃ W : Nat → Nat → Hp → Prop, (∃ m, W 0 m (upd H1 D (.lst []))) ∧ ∀ i m H, W i m H →
      (J.stop i H ∧ Qd H) ∨ (J.go i H ∧ ∃ Nx : Hp → Prop, (∀ H', Nx H' → ∃ m', m' < m ∧ W (i + 1) m' H') ∧ ∀ x H', J.yld i H x H' → g x (wipe σ vs) H' fun σ2 H2 => wipe σ2 vs = wipe σ vs ∧ tYes σ2 H2 fun b H3 =>
        if b = true then te σ2 H3 fun y H4 => ∃ acc, H4 D = some (.lst acc) ∧ acc.length < sizeLine ∧ Nx (upd H4 D (.lst (acc ++ [y]))) else Nx H3) := by
  refine lc_rel w nD few Gs (fun i y _ => ys[i]? = some y) (fun _ _ _ _ _ r => r) (fun i x H H' Kp hi s1 eD y fin => ?_) fun H' zs s eD len rel => ?_
  · have ey : ys[i]? = some ys[i] := List.getElem?_eq_getElem (by omega)
    exact hs i x _ H H' Kp ey s1 eD y fun H4 s4 => fin _ H4 s4 ey
  · have e : zs = ys := by
      apply List.ext_getElem? 
      intro i
      by_cases c : i < zs.length
      · have ez : zs[i]? = some zs[i] := List.getElem?_eq_getElem c
        rw [ez, rel i _ ez]
      · rw [List.getElem?_eq_none (by omega), List.getElem?_eq_none (by omega)]
    rw [e] at eD
    exact hd H' s eD
/-- .. with a test: the items of those that pass it -/
theorem lc_fil (w : Walk J n G Y) (nD : H1 D = none) (few : n ≤ 100000) (Gs : ∀ H, Same H1 H → G H) (b : Nat → Bool) (F : Nat → V)
    (hs : ∀ i x H H' (Kp : VK) (Kn : Hp → Prop), i < n → Same H1 H → (∃ acc, H D = some (.lst acc)) → Y i H x H' → (∀ H4, b i = true → Same H H4 → Kp (F i) H4) → (∀ H4, b i = false → Same H H4 → Kn H4) → g x (wipe σ vs) H' fun σ2 H2 => wipe σ2 vs = wipe σ vs ∧ tt σ2 H2 fun c H3 => if c = true then te σ2 H3 Kp else Kn H3)
    (hd : ∀ H', Same H1 H' → H' D = some (.lst (((List.range n).filter b).map F)) → Qd H') :
    ∃ W : Nat → Nat → Hp → Prop, (∃ m, W 0 m (upd H1 D (.lst []))) ∧ ∀ i m H, W i m H →
      (J.stop i H ∧ Qd H) ∨ (J.go i H ∧ ∃ Nx : Hp → Prop, (∀ H', Nx H' → ∃ m', m' < m ∧ W (i + 1) m' H') ∧ ∀ x H', J.yld i H x H' → g x (wipe σ vs) H' fun σ2 H2 => wipe σ2 vs = wipe σ vs ∧ tt σ2 H2 fun b H3 =>
        if b = true then te σ2 H3 fun y H4 => ∃ acc, H4 D = some (.lst acc) ∧ acc.length < sizeLine ∧ Nx (upd H4 D (.lst (acc ++ [y]))) else Nx H3) := by
  refine lc_it w (fun i H => Same H1 H ∧ H D = some (.lst (((List.range i).filter b).map F))) ⟨same_upd_of (fun _ _ e => e) nD, upd_same⟩ (fun i H _ z => Gs H z.1) (fun i x H H' hi z y => ?_) fun H z => hd H z.1 z.2
  obtain ⟨s1, eD⟩ := z
  refine hs i x H H' _ _ hi s1 ⟨_, eD⟩ y (fun H4 hb s4 => ?_) fun H4 hb s4 => ?_
  · have s14 : Same H1 H4 := fun b o e => s4 _ _ (s1 _ _ e)
    refine ⟨_, s4 _ _ eD, ?_, same_upd_of s14 nD, ?_⟩
    · rw [List.length_map]
      have := List.length_filter_le b (List.range i)
      rw [List.length_range] at this
      exact Nat.lt_of_lt_of_le (show _ < 100001 by omega) (by decide)
    · rw [upd_same, List.range_succ, List.filter_append, List.map_append, List.filter_cons_of_pos hb]
      rfl
  · have s14 : Same H1 H4 := fun b o e => s4 _ _ (s1 _ _ e)
    refine ⟨s14, ?_⟩
    rw [List.range_succ, List.filter_append, List.filter_cons_of_neg (by rw [hb]; decide), List.filter_nil, List.append_nil]
    exact s4 _ _ eD
end
end Nc

/-! Own rules: comprehensions that make a new thing for each item. -/
namespace Nc
open PySem PySem.Spec PyProof.Rows L2
section
variable {J : It} {n : Nat} {G : Hp → Prop} {Y : Nat → Hp → V → Hp → Prop} {g : TG} {te : TE} {tt : TT} {vs : List Nat} {σ : L2.St} {H1 : Hp} {D : Addr} {Qd : Hp → Prop}
/-- new things at ks, one for each of L -/
def News (H : Hp) (D : Addr) (ob : Nat → HO) (L : List Nat) (ks : List Addr) : Prop := ks.length = L.length ∧ ∀ (j i : Nat) (k : Addr), L[j]? = some i → ks[j]? = some k → k ≠ D ∧ H k = some (ob i)
theorem News.snoc {H H' : Hp} {D : Addr} {ob : Nat → HO} {L : List Nat} {ks : List Addr} {i : Nat} {k : Addr} (h : News H D ob L ks) (s : ∀ b o, b ≠ D → H b = some o → H' b = some o) (n : k ≠ D) (e : H' k = some (ob i)) : News H' D ob (L ++ [i]) (ks ++ [k]) := by
  refine ⟨by rw [List.length_append, List.length_append, h.1]; rfl, fun j a b ea eb => ?_⟩
  by_cases c : j < ks.length
  · rw [List.getElem?_append_left c] at eb
    rw [List.getElem?_append_left (by rw [← h.1]; exact c)] at ea
    have := h.2 j a b ea eb
    exact ⟨this.1, s _ _ this.1 this.2⟩
  · rw [List.getElem?_append_right (by omega)] at eb
    rw [List.getElem?_append_right (by rw [← h.1]; omega)] at ea
    have hj := (List.getElem?_eq_some_iff.mp eb).1
    simp at hj
    rw [hj] at eb
    rw [← h.1, hj] at ea
    cases Option.some.inj ea
    cases Option.some.inj eb
    exact ⟨n, e⟩
theorem lc_new (w : Walk J n G Y) (nD : H1 D = none) (few : n ≤ 100000) (Gs : ∀ H, Same H1 H → G H) (b : Nat → Bool) (ob : Nat → HO)
    (hs : ∀ i x H H' (Kp : VK) (Kn : Hp → Prop), i < n → Same H1 H → (∃ acc, H D = some (.lst acc)) → Y i H x H' → (∀ t H4, b i = true → Same H H4 → H t = none → H4 t = some (ob i) → Kp (.ref t) H4) → (∀ H4, b i = false → Same H H4 → Kn H4) → g x (wipe σ vs) H' fun σ2 H2 => wipe σ2 vs = wipe σ vs ∧ tt σ2 H2 fun c H3 => if c = true then te σ2 H3 Kp else Kn H3)
    (hd : ∀ H' ks, Same H1 H' → H' D = some (.lst (ks.map V.ref)) → News H' D ob ((List.range n).filter b) ks → Qd H') :
    ∃ W : Nat → Nat → Hp → Prop, (∃ m, W 0 m (upd H1 D (.lst []))) ∧ ∀ i m H, W i m H →
      (J.stop i H ∧ Qd H) ∨ (J.go i H ∧ ∃ Nx : Hp → Prop, (∀ H', Nx H' → ∃ m', m' < m ∧ W (i + 1) m' H') ∧ ∀ x H', J.yld i H x H' → g x (wipe σ vs) H' fun σ2 H2 => wipe σ2 vs = wipe σ vs ∧ tt σ2 H2 fun b H3 =>
        if b = true then te σ2 H3 fun y H4 => ∃ acc, H4 D = some (.lst acc) ∧ acc.length < sizeLine ∧ Nx (upd H4 D (.lst (acc ++ [y]))) else Nx H3) := by
  refine lc_it w (fun i H => Same H1 H ∧ ∃ ks, H D = some (.lst (ks.map V.ref)) ∧ News H D ob ((List.range i).filter b) ks) ⟨same_upd_of (fun _ _ e => e) nD, [], upd_same, rfl, fun _ _ _ e => nomatch e⟩ (fun i H _ z => Gs H z.1) (fun i x H H' hi z y => ?_) fun H z => ?_
  · obtain ⟨s1, ks, eD, nw⟩ := z
    refine hs i x H H' _ _ hi s1 ⟨_, eD⟩ y (fun t H4 hb s4 nt et => ?_) fun H4 hb s4 => ?_
    · have s14 : Same H1 H4 := fun b o e => s4 _ _ (s1 _ _ e)
      have tD : t ≠ D := Ne.symm (ne_of_none eD nt)
      have lift : ∀ a o, a ≠ D → H a = some o → (upd H4 D (.lst (ks.map V.ref ++ [.ref t]))) a = some o := fun a o na e => by rw [upd_ne na]; exact s4 _ _ e
      refine ⟨_, s4 _ _ eD, ?_, same_upd_of s14 nD, ks ++ [t], ?_, ?_⟩
      · rw [List.length_map, nw.1]
        have := List.length_filter_le b (List.range i)
        rw [List.length_range] at this
        exact Nat.lt_of_lt_of_le (show _ < 100001 by omega) (by decide)
      · rw [upd_same, List.map_append]
        rfl
      · rw [List.range_succ, List.filter_append, List.filter_cons_of_pos hb]
        exact nw.snoc lift tD (by rw [upd_ne tD]; exact et)
    · have s14 : Same H1 H4 := fun b o e => s4 _ _ (s1 _ _ e)
      refine ⟨s14, ks, s4 _ _ eD, ?_⟩
      rw [List.range_succ, List.filter_append, List.filter_cons_of_neg (by rw [hb]; decide), List.filter_nil, List.append_nil]
      exact ⟨nw.1, fun j a k ea ek => ⟨(nw.2 j a k ea ek).1, s4 _ _ (nw.2 j a k ea ek).2⟩⟩
  · obtain ⟨s1, ks, eD, nw⟩ := z
    exact hd H ks s1 eD nw
/-- .. without a test -/
theorem lc_newA (w : Walk J n G Y) (nD : H1 D = none) (few : n ≤ 100000) (Gs : ∀ H, Same H1 H → G H) (ob : Nat → HO)
    (hs : ∀ i x H H' (Kp : VK), i < n → Same H1 H → (∃ acc, H D = some (.lst acc)) → Y i H x H' → (∀ t H4, Same H H4 → H t = none → H4 t = some (ob i) → Kp (.ref t) H4) → g x (wipe σ vs) H' fun σ2 H2 => wipe σ2 vs = wipe σ vs ∧ te σ2 H2 Kp)
    (hd : ∀ H' ks, Same H1 H' → H' D = some (.lst (ks.map V.ref)) → News H' D ob (List.range n) ks → Qd H') :
    ∃ W : Nat → Nat → Hp → Prop, (∃ m, W 0 m (upd H1 D (.lst []))) ∧ ∀ i m H, W i m H →
      (J.stop i H ∧ Qd H) ∨ (J.go i H ∧ ∃ Nx : Hp → Prop, (∀ H', Nx H' → ∃ m', m' < m ∧ W (i + 1) m' H') ∧ ∀ x H', J.yld i H x H' → g x (wipe σ vs) H' fun σ2 H2 => wipe σ2 vs = wipe σ vs ∧ tYes σ2 H2 fun b H3 =>
        if b = true then te σ2 H3 fun y H4 => ∃ acc, H4 D = some (.lst acc) ∧ acc.length < sizeLine ∧ Nx (upd H4 D (.lst (acc ++ [y]))) else Nx H3) := by
  refine lc_new w nD few Gs (fun _ => true) ob (fun i x H H' Kp Kn hi s e y fin _ => ?_) fun H' ks s e nw => ?_
  · exact hs i x H H' Kp hi s e y fun t H4 s4 nt et => fin t H4 rfl s4 nt et
  · rw [List.filter_eq_self.mpr fun _ _ => rfl] at nw
    exact hd H' ks s e nw
/-- the pair that stands at an address -/
def hv (H : Hp) (k : Addr) : Int × Int := match H k with
  | some (.tup [.int x, .int y]) => (x, y)
  | _ => (0, 0)
theorem hv_of {H : Hp} {k : Addr} {x y : Int} (h : H k = some (.tup [.int x, .int y])) : hv H k = (x, y) := by
  unfold hv
  rw [h]
theorem News.map {H : Hp} {D : Addr} {p : Nat → Int × Int} {L : List Nat} {ks : List Addr} (h : News H D (fun i => .tup [.int (p i).1, .int (p i).2]) L ks) : ks.map (hv H) = L.map p := by
  apply List.ext_getElem?
  intro j
  rw [List.getElem?_map, List.getElem?_map]
  by_cases c : j < ks.length
  · have c2 : j < L.length := by rw [← h.1]; exact c
    have e := (h.2 j L[j] ks[j] (by simp [c2]) (by simp [c])).2
    rw [List.getElem?_eq_getElem c, List.getElem?_eq_getElem c2, Option.map_some, Option.map_some, hv_of e]
  · rw [List.getElem?_eq_none (show ks.length ≤ j by omega), List.getElem?_eq_none (show L.length ≤ j by rw [← h.1]; omega)]
    rfl
theorem News.at_ {H : Hp} {D : Addr} {p : Nat → Int × Int} {L : List Nat} {ks : List Addr} (h : News H D (fun i => .tup [.int (p i).1, .int (p i).2]) L ks) : ∀ k ∈ ks, k ≠ D ∧ H k = some (.tup [.int (hv H k).1, .int (hv H k).2]) ∧ ∃ i ∈ L, hv H k = p i := by
  intro k m
  obtain ⟨j, hj, rfl⟩ := List.getElem_of_mem m
  have c2 : j < L.length := by rw [← h.1]; exact hj
  have e := h.2 j L[j] ks[j] (by simp [c2]) (by simp [hj])
  have v := hv_of e.2
  rw [v]
  exact ⟨e.1, e.2, L[j], List.getElem_mem c2, rfl⟩
end
end Nc

/-! Own rules: min, max of a list of pairs. -/
namespace Nc
open PySem PySem.Spec PyProof.Rows L2
section
theorem tup_more {X : Cx} {s s2 : Shared} {pins : List (Addr × Obj)} {σ : L2.St} {H : Hp} {a b : Addr} {ns ms : List Int} (I : L2.Inv X pins σ H s) (ha : H a = some (.tup (ns.map V.int))) (hb : H b = some (.tup (ms.map V.int))) (hu : X.A.units + 1 < cLine) (kp : KeepH s.heap s2.heap) :
    Ob.RcOp .Gt X.A.in1 s2 (.ref a) (.ref b) (lexP (fun x y => decide (y < x)) (decide (ms.length < ns.length)) ns ms) := by
  obtain ⟨us, r1, ⟨o1, g1, c1, n1, d1⟩, _⟩ := I.tuple (SqT.of ha)
  obtain ⟨vs, r2, ⟨o2, g2, c2, n2, d2⟩, _⟩ := I.tuple (SqT.of hb)
  have i1 : IntsAre us ns := Vals.ints r1
  have i2 : IntsAre vs ms := Vals.ints r2
  have at1 : ∀ j (h1 : j < us.toArray.size), ∃ t, us.toArray[j] = .int (ns.getD j 0) t := fun j h1 => IntsAre.int_at i1 _ _ (by simp at h1; simp [h1])
  have at2 : ∀ j (h1 : j < vs.toArray.size), ∃ t, vs.toArray[j] = .int (ms.getD j 0) t := fun j h1 => IntsAre.int_at i2 _ _ (by simp at h1; simp [h1])
  have R := Ob.RcOp.tuples_gt (A := X.A.in1) (s := s2) (e := fun j => decide (ns.getD j 0 = ms.getD j 0)) (r := fun j => decide (ms.getD j 0 < ns.getD j 0)) ⟨o1, kp _ _ g1, c1, n1, d1⟩ ⟨o2, kp _ _ g2, c2, n2, d2⟩ hu (fun j h1 h2 => by
    obtain ⟨t, et⟩ := at1 j h1
    obtain ⟨u, eu⟩ := at2 j h2
    rw [et, eu, ← Bool.beq_eq_decide_eq]
    exact SeqAt.EqAt.int_int _ _ _ _) (fun j h1 h2 _ => by
    obtain ⟨t, et⟩ := at1 j h1
    obtain ⟨u, eu⟩ := at2 j h2
    rw [et, eu]
    exact Ob.RcOp.gt_int _ _ _ _)
  rw [List.size_toArray, List.size_toArray, i1.length, i2.length] at R
  exact R
def ngP (p : Int × Int) : Int × Int := (-p.1, -p.2)
theorem lexLe_ng (p q : Int × Int) : lexLe (ngP p) (ngP q) ↔ lexLe q p := by
  unfold lexLe ngP
  omega
theorem lexP_pairG (p q : Int × Int) : lexP (fun x y => decide (y < x)) (decide ((2 : Nat) < 2)) [p.1, p.2] [q.1, q.2] = decide (¬ lexLe p q) := by
  show (if decide (p.1 = q.1) = true then (if decide (p.2 = q.2) = true then decide ((2 : Nat) < 2) else decide (q.2 < p.2)) else decide (q.1 < p.1)) = _
  unfold lexLe
  by_cases a : p.1 = q.1
  · rw [if_pos (decide_eq_true a)]
    by_cases b : p.2 = q.2
    · rw [if_pos (decide_eq_true b), decide_eq_false (by omega), decide_eq_false (by omega)]
    · rw [if_neg (by simpa using b)]
      by_cases c : q.2 < p.2
      · rw [decide_eq_true c, decide_eq_true (by omega)]
      · rw [decide_eq_false c, decide_eq_false (by omega)]
  · rw [if_neg (by simpa using a)]
    by_cases c : q.1 < p.1
    · rw [decide_eq_true c, decide_eq_true (by omega)]
    · rw [decide_eq_false c, decide_eq_false (by omega)]
variable {X : Cx}
def rMinS : List V → Hp → VK → Prop := fun vs H Q => ∃ (a : Addr) (ts : List Addr) (f : Addr → Int × Int), vs = [V.ref a] ∧ H a = some (.lst (ts.map V.ref)) ∧ (∀ t ∈ ts, H t = some (.tup [.int (f t).1, .int (f t).2])) ∧ 0 < ts.length ∧ ∀ t ∈ ts, (∀ u ∈ ts, lexLe (f t) (f u)) → Q (.ref t) H
def rMaxS : List V → Hp → VK → Prop := fun vs H Q => ∃ (a : Addr) (ts : List Addr) (f : Addr → Int × Int), vs = [V.ref a] ∧ H a = some (.lst (ts.map V.ref)) ∧ (∀ t ∈ ts, H t = some (.tup [.int (f t).1, .int (f t).2])) ∧ 0 < ts.length ∧ ∀ t ∈ ts, (∀ u ∈ ts, lexLe (f u) (f t)) → Q (.ref t) H
theorem refs_val {xs : List V} {us : List Value} (r : Vals xs us) {ts : List Addr} (e : xs = ts.map V.ref) {i : Nat} {v : Value} (h : us.toArray[i]? = some v) : ∃ t, ts[i]? = some t ∧ v = .ref t := by
  subst e
  have hi : i < us.length := by
    have := (Array.getElem?_eq_some_iff.mp h).1
    simpa using this
  have hl := r.length
  rw [List.length_map] at hl
  have e1 : (ts.map V.ref)[i]? = some (.ref ts[i]) := by simp [show i < ts.length by omega]
  obtain ⟨u, e2, e3⟩ := Vals.get r e1
  refine ⟨ts[i], by simp, ?_⟩
  cases e3
  have : us[i]? = some v := by simpa using h
  rw [this] at e2
  exact Option.some.inj e2
theorem cr_minS (hc : X.calm = true) (hu : X.A.units + 1 < cLine) : CallR X (.builtin "min") rMinS := by
  intro pins s σ H vs us Q I r h
  obtain ⟨a, ts, f, rfl, ha, hs, h0, q⟩ := h
  rw [Vals.ref1 r]
  obtain ⟨its, rv, hl, _⟩ := I.list (SqL.of ha)
  have hn : its.length = ts.length := by rw [← rv.length, List.length_map]
  have val : ∀ (i : Nat) v, its.toArray[i]? = some v → ∃ t, v = .ref t ∧ t ∈ ts ∧ f (ts.getD i a) = f t := fun i v hv => by
    obtain ⟨t, e, rfl⟩ := refs_val rv rfl hv
    refine ⟨t, rfl, List.mem_of_getElem? e, ?_⟩
    rw [List.getD_eq_getElem?_getD, e]
    rfl
  refine call_min_walkH (PySem.W.iter_listW (A := X.A.in1) (I.ok.hd hc) hl.isList fun s₂ e W st hfp hw hk => ?_)
  refine ⟨_, _, _, _, _, _, _, s.heap, fun i j => decide (¬ lexLe (f (ts.getD j a)) (f (ts.getD i a))), rfl, W, st, hfp, by rw [List.size_toArray, hn]; exact h0, hw, hk, fun i j vi vj s' Q' E' hk' hi hj hq => ?_, fun v s' hP m => ?_⟩
  · obtain ⟨t, rfl, mt, e1⟩ := val i vi hi
    obtain ⟨u, rfl, mu, e2⟩ := val j vj hj
    have z := tup_less (s2 := s') (ns := [(f t).1, (f t).2]) (ms := [(f u).1, (f u).2]) I (hs t mt) (hs u mu) hu hk'
    have e3 : lexP (fun x y => decide (x < y)) (decide ([(f t).1, (f t).2].length < [(f u).1, (f u).2].length)) [(f t).1, (f t).2] [(f u).1, (f u).2] = decide (¬ lexLe (f u) (f t)) := lexP_pair _ _
    rw [e3] at z
    have hq : Q' (.bool (decide (¬ lexLe (f (ts.getD j a)) (f (ts.getD i a))))) s' := hq
    rw [e1, e2] at hq
    exact z X.prog X.w _ _ hq
  · obtain ⟨h', tk, rfl, hk'⟩ := PySem.W.moved_old e rfl m
    obtain ⟨t, rfl, mt, e1⟩ := val _ v hP
    obtain ⟨b1, b2⟩ := argBest_le (fun i => f (ts.getD i a)) (its.toArray.size - 1)
    refine ⟨.ref t, H, I.kept (t' := tk) fun c o e => hk' c o e, rfl, q t mt fun u mu => ?_⟩
    obtain ⟨i, hi, e⟩ := List.mem_iff_getElem.mp mu
    have e2 : f (ts.getD i a) = f u := by rw [List.getD_eq_getElem?_getD, List.getElem?_eq_getElem hi, e]; rfl
    rw [← e1, ← e2]
    exact b2 i (by rw [List.size_toArray]; omega)
theorem cr_maxS (hc : X.calm = true) (hu : X.A.units + 1 < cLine) : CallR X (.builtin "max") rMaxS := by
  intro pins s σ H vs us Q I r h
  obtain ⟨a, ts, f, rfl, ha, hs, h0, q⟩ := h
  rw [Vals.ref1 r]
  obtain ⟨its, rv, hl, _⟩ := I.list (SqL.of ha)
  have hn : its.length = ts.length := by rw [← rv.length, List.length_map]
  have val : ∀ (i : Nat) v, its.toArray[i]? = some v → ∃ t, v = .ref t ∧ t ∈ ts ∧ f (ts.getD i a) = f t := fun i v hv => by
    obtain ⟨t, e, rfl⟩ := refs_val rv rfl hv
    refine ⟨t, rfl, List.mem_of_getElem? e, ?_⟩
    rw [List.getD_eq_getElem?_getD, e]
    rfl
  refine call_max_walkH (PySem.W.iter_listW (A := X.A.in1) (I.ok.hd hc) hl.isList fun s₂ e W st hfp hw hk => ?_)
  refine ⟨_, _, _, _, _, _, _, s.heap, fun i j => decide (¬ lexLe (ngP (f (ts.getD j a))) (ngP (f (ts.getD i a)))), rfl, W, st, hfp, by rw [List.size_toArray, hn]; exact h0, hw, hk, fun i j vi vj s' Q' E' hk' hi hj hq => ?_, fun v s' hP m => ?_⟩
  · obtain ⟨t, rfl, mt, e1⟩ := val i vi hi
    obtain ⟨u, rfl, mu, e2⟩ := val j vj hj
    have z := tup_more (s2 := s') (ns := [(f t).1, (f t).2]) (ms := [(f u).1, (f u).2]) I (hs t mt) (hs u mu) hu hk'
    have e3 : lexP (fun x y => decide (y < x)) (decide ([(f u).1, (f u).2].length < [(f t).1, (f t).2].length)) [(f t).1, (f t).2] [(f u).1, (f u).2] = decide (¬ lexLe (ngP (f u)) (ngP (f t))) := (lexP_pairG _ _).trans (by rw [decide_eq_decide, lexLe_ng])
    rw [e3] at z
    have hq : Q' (.bool (decide (¬ lexLe (ngP (f (ts.getD j a))) (ngP (f (ts.getD i a)))))) s' := hq
    rw [e1, e2] at hq
    exact z X.prog X.w _ _ hq
  · obtain ⟨h', tk, rfl, hk'⟩ := PySem.W.moved_old e rfl m
    obtain ⟨t, rfl, mt, e1⟩ := val _ v hP
    obtain ⟨b1, b2⟩ := argBest_le (fun i => ngP (f (ts.getD i a))) (its.toArray.size - 1)
    refine ⟨.ref t, H, I.kept (t' := tk) fun c o e => hk' c o e, rfl, q t mt fun u mu => ?_⟩
    obtain ⟨i, hi, e⟩ := List.mem_iff_getElem.mp mu
    have e2 : f (ts.getD i a) = f u := by rw [List.getD_eq_getElem?_getD, List.getElem?_eq_getElem hi, e]; rfl
    rw [← e1, ← e2]
    exact (lexLe_ng _ _).mp (b2 i (by rw [List.size_toArray]; omega))
end
end Nc

/-! Own rules: sorted of a list of tuples (n, (x, y)). -/
namespace Nc
open PySem PySem.Spec PyProof.Rows L2
/-- the order of (n, pair) -/
def le3 (n : Int) (p : Int × Int) (m : Int) (q : Int × Int) : Prop := n < m ∨ (n = m ∧ lexLe p q)
instance (n : Int) (p : Int × Int) (m : Int) (q : Int × Int) : Decidable (le3 n p m q) := by unfold le3; infer_instance
def dP2 (p : Int × Int) : PyData := .tuple [.int p.1, .int p.2]
def dP3 (n : Int) (p : Int × Int) : PyData := .tuple [.int n, dP2 p]
theorem al_int (x y : Int) : PySem.W.alike (.int x) (.int y) = true := by simp [PySem.W.alike]
theorem al_2 (p q : Int × Int) : PySem.W.alike (dP2 p) (dP2 q) = true := by simp [dP2, PySem.W.alike, PySem.W.alikeAll]
theorem al_3 (n m : Int) (p q : Int × Int) : PySem.W.alike (dP3 n p) (dP3 m q) = true := by simp [dP3, PySem.W.alike, PySem.W.alikeAll, al_2]
theorem eqv_int2 (x y : Int) : PyData.eqv (.int x) (.int y) = decide (x = y) := by simp [PyData.eqv, Bool.beq_eq_decide_eq]
theorem eqv_2 (p q : Int × Int) : PyData.eqv (dP2 p) (dP2 q) = decide (p = q) := by
  simp only [dP2, PyData.eqv, PyData.eqvAll, Bool.and_true]
  rw [Bool.eq_iff_iff]
  simp only [Bool.and_eq_true, beq_iff_eq, decide_eq_true_eq]
  exact ⟨fun h => Prod.ext h.1 h.2, fun h => by rw [h]; exact ⟨rfl, rfl⟩⟩
theorem lt_2 (p q : Int × Int) : PySem.W.dataLt (dP2 p) (dP2 q) = decide (¬ lexLe q p) := by
  unfold dP2
  rw [PySem.W.dataLt_pair (al_int _ _) (al_int _ _), eqv_int2, eqv_int2, PySem.W.dataLt_int, PySem.W.dataLt_int]
  unfold lexLe
  by_cases a : p.1 = q.1
  · rw [if_pos (decide_eq_true a)]
    by_cases b : p.2 = q.2
    · rw [if_pos (decide_eq_true b), eq_comm, decide_eq_false_iff_not]
      omega
    · rw [if_neg (by simpa using b), decide_eq_decide]
      omega
  · rw [if_neg (by simpa using a), decide_eq_decide]
    omega
theorem lt_3 (n m : Int) (p q : Int × Int) : PySem.W.dataLt (dP3 n p) (dP3 m q) = decide (¬ le3 m q n p) := by
  unfold dP3
  rw [PySem.W.dataLt_pair (al_int _ _) (al_2 _ _), eqv_int2, eqv_2, PySem.W.dataLt_int, lt_2]
  unfold le3
  by_cases a : n = m
  · rw [if_pos (decide_eq_true a)]
    by_cases b : p = q
    · rw [if_pos (decide_eq_true b), eq_comm, decide_eq_false_iff_not]
      have := lexLe.refl q
      rw [b]
      simp [a, this]
    · rw [if_neg (by simpa using b), decide_eq_decide]
      simp [a]
  · rw [if_neg (by simpa using a), decide_eq_decide]
    omega
theorem le3.trans {n m k : Int} {p q r : Int × Int} (a : le3 n p m q) (b : le3 m q k r) : le3 n p k r := by
  unfold le3 at *
  rcases a with a | ⟨a, a2⟩ <;> rcases b with b | ⟨b, b2⟩
  · exact .inl (by omega)
  · exact .inl (by omega)
  · exact .inl (by omega)
  · exact .inr ⟨by omega, a2.trans b2⟩
theorem le3.total (n m : Int) (p q : Int × Int) : le3 n p m q ∨ le3 m q n p := by
  unfold le3
  rcases lexLe.total p q with h | h <;> by_cases c : n < m <;> by_cases d : m < n
  all_goals first
    | exact .inl (.inl c)
    | exact .inr (.inl d)
    | exact .inl (.inr ⟨by omega, h⟩)
    | exact .inr (.inr ⟨by omega, h⟩)
section
variable {X : Cx}
def rSort3 : List V → Hp → VK → Prop := fun vs H Q => ∃ (a : Addr) (ts : List Addr) (w : Addr → Int) (p : Addr → Int × Int), vs = [V.ref a] ∧ H a = some (.lst (ts.map V.ref)) ∧ (∀ t ∈ ts, ∃ u, H t = some (.tup [.int (w t), .ref u]) ∧ H u = some (.tup [.int (p t).1, .int (p t).2])) ∧
  ∀ (us : List Addr) (q : Addr) (H2 : Hp), us.Perm ts → us.Pairwise (fun a b => le3 (w a) (p a) (w b) (p b)) → Same H H2 → H q = none → H2 q = some (.lst (us.map V.ref)) → Q (.ref q) H2
theorem dp3_all {K : PySem.W.Frag} {H : Hp} {w : Addr → Int} {p : Addr → Int × Int} : ∀ {ts : List Addr}, (∀ t ∈ ts, ∃ u, H t = some (.tup [.int (w t), .ref u]) ∧ H u = some (.tup [.int (p t).1, .int (p t).2])) → DpAll K H (ts.map V.ref) (ts.map fun t => dP3 (w t) (p t))
  | [], _ => .nil
  | t :: ts, h => by
    obtain ⟨u, e1, e2⟩ := h t List.mem_cons_self
    exact .cons (.tup (SqT.of e1) (.cons (.int _) (.cons (.tup (SqT.of e2) (.cons (.int _) (.cons (.int _) .nil))) .nil))) (dp3_all fun u m => h u (List.mem_cons_of_mem _ m))
theorem each_refs : ∀ {ts : List Addr} {us : List Value}, Vals (ts.map V.ref) us → PySem.W.EachIs (fun (v : Value) (t : Addr) => v = .ref t) us ts
  | [], _, r => by cases r; exact .nil
  | t :: ts, _, r => by
    cases r with
    | cons h1 h2 => exact .cons (by cases h1; rfl) (each_refs h2)
theorem refs_each : ∀ {ts : List Addr} {us : List Value}, PySem.W.EachIs (fun (v : Value) (t : Addr) => v = .ref t) us ts → Vals (ts.map V.ref) us
  | _, _, .nil => .nil
  | _, _, .cons h t => .cons (by rw [h]; rfl) (refs_each t)
theorem cr_sort3 (hu : X.A.units + 64 < cLine) : CallR X (.builtin "sorted") rSort3 := by
  intro pins s σ H vs us Q I r h
  obtain ⟨a, ts, wt, p, rfl, ha, hs, q⟩ := h
  rw [Vals.ref1 r]
  obtain ⟨its, rv, hl, hz⟩ := I.list (SqL.of ha)
  obtain ⟨as, ra⟩ := Dp.readsAll I _ _ _ (dp3_all hs) rv
  have dep : ∀ t, (dP3 (wt t) (p t)).depth ≤ 10 := fun t => by simp [dP3, dP2, PyData.depth, PyData.depthAll]
  refine PySem.W.sorted_data (β := Addr) (bs := ts) (enc := fun t => dP3 (wt t) (p t)) (R := fun v t => v = .ref t) hl.isList (each_refs rv) (PySem.W.readsAll_each _ ra) (PySem.W.AllAlike.of fun t u => al_3 _ _ _ _) (PySem.W.Sortable.tuples fun t => ⟨_, _, rfl⟩) (by rw [List.length_map] at hz; exact hz) (fun t _ => by have := dep t; omega) fun out hlen hout => ?_
  have eL : PySem.W.dataLe false (fun t => dP3 (wt t) (p t)) = fun x y => decide (le3 (wt x) (p x) (wt y) (p y)) := by
    rw [PySem.W.dataLe_eq]
    funext x y
    show (!PySem.W.dataLt _ _) = _
    rw [lt_3]
    simp
  rw [eL] at hout
  have pm := List.mergeSort_perm ts fun x y => decide (le3 (wt x) (p x) (wt y) (p y))
  have so := List.pairwise_mergeSort (le := fun x y => decide (le3 (wt x) (p x) (wt y) (p y))) (fun x y z h1 h2 => by
    rw [decide_eq_true_eq] at *
    exact h1.trans h2) (fun x y => by
    rw [Bool.or_eq_true, decide_eq_true_eq, decide_eq_true_eq]
    exact le3.total _ _ _ _) ts
  obtain ⟨n, hn⟩ := sortedAll_at s.heap its (List.toArray out)
  have vo := refs_each hout
  refine ⟨.ref (s.heap.objs.size + 1), upd H (s.heap.objs.size + 1) (.lst ((ts.mergeSort fun x y => decide (le3 (wt x) (p x) (wt y) (p y))).map V.ref)), I.laid (t' := s.toks) (fun b o e => sortedAll_old e) (Nat.le_succ _) ⟨?_, out, n, vo, hn⟩, rfl, q _ _ _ pm (so.imp fun h => of_decide_eq_true h) (Same.upd (I.hok.fresh (Nat.le_succ _))) (I.hok.fresh (Nat.le_succ _)) upd_same⟩
  rw [List.length_map, pm.length_eq]
  rw [List.length_map] at hz
  exact hz
end
end Nc

/-! Own rules: a def of one parameter, called by its keyword. -/
namespace Nc
open PySem PySem.Spec PyProof.Rows L2
def gRev {α : Type} (us ws : List α) : List α := match us with
  | [] => ws.reverse
  | _ :: _ => []
theorem Vals.rev : ∀ {xs : List V} {us : List Value}, Vals xs us → Vals xs.reverse us.reverse
  | _, _, .nil => .nil
  | _, _, .cons r t => by
    rw [List.reverse_cons, List.reverse_cons]
    exact Vals.append (Vals.rev t) (.cons r .nil)
theorem kb_rev {K : PySem.W.Frag} {x q : Str} {st : Stmt} {f : Addr} {fd : FuncData} {ps ks : List Str} (F : Fun K x q st f fd) (h0 : 0 < ps.length)
    (h : ∀ (kV doc pm : Value) (an : Option Addr) (cdv ct : Value) (ws : List Value), ws.length = ps.length → bindArgs (PySem.W.fnOf x q (defArgs st) (defBody st) (defScope st) .none kV doc pm an cdv ct) ⟨[], ks.zip ws⟩ = (pure (ps.zip ws.reverse) : Sem (List (Str × Value)))) :
    KBinds K fd ps ks gRev gRev := by
  obtain ⟨oc, od, kV, doc, pm, an, cdv, ct, osl, rfl, lk, hcd⟩ := F.ex
  refine ⟨fun s us ws _ hl => ?_, fun {vs us zs ws} r rz => ?_⟩
  · cases us with
    | nil =>
      have hl : ws.reverse.length = ps.length := hl
      rw [List.length_reverse] at hl
      exact .of_eq (h kV doc pm an cdv ct ws hl)
    | cons a r =>
      have hl : 0 = ps.length := hl
      omega
  · cases r with
    | nil => exact Vals.rev rz
    | cons _ _ => exact .nil
/-- the def x of one parameter keeps its promise when it is called by keyword -/
structure Ck (P : Program) (w : World) (K : PySem.W.Frag) (mg : Str → Option Value) (base : Heap) (CX : CXT) (x : Str) (k : Nat) (y : Str) (sp : Sp) : Prop where
  ex : ∃ (f : Addr) (fd : FuncData), FnOk P w K mg base CX k f fd [y] sp ∧ mg x = some (.ref f) ∧ PySem.W.keepIn K (.ref f) = true ∧ KBinds K fd [y] [y] gRev gRev
theorem Df.ck {P : Program} {w : World} {K : PySem.W.Frag} {mg : Str → Option Value} {base : Heap} {CX : CXT} {x y : Str} {k : Nat} {sp : Sp} {st : Stmt} (D : Df K mg x st [y]) (h : ∀ f fd, Fun K x x st f fd → FnOk P w K mg base CX k f fd [y] sp)
    (b : ∀ (kV doc pm : Value) (an : Option Addr) (cdv ct : Value) (ws : List Value), ws.length = 1 → bindArgs (PySem.W.fnOf x x (defArgs st) (defBody st) (defScope st) .none kV doc pm an cdv ct) ⟨[], [y].zip ws⟩ = (pure ([y].zip ws.reverse) : Sem (List (Str × Value)))) : Ck P w K mg base CX x k y sp := by
  obtain ⟨f, fd, F, g, kk, _⟩ := D.ex
  exact ⟨f, fd, h f fd F, g, kk, kb_rev (ps := [y]) (ks := [y]) F Nat.one_pos b⟩
section
variable {X : Cx} {CX : CXT} {k : Nat} {y : Str} {sp : Sp} {E : XK} {x : Str} {p pos kpos : Pos} {e : Expr} {te : TE}
theorem pe_ck (C : Ck X.prog X.w X.K X.mg X.base CX x k y sp) (hr : Room k X.A) (hg : Gl X x) (hx : Passes CX X E) (he : PE X e te) (hall : (backToKw pos (keywordEach [⟨some y, e, kpos⟩] X.env)).all (·.1.isSome) = true := by rfl) (hks : (backToKw pos (keywordEach [⟨some y, e, kpos⟩] X.env)).filterMap (·.1) = [y] := by rfl)
    (hdb : (x == ("__debug__" : Str)) = false := by decide) (hpl : ((backTo pos (starEach [] X.env)).any (·.1) || (backToKw pos (keywordEach [⟨some y, e, kpos⟩] X.env)).any (·.1.isNone)) = false := by rfl) :
    PE X (.Call (.Name x p) [] [⟨some y, e, kpos⟩] pos) (fun σ H Q => te σ H fun v H2 => sp [v] H2 Q E) := by
  obtain ⟨f, fd, F, g, kk, b⟩ := C.ex
  exact peOf (pe_callKw F hr hg g kk b hx (pk_cons he pk_nil) hall hks hdb hpl) fun σ H Q h => h
end
end Nc
namespace NcK
open PySem PySem.Spec PyProof.Rows L2 Nc
def topS (i : Nat) : Stmt := PySem.Challenge.pw_nearcells_k06_whole_hulls_and_what_is_in.main.body.getD i (.Pass ⟨0, 0, 0, 0⟩)
/-! words of this text: bits, what stands in the heap, one step of a reading -/
local macro_rules | `(tactic| array_mem_dec) => `(tactic| first
  | (refine nbu (by assumption) (by decide); done)
  | (refine nbu (j := 21) (by omega) (by decide); done)
  | (refine nbm ?_ ?_ <;> array_mem_dec)
  | (refine nba (by decide) ?_ ?_ <;> array_mem_dec)
  | (refine nbs (by decide) ?_ ?_ <;> array_mem_dec)
  | (refine nbn ?_; array_mem_dec)
  | (refine nbu (j := 64) (by decide) (by decide); done))
local macro_rules | `(tactic| sizeOf_list_dec) => `(tactic| first
  | assumption
  | exact upd_same
  | (refine (by assumption : Same _ _) _ _ ?_; sizeOf_list_dec))
local macro_rules | `(tactic| array_get_dec) => `(tactic| first
  | refine ⟨_, rfl, ?_⟩
  | refine ⟨_, _, rfl, rfl, ?_⟩
  | refine ⟨_, _, _, _, rfl, rfl, SqT.of (by sizeOf_list_dec), by rfl, ?_⟩
  | refine ⟨_, _, _, _, rfl, rfl, SqL.of (by sizeOf_list_dec), by rfl, ?_⟩
  | refine ⟨_, _, rfl, SqT.of (by sizeOf_list_dec), by rfl, ?_⟩
  | refine ⟨_, _, _, _, _, rfl, .ty _, .base (.int _), kit_ty (r := true) (by decide +kernel), ?_⟩
  | refine ⟨_, _, _, _, _, rfl, .ty _, .base (.tup (by sizeOf_list_dec)), kit_ty (r := true) (by decide +kernel), ?_⟩
  | refine ⟨_, _, _, _, _, rfl, .ty _, .base (.lst (by sizeOf_list_dec)), kit_ty (r := true) (by decide +kernel), ?_⟩
  | refine ⟨_, _, _, _, _, rfl, .ty _, .base (.int _), kit_ty (r := false) (by decide +kernel), ?_⟩
  | refine ⟨_, _, rfl, .inr (SqT.of (by sizeOf_list_dec)), ?_⟩
  | refine ⟨_, _, rfl, .inl (SqL.of (by sizeOf_list_dec)), ?_⟩
  | refine w_itf (by omega) ?_
  | refine w_itt (by omega) ?_
  | refine w_ntt (by omega) ?_
  | refine w_ntf (by omega) ?_
  | refine w_itt (congrArg V.int (by omega)) ?_
  | refine w_itf (fun e => absurd (V.int.inj e) (by omega)) ?_
  | refine w_ntt (congrArg V.int (by omega)) ?_
  | refine w_ntf (fun e => absurd (V.int.inj e) (by omega)) ?_
  | refine ⟨_, _, rfl, ?_⟩
  | refine ⟨(by refine cmw ?_ ?_ <;> array_mem_dec : CMulW _ _), ?_⟩
  | refine ⟨⟨by decide, by decide, by decide⟩, ?_⟩
  | refine ⟨Nat.le_trans (m := 64) (by simp) (by decide), ?_⟩
  | refine ⟨rfl, ?_⟩
  | refine ⟨_, _, _, rfl, ?_⟩
  | refine Or.inl ⟨_, rfl, ?_⟩
  | refine Or.inr ⟨_, rfl, ?_⟩)
/-! ### hulls: chains of sorted sites -/
abbrev Pt := Int × Int
def crs (u v : Pt) : Int := u.1 * v.2 - u.2 * v.1
def vec (a b : Pt) : Pt := (b.1 - a.1, b.2 - a.2)
/-- the double area, above 0 for a turn to the left -/
def tn (a b c : Pt) : Int := (b.1 - a.1) * (c.2 - a.2) - (b.2 - a.2) * (c.1 - a.1)
/-- to the right, or straight up -/
def fwd (u : Pt) : Prop := 0 < u.1 ∨ (u.1 = 0 ∧ 0 < u.2)
def lt2 (a b : Pt) : Prop := a.1 < b.1 ∨ (a.1 = b.1 ∧ a.2 < b.2)
theorem fwd_vec {a b : Pt} : fwd (vec a b) ↔ lt2 a b := by
  unfold fwd vec lt2
  simp only
  omega
theorem lt2_tr {a b c : Pt} (h : lt2 a b) (k : lt2 b c) : lt2 a c := by
  unfold lt2 at *
  omega
theorem lt2_irr {a : Pt} : ¬ lt2 a a := by
  unfold lt2
  omega
theorem lt2_tri {a b : Pt} (h : a ≠ b) : lt2 a b ∨ lt2 b a := by
  unfold lt2
  have : a.1 ≠ b.1 ∨ a.2 ≠ b.2 := by
    by_cases c : a.1 = b.1
    · exact .inr fun d => h (Prod.ext c d)
    · exact .inl c
  omega
theorem ltge (a b : Int) : a < b ∨ b ≤ a := by omega
theorem mul_nn {a b : Int} (h : 0 ≤ a) (k : 0 ≤ b) : 0 ≤ a * b := Int.mul_nonneg h k
theorem of_mul_nn {a b : Int} (h : 0 ≤ a * b) (k : 0 < b) : 0 ≤ a := by
  rcases ltge a 0 with z | z
  · have := Int.mul_neg_of_neg_of_pos z k
    omega
  · exact z
theorem of_mul_pos {a b : Int} (h : 0 < a * b) (k : 0 < b) : 0 < a := by
  rcases ltge 0 a with z | z
  · exact z
  · have := Int.mul_nonpos_of_nonpos_of_nonneg z (Int.le_of_lt k)
    omega
/-- what goes forward is ordered by its slope -/
theorem crs_tr {u v w : Pt} (fu : fwd u) (fv : fwd v) (fw : fwd w) (h : 0 ≤ crs u v) (k : 0 ≤ crs v w) : 0 ≤ crs u w := by
  obtain ⟨u1, u2⟩ := u
  obtain ⟨v1, v2⟩ := v
  obtain ⟨w1, w2⟩ := w
  unfold crs fwd at *
  simp only at *
  rcases fv with v0 | ⟨v0, v3⟩
  · have e : (u1 * w2 - u2 * w1) * v1 = (u1 * v2 - u2 * v1) * w1 + (v1 * w2 - v2 * w1) * u1 := by grind
    have p1 := mul_nn h (show 0 ≤ w1 by omega)
    have p2 := mul_nn k (show 0 ≤ u1 by omega)
    exact of_mul_nn (by omega) v0
  · subst v0
    have w0 : w1 = 0 := by
      have : 0 ≤ -(v2 * w1) := by omega
      rcases ltge 0 w1 with z | z
      · have := Int.mul_pos v3 z
        omega
      · omega
    subst w0
    have := mul_nn (show 0 ≤ u1 by omega) (show 0 ≤ w2 by omega)
    omega
theorem crs_tr_lt {u v w : Pt} (fu : fwd u) (fv : fwd v) (fw : fwd w) (h : 0 < crs u v) (k : 0 ≤ crs v w) : 0 < crs u w := by
  obtain ⟨u1, u2⟩ := u
  obtain ⟨v1, v2⟩ := v
  obtain ⟨w1, w2⟩ := w
  unfold crs fwd at *
  simp only at *
  have u0 : 0 < u1 := by
    rcases fu with z | ⟨z, y⟩
    · exact z
    · subst z
      have := mul_nn (show 0 ≤ u2 by omega) (show 0 ≤ v1 by omega)
      omega
  rcases fv with v0 | ⟨v0, v3⟩
  · have e : (u1 * w2 - u2 * w1) * v1 = (u1 * v2 - u2 * v1) * w1 + (v1 * w2 - v2 * w1) * u1 := by grind
    refine of_mul_pos (b := v1) ?_ v0
    rw [e]
    rcases fw with w0 | ⟨w0, w3⟩
    · have p1 := Int.mul_pos h w0
      have p2 := mul_nn k (Int.le_of_lt u0)
      omega
    · subst w0
      have p1 := Int.mul_pos (Int.mul_pos v0 w3) u0
      grind
  · subst v0
    have w0 : w1 = 0 := by
      rcases ltge 0 w1 with z | z
      · have := Int.mul_pos v3 z
        omega
      · omega
    subst w0
    have := Int.mul_pos u0 (show 0 < w2 by omega)
    omega
theorem crs_neg (u v : Pt) : crs u v = -crs v u := by
  unfold crs
  grind
theorem tn_crs (a b c : Pt) : tn a b c = crs (vec a b) (vec a c) ∧ tn a b c = crs (vec a b) (vec b c) ∧ tn a b c = crs (vec a c) (vec b c) := by
  unfold tn crs vec
  simp only
  grind
theorem tn_rot (a b c : Pt) : tn a b c = tn b c a := by
  unfold tn
  grind
theorem tn_swap (a b c : Pt) : tn b a c = -tn a b c := by
  unfold tn
  grind
theorem tn_end (a b : Pt) : tn a b a = 0 ∧ tn a b b = 0 := by
  unfold tn
  grind
/-- a further one behind an edge, over it -/
theorem over_next {a b c d : Pt} (ab : lt2 a b) (bc : lt2 b c) (cd : lt2 c d) (h : 0 ≤ tn a b c) (k : 0 ≤ tn b c d) : 0 ≤ tn a b d := by
  rw [(tn_crs a b c).2.1] at h
  rw [(tn_crs b c d).2.1] at k
  have fab := fwd_vec.mpr ab
  have fbc := fwd_vec.mpr bc
  have fcd := fwd_vec.mpr cd
  have t := crs_tr fab fbc fcd h k
  have e : tn a b d = crs (vec a b) (vec b c) + crs (vec a b) (vec c d) := by
    unfold tn crs vec
    grind
  omega
/-- behind a: what is over an edge a, b is over a, s, if s is not over a, b -/
theorem over_fore {a b s p : Pt} (ab : lt2 a b) (as : lt2 a s) (ap : lt2 a p) (h : tn a b s ≤ 0) (k : 0 ≤ tn a b p) : 0 ≤ tn a s p := by
  rw [(tn_crs a b s).1] at h
  rw [(tn_crs a b p).1] at k
  rw [(tn_crs a s p).1]
  exact crs_tr (fwd_vec.mpr as) (fwd_vec.mpr ab) (fwd_vec.mpr ap) (by rw [crs_neg]; omega) k
/-- before a: what is over the edge that ends there is over the next one, too -/
theorem over_back {c a s p : Pt} (ca : lt2 c a) (as : lt2 a s) (pa : lt2 p a) (h : 0 ≤ tn c a s) (k : 0 ≤ tn c a p) : 0 ≤ tn a s p := by
  rw [(tn_crs c a s).2.1] at h
  have k2 : 0 ≤ crs (vec p a) (vec c a) := by
    have : tn c a p = crs (vec p a) (vec c a) := by
      unfold tn crs vec
      grind
    omega
  have t := crs_tr (fwd_vec.mpr pa) (fwd_vec.mpr ca) (fwd_vec.mpr as) k2 h
  have : tn a s p = crs (vec p a) (vec a s) := by
    unfold tn crs vec
    grind
  omega
/-! the program's chain, the last one ahead -/
def popF (least : Int) (s : Pt) : List Pt → List Pt
  | b :: a :: r => if tn a b s < least then popF least s (a :: r) else b :: a :: r
  | l => l
def pushF (least : Int) (st : List Pt) (s : Pt) : List Pt := s :: popF least s st
/-- the edges of a chain: the later one first -/
def Edg : List Pt → List (Pt × Pt)
  | b :: a :: r => (b, a) :: Edg (a :: r)
  | _ => []
def Cvx (least : Int) : List Pt → Prop
  | c :: b :: a :: r => least ≤ tn a b c ∧ Cvx least (b :: a :: r)
  | _ => True
/-- what stands of the chain of the sites P -/
structure Chn (least : Int) (P st : List Pt) : Prop where
  cvx : Cvx least st
  srt : st.Pairwise fun x y => lt2 y x
  sub : ∀ x ∈ st, x ∈ P
  top : ∀ p ∈ P, ∀ x, st.head? = some x → p = x ∨ lt2 p x
  bot : ∀ p ∈ P, ∀ x, st.getLast? = some x → p = x ∨ lt2 x p
  low : ∀ e ∈ Edg st, ∀ p ∈ P, 0 ≤ tn e.2 e.1 p
theorem edg_over {least : Int} (l0 : 0 ≤ least) {s : Pt} : ∀ (r : List Pt) (b a : Pt), Cvx least (b :: a :: r) → (b :: a :: r).Pairwise (fun x y => lt2 y x) → lt2 b s → 0 ≤ tn a b s → ∀ e ∈ Edg (b :: a :: r), 0 ≤ tn e.2 e.1 s
  | [], b, a, _, _, _, h, e, he => by
    have : e = (b, a) := by simpa [Edg] using he
    rw [this]
    exact h
  | z :: r, b, a, cv, so, bs, h, e, he => by
    rcases List.mem_cons.mp (show e ∈ (b, a) :: Edg (a :: z :: r) from he) with rfl | he
    · exact h
    · have ab : lt2 a b := (List.pairwise_cons.mp so).1 a List.mem_cons_self
      have so2 := (List.pairwise_cons.mp so).2
      have za : lt2 z a := (List.pairwise_cons.mp so2).1 z List.mem_cons_self
      exact edg_over l0 r a z cv.2 so2 (lt2_tr ab bs) (over_next za ab bs (Int.le_trans l0 cv.1) h) e he
/-- one put on -/
theorem chn_push {least : Int} (l0 : 0 ≤ least) (l1 : least ≤ 1) {P : List Pt} {s : Pt} (hs : ∀ p ∈ P, lt2 p s) : ∀ (st : List Pt), st ≠ [] → Cvx least st → st.Pairwise (fun x y => lt2 y x) → (∀ x ∈ st, x ∈ P) → (∀ p ∈ P, ∀ x, st.getLast? = some x → p = x ∨ lt2 x p) → (∀ e ∈ Edg st, ∀ p ∈ P, 0 ≤ tn e.2 e.1 p) →
    (∀ p ∈ P, ∀ b, st.head? = some b → lt2 b p → 0 ≤ tn b s p) → Chn least (P ++ [s]) (pushF least st s)
  | [], h, _, _, _, _, _, _ => absurd rfl h
  | [b], _, _, _, sub, bot, _, cover => by
    have bP := sub b List.mem_cons_self
    refine ⟨True.intro, ?_, ?_, ?_, ?_, ?_⟩
    · exact List.pairwise_cons.mpr ⟨fun x hx => by rw [List.mem_singleton.mp hx]; exact hs b bP, List.pairwise_singleton _ _⟩
    · intro x hx
      rcases List.mem_cons.mp hx with rfl | hx
      · exact List.mem_append_right _ (List.mem_singleton.mpr rfl)
      · exact List.mem_append_left _ (sub x hx)
    · intro p hp x hx
      obtain rfl : s = x := Option.some.inj hx
      rcases List.mem_append.mp hp with m | m
      · exact .inr (hs p m)
      · exact .inl (List.mem_singleton.mp m)
    · intro p hp x hx
      obtain rfl : b = x := Option.some.inj hx
      rcases List.mem_append.mp hp with m | m
      · exact bot p m b rfl
      · rw [List.mem_singleton.mp m]
        exact .inr (hs b bP)
    · intro e he p hp
      have : e = (s, b) := by simpa [Edg, pushF, popF] using he
      subst this
      rcases List.mem_append.mp hp with m | m
      · rcases bot p m b rfl with rfl | q
        · rw [(tn_end p s).1]
          exact Int.le_refl _
        · exact cover p m b rfl q
      · rw [List.mem_singleton.mp m, (tn_end b s).2]
        exact Int.le_refl _
  | b :: a :: r, _, cv, so, sub, bot, low, cover => by
    have so2 := (List.pairwise_cons.mp so).2
    have ab : lt2 a b := (List.pairwise_cons.mp so).1 a List.mem_cons_self
    have bP := sub b List.mem_cons_self
    have aP := sub a (List.mem_cons_of_mem _ List.mem_cons_self)
    by_cases c : tn a b s < least
    · have e : pushF least (b :: a :: r) s = pushF least (a :: r) s := by
        unfold pushF
        rw [popF, if_pos c]
      rw [e]
      refine chn_push l0 l1 hs (a :: r) (by simp) ?_ so2 (fun x hx => sub x (List.mem_cons_of_mem _ hx)) (fun p hp x hx => bot p hp x ?_) (fun e he => low e ?_) (fun p hp x hx q => ?_)
      · cases r with
        | nil => exact True.intro
        | cons z r => exact cv.2
      · exact hx
      · exact List.mem_cons_of_mem _ he
      · obtain rfl : a = x := Option.some.inj hx
        exact over_fore ab (hs a aP) q (by omega) (low (b, a) List.mem_cons_self p hp)
    · have e : pushF least (b :: a :: r) s = s :: b :: a :: r := by
        unfold pushF
        rw [popF, if_neg c]
      rw [e]
      have pos : 0 ≤ tn a b s := by omega
      refine ⟨⟨by omega, cv⟩, ?_, ?_, ?_, ?_, ?_⟩
      · exact List.pairwise_cons.mpr ⟨fun x hx => hs x (sub x hx), so⟩
      · intro x hx
        rcases List.mem_cons.mp hx with rfl | hx
        · exact List.mem_append_right _ (List.mem_singleton.mpr rfl)
        · exact List.mem_append_left _ (sub x hx)
      · intro p hp x hx
        obtain rfl : s = x := Option.some.inj hx
        rcases List.mem_append.mp hp with m | m
        · exact .inr (hs p m)
        · exact .inl (List.mem_singleton.mp m)
      · intro p hp x hx
        have hx : (b :: a :: r).getLast? = some x := hx
        rcases List.mem_append.mp hp with m | m
        · exact bot p m x hx
        · rw [List.mem_singleton.mp m]
          exact .inr (hs x (sub x (List.mem_of_getLast? hx)))
      · intro e he p hp
        rcases List.mem_append.mp hp with m | m
        · rcases List.mem_cons.mp (show e ∈ (s, b) :: Edg (b :: a :: r) from he) with rfl | he
          · by_cases q : p = b
            · rw [q, (tn_end b s).1]
              exact Int.le_refl _
            · rcases lt2_tri q with z | z
              · exact over_back ab (hs b bP) z pos (low (b, a) List.mem_cons_self p m)
              · exact cover p m b rfl z
          · exact low e he p m
        · rw [List.mem_singleton.mp m]
          rcases List.mem_cons.mp (show e ∈ (s, b) :: Edg (b :: a :: r) from he) with rfl | he
          · rw [(tn_end b s).2]
            exact Int.le_refl _
          · exact edg_over l0 r b a cv so (hs b bP) pos e he
/-- the whole chain of sorted sites -/
theorem chn_all {least : Int} (l0 : 0 ≤ least) (l1 : least ≤ 1) : ∀ (rows : List Pt) (p0 : Pt), (p0 :: rows).Pairwise lt2 → Chn least (p0 :: rows) (rows.foldl (pushF least) [p0]) := by
  have go : ∀ (rows P st : List Pt), st ≠ [] → Chn least P st → (P ++ rows).Pairwise lt2 → Chn least (P ++ rows) (rows.foldl (pushF least) st) := by
    intro rows
    induction rows with
    | nil => intro P st _ h _; rw [List.append_nil]; exact h
    | cons s rows ih =>
      intro P st ne h so
      have e : P ++ s :: rows = (P ++ [s]) ++ rows := by rw [List.append_assoc]; rfl
      rw [e] at so ⊢
      have hs : ∀ p ∈ P, lt2 p s := fun p hp => (List.pairwise_append.mp (List.pairwise_append.mp so).1).2.2 p hp s (List.mem_singleton.mpr rfl)
      refine ih _ _ (by unfold pushF; simp) (chn_push l0 l1 hs st ne h.cvx h.srt h.sub h.bot h.low fun p hp b hb q => ?_) so
      rcases h.top p hp b hb with rfl | z
      · exact absurd q lt2_irr
      · exact absurd (lt2_tr q z) lt2_irr
  intro rows p0 so
  refine go rows [p0] [p0] (by simp) ⟨True.intro, List.pairwise_singleton _ _, fun x hx => hx, fun p hp x hx => ?_, fun p hp x hx => ?_, fun e he => ?_⟩ so
  · rw [List.mem_singleton.mp hp]
    exact .inl (Option.some.inj hx)
  · rw [List.mem_singleton.mp hp]
    exact .inl (Option.some.inj hx)
  · cases he
theorem over_fore_lt {a b s p : Pt} (ab : lt2 a b) (as : lt2 a s) (ap : lt2 a p) (h : tn a b s < 0) (k : 0 ≤ tn a b p) : 0 < tn a s p := by
  rw [(tn_crs a b s).1] at h
  rw [(tn_crs a b p).1] at k
  rw [(tn_crs a s p).1]
  exact crs_tr_lt (fwd_vec.mpr as) (fwd_vec.mpr ab) (fwd_vec.mpr ap) (by rw [crs_neg]; omega) k
/-- what stands within an edge's reach is off its line -/
def Off (P : List Pt) (st : List Pt) : Prop := ∀ e ∈ Edg st, ∀ p ∈ P, lt2 e.2 p → lt2 p e.1 → 0 < tn e.2 e.1 p
/-- with 0: no site is left out of an edge that it lies on -/
theorem off_push {P : List Pt} {s : Pt} (hs : ∀ p ∈ P, lt2 p s) : ∀ (st : List Pt), st ≠ [] → st.Pairwise (fun x y => lt2 y x) → (∀ x ∈ st, x ∈ P) → (∀ e ∈ Edg st, ∀ p ∈ P, 0 ≤ tn e.2 e.1 p) → Off P st →
    (∀ p ∈ P, ∀ b, st.head? = some b → lt2 b p → 0 < tn b s p) → Off (P ++ [s]) (pushF 0 st s)
  | [], h, _, _, _, _, _ => absurd rfl h
  | [b], _, _, _, _, _, cover => by
    intro e he p hp h1 h2
    have : e = (s, b) := by simpa [Edg, pushF, popF] using he
    subst this
    rcases List.mem_append.mp hp with m | m
    · exact cover p m b rfl h1
    · rw [List.mem_singleton.mp m] at h2
      exact absurd h2 lt2_irr
  | b :: a :: r, _, so, sub, low, off, cover => by
    have so2 := (List.pairwise_cons.mp so).2
    have ab : lt2 a b := (List.pairwise_cons.mp so).1 a List.mem_cons_self
    have aP := sub a (List.mem_cons_of_mem _ List.mem_cons_self)
    have bP := sub b List.mem_cons_self
    by_cases c : tn a b s < 0
    · have e : pushF 0 (b :: a :: r) s = pushF 0 (a :: r) s := by
        unfold pushF
        rw [popF, if_pos c]
      rw [e]
      refine off_push hs (a :: r) (by simp) so2 (fun x hx => sub x (List.mem_cons_of_mem _ hx)) (fun e he => low e (List.mem_cons_of_mem _ he)) (fun e he => off e (List.mem_cons_of_mem _ he)) (fun p hp x hx q => ?_)
      obtain rfl : a = x := Option.some.inj hx
      exact over_fore_lt ab (hs a aP) q c (low (b, a) List.mem_cons_self p hp)
    · have e : pushF 0 (b :: a :: r) s = s :: b :: a :: r := by
        unfold pushF
        rw [popF, if_neg c]
      rw [e]
      intro e he p hp h1 h2
      rcases List.mem_cons.mp (show e ∈ (s, b) :: Edg (b :: a :: r) from he) with rfl | he
      · rcases List.mem_append.mp hp with m | m
        · exact cover p m b rfl h1
        · rw [List.mem_singleton.mp m] at h2
          exact absurd h2 lt2_irr
      · rcases List.mem_append.mp hp with m | m
        · exact off e he p m h1 h2
        · -- s lies behind all edges
          have mem : ∀ (l : List Pt) (e : Pt × Pt), e ∈ Edg l → e.1 ∈ l := by
            intro l
            induction l with
            | nil => intro e h; cases h
            | cons x l ih =>
              intro e h
              cases l with
              | nil => cases h
              | cons y l =>
                rcases List.mem_cons.mp (show e ∈ (x, y) :: Edg (y :: l) from h) with rfl | h
                · exact List.mem_cons_self
                · exact List.mem_cons_of_mem _ (ih e h)
          rw [List.mem_singleton.mp m] at h2
          exact absurd (lt2_tr h2 (hs e.1 (sub e.1 (mem _ e he)))) lt2_irr
theorem off_all : ∀ (rows : List Pt) (p0 : Pt), (p0 :: rows).Pairwise lt2 → Off (p0 :: rows) (rows.foldl (pushF 0) [p0]) := by
  have go : ∀ (rows P st : List Pt), st ≠ [] → Chn 0 P st → Off P st → (P ++ rows).Pairwise lt2 → Off (P ++ rows) (rows.foldl (pushF 0) st) := by
    intro rows
    induction rows with
    | nil => intro P st _ _ h _; rw [List.append_nil]; exact h
    | cons s rows ih =>
      intro P st ne h off so
      have e : P ++ s :: rows = (P ++ [s]) ++ rows := by rw [List.append_assoc]; rfl
      rw [e] at so ⊢
      have hs : ∀ p ∈ P, lt2 p s := fun p hp => (List.pairwise_append.mp (List.pairwise_append.mp so).1).2.2 p hp s (List.mem_singleton.mpr rfl)
      have cov : ∀ p ∈ P, ∀ b, st.head? = some b → ¬ lt2 b p := fun p hp b hb q => by
        rcases h.top p hp b hb with rfl | z
        · exact absurd q lt2_irr
        · exact absurd (lt2_tr q z) lt2_irr
      exact ih _ _ (by unfold pushF; simp) (chn_push (by decide) (by decide) hs st ne h.cvx h.srt h.sub h.bot h.low fun p hp b hb q => absurd q (cov p hp b hb)) (off_push hs st ne h.srt h.sub h.low off fun p hp b hb q => absurd q (cov p hp b hb)) so
  intro rows p0 so
  refine go rows [p0] [p0] (by simp) (chn_all (by decide) (by decide) [] p0 (List.pairwise_singleton _ _)) (fun e he => ?_) so
  cases he
/-! turned about -/
def ng (p : Pt) : Pt := (-p.1, -p.2)
theorem ng_ng (p : Pt) : ng (ng p) = p := by
  unfold ng
  exact Prod.ext (Int.neg_neg _) (Int.neg_neg _)
theorem tn_ng (a b c : Pt) : tn (ng a) (ng b) (ng c) = tn a b c := by
  unfold tn ng
  simp only
  grind
theorem lt2_ng {a b : Pt} : lt2 (ng a) (ng b) ↔ lt2 b a := by
  unfold lt2 ng
  simp only
  omega
theorem pop_ng (least : Int) (s : Pt) : ∀ st : List Pt, popF least (ng s) (st.map ng) = (popF least s st).map ng
  | [] => rfl
  | [b] => rfl
  | b :: a :: r => by
    rw [List.map_cons, List.map_cons, popF, popF, tn_ng]
    by_cases c : tn a b s < least
    · rw [if_pos c, if_pos c]
      exact pop_ng least s (a :: r)
    · rw [if_neg c, if_neg c]
      rfl
theorem fold_ng (least : Int) : ∀ (rows st : List Pt), (rows.map ng).foldl (pushF least) (st.map ng) = (rows.foldl (pushF least) st).map ng
  | [], _ => rfl
  | s :: rows, st => by
    rw [List.map_cons, List.foldl_cons, List.foldl_cons]
    have : pushF least (st.map ng) (ng s) = (pushF least st s).map ng := by
      unfold pushF
      rw [pop_ng]
      rfl
    rw [this]
    exact fold_ng least rows (pushF least st s)
/-! ### the next one on a border -/
theorem crs_par {u v w : Pt} (fu : fwd u) (fv : fwd v) (h : crs u v = 0) (k : 0 < crs u w) : 0 < crs v w := by
  obtain ⟨u1, u2⟩ := u
  obtain ⟨v1, v2⟩ := v
  obtain ⟨w1, w2⟩ := w
  unfold crs fwd at *
  simp only at *
  rcases fv with v0 | ⟨v0, v3⟩
  · have u0 : 0 < u1 := by
      rcases fu with z | ⟨z, y⟩
      · exact z
      · subst z
        have := Int.mul_pos y v0
        omega
    have e : (v1 * w2 - v2 * w1) * u1 = (u1 * w2 - u2 * w1) * v1 - (u1 * v2 - u2 * v1) * w1 := by grind
    rw [h, Int.zero_mul, Int.sub_zero] at e
    have := Int.mul_pos k v0
    exact of_mul_pos (b := u1) (by omega) u0
  · subst v0
    have u0 : u1 = 0 := by
      rcases ltge 0 u1 with z | z
      · have := Int.mul_pos z v3
        omega
      · rcases fu with y | ⟨y, _⟩
        · omega
        · exact y
    subst u0
    have u3 : 0 < u2 := by omega
    have w0 : w1 < 0 := by
      rcases ltge w1 0 with z | z
      · exact z
      · have := mul_nn (Int.le_of_lt u3) z
        omega
    have := Int.mul_neg_of_pos_of_neg v3 w0
    omega
/-- p stands between a and b, in the order of the sites -/
def Btw (a p b : Pt) : Prop := (lt2 a p ∧ lt2 p b) ∨ (lt2 b p ∧ lt2 p a)
/-- no site on the right -/
def Sup (rows : List Pt) (a b : Pt) : Prop := a ∈ rows ∧ b ∈ rows ∧ a ≠ b ∧ ∀ p ∈ rows, 0 ≤ tn a b p
/-- and none on the way -/
def Nxt (rows : List Pt) (a b : Pt) : Prop := Sup rows a b ∧ ∀ p ∈ rows, tn a b p = 0 → ¬ Btw a p b
def NoRow (rows : List Pt) : Prop := ∀ a ∈ rows, ∀ b ∈ rows, a ≠ b → ∃ p ∈ rows, tn a b p ≠ 0
def dist2 (a b : Pt) : Int := (b.1 - a.1) ^ 2 + (b.2 - a.2) ^ 2
theorem sup_line {rows : List Pt} {a b c : Pt} (h : Sup rows a b) (k : Sup rows a c) : tn a b c = 0 := by
  have h1 := h.2.2.2 c k.2.1
  have h2 := k.2.2.2 b h.2.1
  have e : tn a c b = -tn a b c := by
    unfold tn
    grind
  omega
/-- on the same side of a -/
theorem sup_side {rows : List Pt} (nr : NoRow rows) {a b c : Pt} (h : Sup rows a b) (k : Sup rows a c) : ¬ Btw b a c := by
  intro z
  obtain ⟨p, hp, np⟩ := nr a h.1 b h.2.1 h.2.2.1
  have pos : 0 < tn a b p := by
    have := h.2.2.2 p hp
    omega
  have nn := k.2.2.2 p hp
  have l := sup_line h k
  rcases z with ⟨z1, z2⟩ | ⟨z1, z2⟩
  · -- b < a < c
    have e0 : crs (vec b a) (vec a c) = 0 := by
      have : crs (vec b a) (vec a c) = -tn a b c := by
        unfold crs vec tn
        grind
      omega
    have e1 : crs (vec a c) (vec a p) = tn a c p := ((tn_crs a c p).1).symm
    rcases Int.lt_or_eq_of_le nn with q | q
    · have e2 : crs (vec b a) (vec p a) = tn a b p := by
        unfold crs vec tn
        grind
      have := crs_par (w := vec p a) (fwd_vec.mpr z1) (fwd_vec.mpr z2) e0 (by omega)
      have e3 : crs (vec a c) (vec p a) = -tn a c p := by
        unfold crs vec tn
        grind
      omega
    · have e2 : crs (vec b a) (vec p a) = tn a b p := by
        unfold crs vec tn
        grind
      have := crs_par (w := vec p a) (fwd_vec.mpr z1) (fwd_vec.mpr z2) e0 (by omega)
      have e3 : crs (vec a c) (vec p a) = -tn a c p := by
        unfold crs vec tn
        grind
      omega
  · -- c < a < b
    have e0 : crs (vec a b) (vec c a) = 0 := by
      have : crs (vec a b) (vec c a) = -tn a b c := by
        unfold crs vec tn
        grind
      omega
    have e1 : crs (vec a b) (vec a p) = tn a b p := ((tn_crs a b p).1).symm
    have := crs_par (w := vec a p) (fwd_vec.mpr z2) (fwd_vec.mpr z1) e0 (by omega)
    have e3 : crs (vec c a) (vec a p) = -tn a c p := by
      unfold crs vec tn
      grind
    omega
theorem btw_cases {a b c : Pt} (ab : a ≠ b) (ac : a ≠ c) (bc : b ≠ c) : Btw b a c ∨ Btw a b c ∨ Btw a c b := by
  unfold Btw
  rcases lt2_tri ab with x | x <;> rcases lt2_tri ac with y | y <;> rcases lt2_tri bc with z | z <;> first
    | exact .inl (.inl ⟨x, y⟩)
    | exact .inl (.inr ⟨y, x⟩)
    | exact .inr (.inl (.inl ⟨x, z⟩))
    | exact .inr (.inl (.inr ⟨z, x⟩))
    | exact .inr (.inr (.inl ⟨y, z⟩))
    | exact .inr (.inr (.inr ⟨z, y⟩))
/-- on a line, what is between is nearer -/
theorem btw_near {a b c : Pt} (l : tn a b c = 0) (h : Btw a b c) : dist2 a b < dist2 a c := by
  obtain ⟨a1, a2⟩ := a
  obtain ⟨b1, b2⟩ := b
  obtain ⟨c1, c2⟩ := c
  unfold Btw lt2 tn dist2 at *
  simp only at *
  generalize hx : b1 - a1 = x at *
  generalize hy : b2 - a2 = y at *
  generalize hu : c1 - a1 = u at *
  generalize hv : c2 - a2 = v at *
  have l : x * v = y * u := by omega
  have sq : ∀ p q : Int, (0 ≤ p ∧ p ≤ q) ∨ (q ≤ p ∧ p ≤ 0) → p ^ 2 ≤ q ^ 2 := fun p q h => by
    have e : q ^ 2 - p ^ 2 = (q - p) * (q + p) := by grind
    have : 0 ≤ (q - p) * (q + p) := by
      rcases h with ⟨h1, h2⟩ | ⟨h1, h2⟩
      · exact mul_nn (by omega) (by omega)
      · have := mul_nn (show 0 ≤ p - q by omega) (show 0 ≤ -(q + p) by omega)
        grind
    omega
  have sq2 : ∀ p q : Int, (0 ≤ p ∧ p < q) ∨ (q < p ∧ p ≤ 0) → p ^ 2 < q ^ 2 := fun p q h => by
    have e : q ^ 2 - p ^ 2 = (q - p) * (q + p) := by grind
    have : 0 < (q - p) * (q + p) := by
      rcases h with ⟨h1, h2⟩ | ⟨h1, h2⟩
      · exact Int.mul_pos (by omega) (by omega)
      · have := Int.mul_pos (show 0 < p - q by omega) (show 0 < -(q + p) by omega)
        grind
    omega
  have h' : ((0 < x ∨ (x = 0 ∧ 0 < y)) ∧ (x < u ∨ (x = u ∧ y < v))) ∨ ((u < x ∨ (u = x ∧ v < y)) ∧ (x < 0 ∨ (x = 0 ∧ y < 0))) := by omega
  have l2 : (v - y) * x = y * (u - x) := by grind
  clear h
  rcases h' with ⟨h1, h2⟩ | ⟨h2, h1⟩
  · rcases h1 with h1 | ⟨h1, h3⟩
    · rcases h2 with h2 | ⟨h2, h4⟩
      · have q := sq2 x u (.inl ⟨by omega, h2⟩)
        have : y ^ 2 ≤ v ^ 2 := by
          rcases ltge y 0 with z | z
          · have := mul_nn (show 0 ≤ -y by omega) (show 0 ≤ u - x by omega)
            have := of_mul_nn (a := y - v) (b := x) (by grind) h1
            exact sq y v (.inr ⟨by omega, by omega⟩)
          · have := mul_nn z (show 0 ≤ u - x by omega)
            have := of_mul_nn (a := v - y) (b := x) (by omega) h1
            exact sq y v (.inl ⟨z, by omega⟩)
        omega
      · subst h2
        have := Int.mul_pos (show 0 < v - y by omega) h1
        rw [Int.sub_self, Int.mul_zero] at l2
        omega
    · subst h1
      have u0 : u = 0 := by
        rw [Int.mul_zero, Int.sub_zero] at l2
        rcases Int.mul_eq_zero.mp l2.symm with z | z
        · omega
        · exact z
      subst u0
      have := sq2 y v (.inl ⟨by omega, by omega⟩)
      omega
  · rcases h1 with h1 | ⟨h1, h3⟩
    · rcases h2 with h2 | ⟨h2, h4⟩
      · have q := sq2 x u (.inr ⟨h2, by omega⟩)
        have : y ^ 2 ≤ v ^ 2 := by
          rcases ltge y 0 with z | z
          · have := mul_nn (show 0 ≤ -y by omega) (show 0 ≤ x - u by omega)
            have := of_mul_nn (a := y - v) (b := -x) (by grind) (by omega)
            exact sq y v (.inr ⟨by omega, by omega⟩)
          · have := mul_nn z (show 0 ≤ x - u by omega)
            have := of_mul_nn (a := v - y) (b := -x) (by grind) (by omega)
            exact sq y v (.inl ⟨z, by omega⟩)
        omega
      · subst h2
        have := Int.mul_pos (show 0 < y - v by omega) (show 0 < -u by omega)
        rw [Int.sub_self, Int.mul_zero] at l2
        grind
    · subst h1
      have u0 : u = 0 := by
        rw [Int.mul_zero, Int.sub_zero] at l2
        rcases Int.mul_eq_zero.mp l2.symm with z | z
        · omega
        · exact z
      subst u0
      have := sq2 y v (.inr ⟨by omega, by omega⟩)
      omega
/-- the next one is the nearest of those with no site on the right -/
theorem nxt_near {rows : List Pt} (nr : NoRow rows) {a b c : Pt} (h : Nxt rows a b) (k : Sup rows a c) : c = b ∨ dist2 a b < dist2 a c := by
  by_cases e : c = b
  · exact .inl e
  · refine .inr (btw_near (sup_line h.1 k) ?_)
    rcases btw_cases h.1.2.2.1 k.2.2.1 (Ne.symm e) with z | z | z
    · exact absurd z (sup_side nr h.1 k)
    · exact z
    · exact absurd z (h.2 c k.2.1 (sup_line h.1 k))
/-! ### the ring -/
def Pr (R : Pt → Pt → Prop) : List Pt → Prop
  | a :: b :: r => R a b ∧ Pr R (b :: r)
  | _ => True
theorem pr_app {R : Pt → Pt → Prop} : ∀ {l : List Pt} {q : Pt} {u : List Pt}, Pr R (l ++ [q]) → Pr R (q :: u) → Pr R (l ++ q :: u)
  | [], _, _, _, k => k
  | [a], q, u, h, k => ⟨h.1, k⟩
  | a :: b :: l, q, u, h, k => ⟨h.1, pr_app (l := b :: l) h.2 k⟩
theorem pr_rev {R : Pt → Pt → Prop} : ∀ {st : List Pt}, (∀ e ∈ Edg st, R e.2 e.1) → Pr R st.reverse
  | [], _ => True.intro
  | [b], _ => True.intro
  | b :: a :: r, h => by
    have ih : Pr R (a :: r).reverse := pr_rev fun e he => h e (List.mem_cons_of_mem _ he)
    rw [List.reverse_cons] at ih ⊢
    rw [List.reverse_cons, List.append_assoc]
    exact pr_app ih ⟨h (b, a) List.mem_cons_self, True.intro⟩
theorem edg_mem : ∀ (l : List Pt) (e : Pt × Pt), e ∈ Edg l → e.1 ∈ l ∧ e.2 ∈ l
  | [], _, h => nomatch h
  | [_], _, h => nomatch h
  | x :: y :: l, e, h => by
    rcases List.mem_cons.mp (show e ∈ (x, y) :: Edg (y :: l) from h) with rfl | h
    · exact ⟨List.mem_cons_self, List.mem_cons_of_mem _ List.mem_cons_self⟩
    · have := edg_mem (y :: l) e h
      exact ⟨List.mem_cons_of_mem _ this.1, List.mem_cons_of_mem _ this.2⟩
theorem edg_lt : ∀ (l : List Pt), l.Pairwise (fun x y => lt2 y x) → ∀ e ∈ Edg l, lt2 e.2 e.1
  | [], _, _, h => nomatch h
  | [_], _, _, h => nomatch h
  | x :: y :: l, so, e, h => by
    rcases List.mem_cons.mp (show e ∈ (x, y) :: Edg (y :: l) from h) with rfl | h
    · exact (List.pairwise_cons.mp so).1 y List.mem_cons_self
    · exact edg_lt (y :: l) (List.pairwise_cons.mp so).2 e h
theorem edg_map (f : Pt → Pt) : ∀ (l : List Pt) (e : Pt × Pt), e ∈ Edg l → (f e.1, f e.2) ∈ Edg (l.map f)
  | [], _, h => nomatch h
  | [_], _, h => nomatch h
  | x :: y :: l, e, h => by
    rcases List.mem_cons.mp (show e ∈ (x, y) :: Edg (y :: l) from h) with rfl | h
    · exact List.mem_cons_self
    · exact List.mem_cons_of_mem _ (edg_map f (y :: l) e h)
def stk (least : Int) (rows : List Pt) : List Pt := rows.foldl (pushF least) []
theorem stk_cons (least : Int) (p0 : Pt) (rows : List Pt) : stk least (p0 :: rows) = rows.foldl (pushF least) [p0] := rfl
theorem stk_ng (least : Int) (rows : List Pt) : stk least (rows.map ng) = (stk least rows).map ng := fold_ng least rows []
theorem fold_ne (least : Int) : ∀ (rows st : List Pt), st ≠ [] → rows.foldl (pushF least) st ≠ []
  | [], _, h => h
  | s :: rows, st, _ => fold_ne least rows (pushF least st s) (by unfold pushF; simp)
/-- each edge of a chain leads to the next one on the border -/
theorem stk_nxt {rows : List Pt} (so : rows.Pairwise lt2) : ∀ e ∈ Edg (stk 0 rows), Nxt rows e.2 e.1 := by
  cases rows with
  | nil => intro e h; cases h
  | cons p0 rows =>
    intro e he
    have c := chn_all (least := 0) (by decide) (by decide) rows p0 so
    have o := off_all rows p0 so
    have lt := edg_lt _ c.srt e he
    have m := edg_mem _ e he
    refine ⟨⟨c.sub _ m.2, c.sub _ m.1, fun z => lt2_irr (z ▸ lt), c.low e he⟩, fun p hp z q => ?_⟩
    rcases q with ⟨q1, q2⟩ | ⟨q1, q2⟩
    · have := o e he p hp q1 q2
      omega
    · exact lt2_irr (lt2_tr (lt2_tr q1 q2) lt)
theorem nxt_ng {rows : List Pt} {a b : Pt} (h : Nxt (rows.reverse.map ng) (ng a) (ng b)) : Nxt rows a b := by
  have inj : ∀ {x y : Pt}, ng x = ng y → x = y := fun {x y} e => by rw [← ng_ng x, e, ng_ng]
  have mem : ∀ x, ng x ∈ rows.reverse.map ng → x ∈ rows := fun x hx => by
    obtain ⟨y, my, e⟩ := List.mem_map.mp hx
    rw [← inj e]
    exact List.mem_reverse.mp my
  have mem2 : ∀ x ∈ rows, ng x ∈ rows.reverse.map ng := fun x hx => List.mem_map.mpr ⟨x, List.mem_reverse.mpr hx, rfl⟩
  obtain ⟨⟨h1, h2, h3, h4⟩, h5⟩ := h
  refine ⟨⟨mem a h1, mem b h2, fun z => h3 (by rw [z]), fun p hp => ?_⟩, fun p hp z q => ?_⟩
  · rw [← tn_ng]
    exact h4 _ (mem2 p hp)
  · refine h5 (ng p) (mem2 p hp) (by rw [tn_ng]; exact z) ?_
    rcases q with ⟨q1, q2⟩ | ⟨q1, q2⟩
    · exact .inr ⟨lt2_ng.mpr q2, lt2_ng.mpr q1⟩
    · exact .inl ⟨lt2_ng.mpr q2, lt2_ng.mpr q1⟩
theorem rev_srt {rows : List Pt} (so : rows.Pairwise lt2) : (rows.reverse.map ng).Pairwise lt2 := by
  rw [List.pairwise_map, List.pairwise_reverse]
  exact so.imp fun h => lt2_ng.mpr h
theorem stk_nxt_rev {rows : List Pt} (so : rows.Pairwise lt2) : ∀ e ∈ Edg (stk 0 rows.reverse), Nxt rows e.2 e.1 := fun e he => by
  refine nxt_ng (stk_nxt (rev_srt so) (ng e.1, ng e.2) ?_)
  rw [stk_ng]
  exact edg_map ng _ e he
/-- the ends of a chain -/
theorem stk_ends {least : Int} (l0 : 0 ≤ least) (l1 : least ≤ 1) {rows : List Pt} {p0 q : Pt} (so : rows.Pairwise lt2) (h0 : rows.head? = some p0) (hq : rows.getLast? = some q) (n2 : p0 ≠ q) : ∃ m, stk least rows = q :: (m ++ [p0]) ∧ ∀ x ∈ m, lt2 p0 x ∧ lt2 x q := by
  cases rows with
  | nil => cases h0
  | cons r0 rows =>
    obtain rfl := Option.some.inj h0
    have c := chn_all l0 l1 rows r0 so
    rw [stk_cons]
    have ne := fold_ne least rows [r0] (by simp)
    generalize rows.foldl (pushF least) [r0] = S at c ne
    have r0in : r0 ∈ r0 :: rows := List.mem_cons_self
    have first : ∀ p ∈ r0 :: rows, p = r0 ∨ lt2 r0 p := fun p hp => by
      rcases List.mem_cons.mp hp with e | m
      · exact .inl e
      · exact .inr ((List.pairwise_cons.mp so).1 p m)
    have last : ∀ p ∈ r0 :: rows, p = q ∨ lt2 p q := fun p hp => by
      obtain ⟨ys, ey⟩ := List.getLast?_eq_some_iff.mp hq
      rw [ey] at hp so
      rcases List.mem_append.mp hp with m | m
      · exact .inr ((List.pairwise_append.mp so).2.2 p m q (List.mem_singleton.mpr rfl))
      · exact .inl (List.mem_singleton.mp m)
    have qin : q ∈ r0 :: rows := List.mem_of_getLast? hq
    cases S with
    | nil => exact absurd rfl ne
    | cons t S =>
      have ht : t = q := by
        rcases c.top q qin t rfl with e | z
        · exact e.symm
        · rcases last t (c.sub t List.mem_cons_self) with e | y
          · exact e
          · exact absurd (lt2_tr z y) lt2_irr
      subst ht
      rcases List.eq_nil_or_concat S with rfl | ⟨m, b, rfl⟩
      · exfalso
        rcases c.bot r0 r0in t rfl with e | z
        · exact n2 e
        · rcases last r0 r0in with e | y
          · exact n2 e
          · exact lt2_irr (lt2_tr z y)
      · rw [List.concat_eq_append] at c ⊢
        have hb : b = r0 := by
          have gl : (t :: (m ++ [b])).getLast? = some b := by
            rw [← List.cons_append, List.getLast?_append]
            rfl
          rcases c.bot r0 r0in b gl with e | z
          · exact e.symm
          · rcases first b (c.sub b (List.mem_cons_of_mem _ (List.mem_append_right _ (List.mem_singleton.mpr rfl)))) with e | y
            · exact e
            · exact absurd (lt2_tr z y) lt2_irr
        subst hb
        refine ⟨m, rfl, fun x hx => ⟨?_, (List.pairwise_cons.mp c.srt).1 x (List.mem_append_left _ hx)⟩⟩
        exact (List.pairwise_append.mp (List.pairwise_cons.mp c.srt).2).2.2 x hx b (List.mem_singleton.mpr rfl)
/-- the border as the program tells it, closed: from the least site on, each one's next one, and back -/
theorem ring {rows : List Pt} {p0 q : Pt} (so : rows.Pairwise lt2) (h0 : rows.head? = some p0) (hq : rows.getLast? = some q) (n2 : p0 ≠ q) :
    ∃ mid, (stk 0 rows).reverse.dropLast ++ (stk 0 rows.reverse).reverse.dropLast = p0 :: mid ∧ p0 ∉ mid ∧ Pr (Nxt rows) (p0 :: mid ++ [p0]) := by
  obtain ⟨m, e, hm⟩ := stk_ends (by decide) (by decide) (least := 0) so h0 hq n2
  have so' := rev_srt so
  obtain ⟨m', e', hm'⟩ := stk_ends (by decide) (by decide) (least := 0) so' (p0 := ng q) (q := ng p0) (by rw [List.head?_map, List.head?_reverse, hq]; rfl) (by rw [List.getLast?_map, List.getLast?_reverse, h0]; rfl) (fun z => n2 (by rw [← ng_ng p0, ← ng_ng q, z]))
  have e2 : stk 0 rows.reverse = p0 :: (m'.map ng ++ [q]) := by
    have := congrArg (List.map ng) e'
    rw [← stk_ng, List.map_map, show (ng ∘ ng) = id from funext ng_ng, List.map_id, List.map_cons, List.map_append, List.map_cons, List.map_nil, ng_ng, ng_ng] at this
    exact this
  have k1 := pr_rev (stk_nxt so)
  have k2 := pr_rev (stk_nxt_rev so)
  rw [e] at k1 ⊢
  rw [e2] at k2 ⊢
  have r1 : (q :: (m ++ [p0])).reverse = (p0 :: m.reverse) ++ [q] := by simp
  have r2 : (p0 :: (m'.map ng ++ [q])).reverse = q :: ((m'.map ng).reverse ++ [p0]) := by simp
  rw [r1] at k1 ⊢
  rw [r2] at k2 ⊢
  refine ⟨m.reverse ++ q :: (m'.map ng).reverse, ?_, fun z => ?_, ?_⟩
  · rw [List.dropLast_concat, show q :: ((m'.map ng).reverse ++ [p0]) = (q :: (m'.map ng).reverse) ++ [p0] from rfl, List.dropLast_concat]
    rfl
  · rcases List.mem_append.mp z with z | z
    · exact lt2_irr (hm p0 (List.mem_reverse.mp z)).1
    · rcases List.mem_cons.mp z with z | z
      · exact n2 z
      · obtain ⟨x, hx, ex⟩ := List.mem_map.mp (List.mem_reverse.mp z)
        have := (hm' x hx).2
        rw [← ex, ng_ng] at this
        exact lt2_irr this
  · have := pr_app k1 k2
    simpa using this
/-! ### one ring alone -/
theorem nxt_uniq {rows : List Pt} (nr : NoRow rows) {a b c : Pt} (h : Nxt rows a b) (k : Nxt rows a c) : b = c := by
  rcases nxt_near nr h k.1 with e | z
  · exact e.symm
  · rcases nxt_near nr k h.1 with e | y
    · exact e
    · omega
theorem pr_tail {R : Pt → Pt → Prop} : ∀ (l : List Pt) {m : List Pt}, Pr R (l ++ m) → Pr R m
  | [], _, h => h
  | [a], m, h => by
    cases m with
    | nil => exact True.intro
    | cons b m => exact h.2
  | a :: b :: l, m, h => pr_tail (b :: l) h.2
theorem ring_det {R : Pt → Pt → Prop} (fn : ∀ a b c, R a b → R a c → b = c) {p : Pt} : ∀ (s1 s2 : List Pt) (x : Pt), Pr R (x :: (s1 ++ [p])) → Pr R (x :: (s2 ++ [p])) → p ∉ s1 → p ∉ s2 → s1 = s2
  | [], [], _, _, _, _, _ => rfl
  | [], z :: s2, x, h, k, _, n => by
    have : p = z := fn x p z h.1 k.1
    exact absurd (this ▸ List.mem_cons_self) n
  | y :: s1, [], x, h, k, n, _ => by
    have : y = p := fn x y p h.1 k.1
    exact absurd (this ▸ List.mem_cons_self) n
  | y :: s1, z :: s2, x, h, k, n1, n2 => by
    have e : y = z := fn x y z h.1 k.1
    subst e
    rw [ring_det fn s1 s2 y h.2 k.2 (fun m => n1 (List.mem_cons_of_mem _ m)) (fun m => n2 (List.mem_cons_of_mem _ m))]
theorem ring_nodup {R : Pt → Pt → Prop} (fn : ∀ a b c, R a b → R a c → b = c) {p : Pt} : ∀ (s : List Pt) (x : Pt), Pr R (x :: (s ++ [p])) → p ∉ s → (x :: s).Nodup
  | s, x, h, n => by
    refine List.nodup_cons.mpr ⟨fun m => ?_, ?_⟩
    · obtain ⟨B, D, rfl⟩ := List.append_of_mem m
      have k : Pr R (x :: (D ++ [p])) := by
        have e : x :: (B ++ x :: D ++ [p]) = (x :: B) ++ x :: (D ++ [p]) := by simp
        rw [e] at h
        exact pr_tail _ h
      have := congrArg List.length (ring_det fn _ D x h k n fun m => n (List.mem_append_right _ (List.mem_cons_of_mem _ m)))
      rw [List.length_append, List.length_cons] at this
      omega
    · cases s with
      | nil => exact List.nodup_nil
      | cons y s => exact ring_nodup fn s y h.2 fun m => n (List.mem_cons_of_mem _ m)
/-- whatever has the ring's ends and goes from next one to next one is this ring -/
theorem ring_is {rows : List Pt} (nr : NoRow rows) {p0 : Pt} {mid m2 : List Pt} (h : Pr (Nxt rows) (p0 :: (mid ++ [p0]))) (k : Pr (Nxt rows) (p0 :: (m2 ++ [p0]))) (n1 : p0 ∉ mid) (n2 : p0 ∉ m2) : mid = m2 :=
  ring_det (R := Nxt rows) (fun _ _ _ => nxt_uniq nr) mid m2 p0 h k n1 n2
/-- a line through two sites that has all on it has all in a row -/
theorem noRow_of {rows : List Pt} {p0 q : Pt} (h0 : p0 ∈ rows) (hq : q ∈ rows) (n2 : p0 ≠ q) (ne : ∃ p ∈ rows, tn p0 q p ≠ 0) : NoRow rows := by
  intro a ha b hb nab
  obtain ⟨p, hp, np⟩ := ne
  refine Classical.byContradiction fun all => ?_
  have all : ∀ p ∈ rows, tn a b p = 0 := fun p hp => Classical.byContradiction fun z => all ⟨p, hp, z⟩
  have e1 := all p0 h0
  have e2 := all q hq
  have e3 := all p hp
  -- three on one line
  have key : tn p0 q p * (b.1 - a.1) = 0 ∧ tn p0 q p * (b.2 - a.2) = 0 := by
    unfold tn at *
    constructor <;> grind
  have : b.1 - a.1 = 0 ∧ b.2 - a.2 = 0 := ⟨by
    rcases Int.mul_eq_zero.mp key.1 with z | z
    · exact absurd z np
    · exact z, by
    rcases Int.mul_eq_zero.mp key.2 with z | z
    · exact absurd z np
    · exact z⟩
  exact nab (Prod.ext (by omega) (by omega))
/-! ### corners -/
/-- the next corner: no site on the right, none beyond on the line -/
def NxC (rows : List Pt) (a b : Pt) : Prop := Sup rows a b ∧ ∀ p ∈ rows, tn a b p = 0 → p = a ∨ p = b ∨ Btw a p b
theorem edg_split : ∀ {S : List Pt} {e : Pt × Pt}, e ∈ Edg S → ∃ l r, S = l ++ e.1 :: e.2 :: r
  | [], _, h => nomatch h
  | [_], _, h => nomatch h
  | x :: y :: l, e, h => by
    rcases List.mem_cons.mp (show e ∈ (x, y) :: Edg (y :: l) from h) with rfl | h
    · exact ⟨[], l, rfl⟩
    · obtain ⟨m, r, k⟩ := edg_split (S := y :: l) h
      exact ⟨x :: m, r, by rw [k]; rfl⟩
theorem edg_of : ∀ (l : List Pt) (b a : Pt) (r : List Pt), (b, a) ∈ Edg (l ++ b :: a :: r)
  | [], _, _, _ => List.mem_cons_self
  | [x], b, a, r => List.mem_cons_of_mem _ List.mem_cons_self
  | x :: y :: l, b, a, r => List.mem_cons_of_mem _ (edg_of (y :: l) b a r)
theorem cvx_suf {least : Int} : ∀ (l : List Pt) {m : List Pt}, Cvx least (l ++ m) → Cvx least m
  | [], _, h => h
  | x :: l, m, h => by
    refine cvx_suf l ?_
    have h : Cvx least (x :: (l ++ m)) := h
    generalize l ++ m = k at h
    match k, h with
    | [], _ => exact True.intro
    | [_], _ => exact True.intro
    | [_, _], h => exact True.intro
    | a :: b :: c :: k, h => exact h.2
theorem edg_up {least : Int} {S : List Pt} (cv : Cvx least S) {e : Pt × Pt} (he : e ∈ Edg S) : S.head? = some e.1 ∨ ∃ c, (c, e.1) ∈ Edg S ∧ least ≤ tn e.2 e.1 c := by
  obtain ⟨l, r, rfl⟩ := edg_split he
  rcases List.eq_nil_or_concat l with rfl | ⟨l, c, rfl⟩
  · exact .inl rfl
  · rw [List.concat_eq_append, List.append_assoc] at *
    exact .inr ⟨c, edg_of l c e.1 (e.2 :: r), (cvx_suf l cv).1⟩
theorem edg_dn {least : Int} {S : List Pt} (cv : Cvx least S) {e : Pt × Pt} (he : e ∈ Edg S) : S.getLast? = some e.2 ∨ ∃ z, (e.2, z) ∈ Edg S ∧ least ≤ tn z e.2 e.1 := by
  obtain ⟨l, r, rfl⟩ := edg_split he
  cases r with
  | nil =>
    left
    rw [List.getLast?_append]
    rfl
  | cons z r =>
    refine .inr ⟨z, ?_, (cvx_suf l cv).1⟩
    have e2 : l ++ e.1 :: e.2 :: z :: r = (l ++ [e.1]) ++ e.2 :: z :: r := by simp
    rw [e2]
    exact edg_of _ _ _ _
/-- strictly over -/
theorem over_next_lt {a b c p : Pt} (ab : lt2 a b) (bc : lt2 b c) (bp : lt2 b p) (h : 0 < tn a b c) (k : 0 ≤ tn b c p) : 0 < tn a b p := by
  rw [(tn_crs a b c).2.1] at h
  rw [(tn_crs b c p).1] at k
  rw [(tn_crs a b p).2.1]
  exact crs_tr_lt (fwd_vec.mpr ab) (fwd_vec.mpr bc) (fwd_vec.mpr bp) h k
theorem crs_tr_lt2 {u v w : Pt} (fu : fwd u) (fv : fwd v) (fw : fwd w) (h : 0 ≤ crs u v) (k : 0 < crs v w) : 0 < crs u w := by
  rcases Int.lt_or_eq_of_le h with q | q
  · exact crs_tr_lt fu fv fw q (Int.le_of_lt k)
  · have e : crs v u = 0 := by rw [crs_neg, ← q]; rfl
    exact crs_par fv fu e k
theorem over_prev_lt {z a b p : Pt} (za : lt2 z a) (ab : lt2 a b) (pa : lt2 p a) (h : 0 < tn z a b) (k : 0 ≤ tn z a p) : 0 < tn a b p := by
  rw [(tn_crs z a b).2.1] at h
  have k2 : 0 ≤ crs (vec p a) (vec z a) := by
    have : tn z a p = crs (vec p a) (vec z a) := by
      unfold tn crs vec
      grind
    omega
  have t := crs_tr_lt2 (fwd_vec.mpr pa) (fwd_vec.mpr za) (fwd_vec.mpr ab) k2 h
  have : tn a b p = crs (vec p a) (vec a b) := by
    unfold tn crs vec
    grind
  omega
theorem stk_nxc {rows : List Pt} (so : rows.Pairwise lt2) : ∀ e ∈ Edg (stk 1 rows), NxC rows e.2 e.1 := by
  cases rows with
  | nil => intro e h; cases h
  | cons p0 rows =>
    intro e he
    have c := chn_all (least := 1) (by decide) (by decide) rows p0 so
    have lt := edg_lt _ c.srt e he
    have m := edg_mem _ e he
    refine ⟨⟨c.sub _ m.2, c.sub _ m.1, fun z => lt2_irr (z ▸ lt), c.low e he⟩, fun p hp z => ?_⟩
    by_cases pa : p = e.2
    · exact .inl pa
    by_cases pb : p = e.1
    · exact .inr (.inl pb)
    refine .inr (.inr ?_)
    have below : lt2 p e.1 := by
      rcases lt2_tri pb with q | q
      · exact q
      · exfalso
        rcases edg_up c.cvx he with hd | ⟨d, hd, k⟩
        · rcases c.top p hp e.1 hd with w | w
          · exact pb w
          · exact lt2_irr (lt2_tr w q)
        · have := over_next_lt (a := e.2) (b := e.1) (c := d) lt (edg_lt _ c.srt _ hd) q (by omega) (c.low _ hd p hp)
          omega
    have above : lt2 e.2 p := by
      rcases lt2_tri pa with q | q
      · exfalso
        rcases edg_dn c.cvx he with hd | ⟨d, hd, k⟩
        · rcases c.bot p hp e.2 hd with w | w
          · exact pa w
          · exact lt2_irr (lt2_tr w q)
        · have := over_prev_lt (z := d) (a := e.2) (b := e.1) (p := p) (edg_lt _ c.srt _ hd) lt q (by omega) (c.low _ hd p hp)
          omega
      · exact q
    exact .inl ⟨above, below⟩
theorem nxc_ng {rows : List Pt} {a b : Pt} (h : NxC (rows.reverse.map ng) (ng a) (ng b)) : NxC rows a b := by
  have inj : ∀ {x y : Pt}, ng x = ng y → x = y := fun {x y} e => by rw [← ng_ng x, e, ng_ng]
  have mem : ∀ x, ng x ∈ rows.reverse.map ng → x ∈ rows := fun x hx => by
    obtain ⟨y, my, e⟩ := List.mem_map.mp hx
    rw [← inj e]
    exact List.mem_reverse.mp my
  have mem2 : ∀ x ∈ rows, ng x ∈ rows.reverse.map ng := fun x hx => List.mem_map.mpr ⟨x, List.mem_reverse.mpr hx, rfl⟩
  obtain ⟨⟨h1, h2, h3, h4⟩, h5⟩ := h
  refine ⟨⟨mem a h1, mem b h2, fun z => h3 (by rw [z]), fun p hp => ?_⟩, fun p hp z => ?_⟩
  · rw [← tn_ng]
    exact h4 _ (mem2 p hp)
  · rcases h5 (ng p) (mem2 p hp) (by rw [tn_ng]; exact z) with q | q | q
    · exact .inl (inj q)
    · exact .inr (.inl (inj q))
    · refine .inr (.inr ?_)
      rcases q with ⟨q1, q2⟩ | ⟨q1, q2⟩
      · exact .inr ⟨lt2_ng.mp q2, lt2_ng.mp q1⟩
      · exact .inl ⟨lt2_ng.mp q2, lt2_ng.mp q1⟩
theorem stk_nxc_rev {rows : List Pt} (so : rows.Pairwise lt2) : ∀ e ∈ Edg (stk 1 rows.reverse), NxC rows e.2 e.1 := fun e he => by
  refine nxc_ng (stk_nxc (rev_srt so) (ng e.1, ng e.2) ?_)
  rw [stk_ng]
  exact edg_map ng _ e he
/-- the corners as the program tells them, closed -/
theorem ringC {rows : List Pt} {p0 q : Pt} (so : rows.Pairwise lt2) (h0 : rows.head? = some p0) (hq : rows.getLast? = some q) (n2 : p0 ≠ q) :
    ∃ mid, (stk 1 rows).reverse.dropLast ++ (stk 1 rows.reverse).reverse.dropLast = p0 :: mid ∧ p0 ∉ mid ∧ Pr (NxC rows) (p0 :: mid ++ [p0]) := by
  obtain ⟨m, e, hm⟩ := stk_ends (by decide) (by decide) (least := 1) so h0 hq n2
  have so' := rev_srt so
  obtain ⟨m', e', hm'⟩ := stk_ends (by decide) (by decide) (least := 1) so' (p0 := ng q) (q := ng p0) (by rw [List.head?_map, List.head?_reverse, hq]; rfl) (by rw [List.getLast?_map, List.getLast?_reverse, h0]; rfl) (fun z => n2 (by rw [← ng_ng p0, ← ng_ng q, z]))
  have e2 : stk 1 rows.reverse = p0 :: (m'.map ng ++ [q]) := by
    have := congrArg (List.map ng) e'
    rw [← stk_ng, List.map_map, show (ng ∘ ng) = id from funext ng_ng, List.map_id, List.map_cons, List.map_append, List.map_cons, List.map_nil, ng_ng, ng_ng] at this
    exact this
  have k1 := pr_rev (stk_nxc so)
  have k2 := pr_rev (stk_nxc_rev so)
  rw [e] at k1 ⊢
  rw [e2] at k2 ⊢
  have r1 : (q :: (m ++ [p0])).reverse = (p0 :: m.reverse) ++ [q] := by simp
  have r2 : (p0 :: (m'.map ng ++ [q])).reverse = q :: ((m'.map ng).reverse ++ [p0]) := by simp
  rw [r1] at k1 ⊢
  rw [r2] at k2 ⊢
  refine ⟨m.reverse ++ q :: (m'.map ng).reverse, ?_, fun z => ?_, ?_⟩
  · rw [List.dropLast_concat, show q :: ((m'.map ng).reverse ++ [p0]) = (q :: (m'.map ng).reverse) ++ [p0] from rfl, List.dropLast_concat]
    rfl
  · rcases List.mem_append.mp z with z | z
    · exact lt2_irr (hm p0 (List.mem_reverse.mp z)).1
    · rcases List.mem_cons.mp z with z | z
      · exact n2 z
      · obtain ⟨x, hx, ex⟩ := List.mem_map.mp (List.mem_reverse.mp z)
        have := (hm' x hx).2
        rw [← ex, ng_ng] at this
        exact lt2_irr this
  · have := pr_app k1 k2
    simpa using this
/-- just one corner is next -/
theorem nxc_uniq {rows : List Pt} (nr : NoRow rows) {a b c : Pt} (h : NxC rows a b) (k : NxC rows a c) : b = c := by
  refine Classical.byContradiction fun n => ?_
  have l := sup_line h.1 k.1
  have l2 : tn a c b = 0 := by
    have : tn a c b = -tn a b c := by
      unfold tn
      grind
    omega
  rcases h.2 c k.1.2.1 l with e | e | z
  · exact k.1.2.2.1 e.symm
  · exact n e.symm
  · rcases k.2 b h.1.2.1 l2 with e | e | y
    · exact h.1.2.2.1 e.symm
    · exact n e
    · unfold Btw at *
      rcases z with ⟨z1, z2⟩ | ⟨z1, z2⟩ <;> rcases y with ⟨y1, y2⟩ | ⟨y1, y2⟩
      · exact lt2_irr (lt2_tr z2 y2)
      · exact lt2_irr (lt2_tr (lt2_tr z1 z2) y2)
      · exact lt2_irr (lt2_tr (lt2_tr z1 z2) y1)
      · exact lt2_irr (lt2_tr z1 y1)
/-! ### the corners of a ring -/
def dot (u v : Pt) : Int := u.1 * v.1 + u.2 * v.2
structure Dir (u v : Pt) : Prop where
  c : crs u v = 0
  d : 0 < dot u v
theorem dir_pos {u v : Pt} (h : Dir u v) : 0 < dot v v := by
  obtain ⟨u1, u2⟩ := u
  obtain ⟨v1, v2⟩ := v
  have h := h.d
  unfold dot at *
  simp only at *
  have a : 0 ≤ v1 * v1 := by rw [← Int.natAbs_mul_self]; exact Int.natCast_nonneg _
  have b : 0 ≤ v2 * v2 := by rw [← Int.natAbs_mul_self]; exact Int.natCast_nonneg _
  by_cases z : v1 = 0
  · by_cases y : v2 = 0
    · subst z y
      omega
    · have : v2 * v2 ≠ 0 := Int.mul_ne_zero y y
      omega
  · have : v1 * v1 ≠ 0 := Int.mul_ne_zero z z
    omega
theorem Dir.symm {u v : Pt} (h : Dir u v) : Dir v u := ⟨by rw [crs_neg, h.c]; rfl, by
  have := h.d
  unfold dot at *
  rw [Int.mul_comm v.1, Int.mul_comm v.2]
  exact this⟩
theorem Dir.trans {u v w : Pt} (h : Dir u v) (k : Dir v w) : Dir u w := by
  have pos := dir_pos h
  obtain ⟨h1, h2⟩ := h
  obtain ⟨k1, k2⟩ := k
  obtain ⟨u1, u2⟩ := u
  obtain ⟨v1, v2⟩ := v
  obtain ⟨w1, w2⟩ := w
  unfold crs dot at *
  simp only at *
  constructor
  · show u1 * w2 - u2 * w1 = 0
    have e : (u1 * w2 - u2 * w1) * (v1 * v1 + v2 * v2) = (v1 * w1 + v2 * w2) * (u1 * v2 - u2 * v1) + (v1 * w2 - v2 * w1) * (u1 * v1 + u2 * v2) := by grind
    rw [h1, k1, Int.mul_zero, Int.zero_mul, Int.add_zero] at e
    rcases Int.mul_eq_zero.mp e with z | z
    · exact z
    · omega
  · show 0 < u1 * w1 + u2 * w2
    have e : (u1 * w1 + u2 * w2) * (v1 * v1 + v2 * v2) = (u1 * v1 + u2 * v2) * (v1 * w1 + v2 * w2) - (u1 * v2 - u2 * v1) * (v1 * w2 - v2 * w1) := by grind
    rw [h1, Int.zero_mul, Int.sub_zero] at e
    have := Int.mul_pos h2 k2
    exact of_mul_pos (b := v1 * v1 + v2 * v2) (by omega) pos
/-- the sign of what is on a side hangs on the direction alone -/
theorem dir_crs {u v w : Pt} (h : Dir u v) : (0 < crs u w ↔ 0 < crs v w) ∧ (crs u w = 0 ↔ crs v w = 0) ∧ (0 ≤ crs u w ↔ 0 ≤ crs v w) := by
  have pos := dir_pos h.symm
  obtain ⟨h1, h2⟩ := h
  have e : crs v w * dot u u = dot u v * crs u w - crs u v * dot u w := by
    unfold crs dot
    grind
  rw [h1, Int.zero_mul, Int.sub_zero] at e
  generalize crs v w = b at *
  generalize crs u w = a at *
  generalize dot u u = p at *
  generalize dot u v = q at *
  have s1 : 0 < a → 0 < b := fun h => of_mul_pos (b := p) (by rw [e]; exact Int.mul_pos h2 h) pos
  have s2 : a < 0 → b < 0 := fun h => by
    have := Int.mul_neg_of_pos_of_neg h2 h
    rcases ltge b 0 with z | z
    · exact z
    · have := mul_nn z (Int.le_of_lt pos)
      omega
  have s3 : a = 0 → b = 0 := fun h => by
    rw [h, Int.mul_zero] at e
    rcases Int.mul_eq_zero.mp e with z | z
    · exact z
    · omega
  refine ⟨⟨s1, fun h => ?_⟩, ⟨s3, fun h => ?_⟩, ⟨fun h => ?_, fun h => ?_⟩⟩
  · rcases Int.lt_trichotomy a 0 with z | z | z
    · have := s2 z; omega
    · have := s3 z; omega
    · exact z
  · rcases Int.lt_trichotomy a 0 with z | z | z
    · have := s2 z; omega
    · exact z
    · have := s1 z; omega
  · rcases Int.lt_trichotomy a 0 with z | z | z
    · omega
    · have := s3 z; omega
    · have := s1 z; omega
  · rcases Int.lt_trichotomy a 0 with z | z | z
    · have := s2 z; omega
    · omega
    · omega
theorem dir_fwd {u v : Pt} (fu : fwd u) (fv : fwd v) (h : crs u v = 0) : Dir u v := by
  refine ⟨h, ?_⟩
  obtain ⟨u1, u2⟩ := u
  obtain ⟨v1, v2⟩ := v
  unfold crs fwd dot at *
  simp only at *
  rcases fu with u0 | ⟨u0, u3⟩
  · have v0 : 0 < v1 := by
      rcases fv with z | ⟨z, y⟩
      · exact z
      · subst z
        have := Int.mul_pos u0 y
        omega
    have e : (u1 * v1 + u2 * v2) * u1 = v1 * (u1 * u1) + v1 * (u2 * u2) := by grind
    have a : 0 ≤ u2 * u2 := by rw [← Int.natAbs_mul_self]; exact Int.natCast_nonneg _
    have b := Int.mul_pos u0 u0
    have := Int.mul_pos v0 b
    have := mul_nn (Int.le_of_lt v0) a
    exact of_mul_pos (b := u1) (by omega) u0
  · subst u0
    have v0 : v1 = 0 := by
      have : u2 * v1 = 0 := by omega
      rcases Int.mul_eq_zero.mp this with z | z
      · omega
      · exact z
    subst v0
    have := Int.mul_pos u3 (show 0 < v2 by omega)
    omega
theorem dir_neg {u v : Pt} (h : Dir (ng u) (ng v)) : Dir u v := by
  obtain ⟨h1, h2⟩ := h
  unfold crs dot ng at *
  simp only at *
  constructor
  · unfold crs; grind
  · unfold dot; grind
/-- b between a and c on a line: the same way on -/
theorem btw_dir {a b c : Pt} (l : tn a b c = 0) (h : Btw a b c) : Dir (vec a b) (vec b c) := by
  have l2 : crs (vec a b) (vec b c) = 0 := by rw [← (tn_crs a b c).2.1]; exact l
  rcases h with ⟨h1, h2⟩ | ⟨h1, h2⟩
  · exact dir_fwd (fwd_vec.mpr h1) (fwd_vec.mpr h2) l2
  · refine dir_neg ?_
    have e1 : ng (vec a b) = vec b a := by unfold ng vec; exact Prod.ext (by simp only; omega) (by simp only; omega)
    have e2 : ng (vec b c) = vec c b := by unfold ng vec; exact Prod.ext (by simp only; omega) (by simp only; omega)
    rw [e1, e2]
    refine dir_fwd (fwd_vec.mpr h2) (fwd_vec.mpr h1) ?_
    unfold crs vec at *
    simp only at *
    grind
theorem dir_add {u v : Pt} (h : Dir u v) : Dir (u.1 + v.1, u.2 + v.2) v := by
  have pos := dir_pos h
  obtain ⟨h1, h2⟩ := h
  unfold crs dot at *
  constructor
  · unfold crs
    simp only
    grind
  · unfold dot
    simp only
    grind
/-- the same way: both forward or both back -/
theorem dir_lt {a x y : Pt} (h : Dir (vec a x) (vec a y)) : (lt2 a x → lt2 a y) ∧ (lt2 x a → lt2 y a) := by
  obtain ⟨h1, h2⟩ := h
  obtain ⟨a1, a2⟩ := a
  obtain ⟨x1, x2⟩ := x
  obtain ⟨y1, y2⟩ := y
  unfold crs dot vec lt2 at *
  simp only at *
  generalize hu : x1 - a1 = u at *
  generalize hv : x2 - a2 = v at *
  generalize hw : y1 - a1 = w at *
  generalize hz : y2 - a2 = z at *
  have key1 : (0 < u ∨ (u = 0 ∧ 0 < v)) → (0 < w ∨ (w = 0 ∧ 0 < z)) := fun k => by
    rcases k with k | ⟨k, m⟩
    · have e : (u * w + v * z) * u = w * (u * u + v * v) := by grind
      have p1 := Int.mul_pos h2 k
      have p2 : 0 < u * u + v * v := by
        have := Int.mul_pos k k
        have : 0 ≤ v * v := by rw [← Int.natAbs_mul_self]; exact Int.natCast_nonneg _
        omega
      exact .inl (of_mul_pos (b := u * u + v * v) (by omega) p2)
    · subst k
      have w0 : w = 0 := by
        have : v * w = 0 := by omega
        rcases Int.mul_eq_zero.mp this with q | q
        · omega
        · exact q
      subst w0
      exact .inr ⟨rfl, of_mul_pos (a := z) (b := v) (by rw [Int.mul_comm]; omega) m⟩
  have key2 : (u < 0 ∨ (u = 0 ∧ v < 0)) → (w < 0 ∨ (w = 0 ∧ z < 0)) := fun k => by
    rcases k with k | ⟨k, m⟩
    · have e : (u * w + v * z) * -u = -w * (u * u + v * v) := by grind
      have p1 := Int.mul_pos h2 (show 0 < -u by omega)
      have p2 : 0 < u * u + v * v := by
        have := Int.mul_pos_of_neg_of_neg k k
        have : 0 ≤ v * v := by rw [← Int.natAbs_mul_self]; exact Int.natCast_nonneg _
        omega
      have := of_mul_pos (a := -w) (b := u * u + v * v) (by omega) p2
      omega
    · subst k
      have w0 : w = 0 := by
        have : v * w = 0 := by omega
        rcases Int.mul_eq_zero.mp this with q | q
        · omega
        · exact q
      subst w0
      have := of_mul_pos (a := -z) (b := -v) (by grind) (by omega)
      omega
  exact ⟨fun k => by have := key1 (by omega); omega, fun k => by have := key2 (by omega); omega⟩
/-- those of a way at which it turns -/
def flt : Pt → List Pt → List Pt
  | prev, x :: y :: r => if tn prev x y ≠ 0 then x :: flt x (y :: r) else flt x (y :: r)
  | _, _ => []
structure OnC (rows : List Pt) (a prev x : Pt) : Prop where
  n : Nxt rows prev x
  s : Sup rows a x
  d : Dir (vec a x) (vec prev x)
  b : ∀ p ∈ rows, tn a x p = 0 → ¬ Btw p a x
theorem dir_self {a b : Pt} (h : a ≠ b) : Dir (vec a b) (vec a b) := by
  rcases lt2_tri h with z | z
  · exact dir_fwd (fwd_vec.mpr z) (fwd_vec.mpr z) (by unfold crs; grind)
  · refine dir_neg ?_
    have e1 : ng (vec a b) = vec b a := by unfold ng vec; exact Prod.ext (by simp only; omega) (by simp only; omega)
    rw [e1]
    exact dir_fwd (fwd_vec.mpr z) (fwd_vec.mpr z) (by unfold crs; grind)
theorem nxt_back {rows : List Pt} (nr : NoRow rows) {a b : Pt} (h : Sup rows a b) (k : Sup rows b a) : False := by
  obtain ⟨p, hp, np⟩ := nr a h.1 b h.2.1 h.2.2.1
  have h1 := h.2.2.2 p hp
  have h2 := k.2.2.2 p hp
  rw [tn_swap] at h2
  omega
/-- x is a corner -/
theorem onc_turn {rows : List Pt} {a prev x y : Pt} (h : OnC rows a prev x) (k : Nxt rows x y) (t : tn prev x y ≠ 0) : NxC rows a x ∧ OnC rows x x y := by
  have pos : 0 < crs (vec prev x) (vec x y) := by
    rw [← (tn_crs prev x y).2.1]
    have := h.n.1.2.2.2 y k.1.2.1
    omega
  refine ⟨⟨h.s, fun p hp z => ?_⟩, k, k.1, dir_self k.1.2.2.1, fun p hp z q => ?_⟩
  · by_cases pa : p = a
    · exact .inl pa
    by_cases px : p = x
    · exact .inr (.inl px)
    refine .inr (.inr ?_)
    rcases btw_cases h.s.2.2.1 (Ne.symm pa) (Ne.symm px) with w | w | w
    · exact absurd (show Btw p a x from by
        rcases w with ⟨w1, w2⟩ | ⟨w1, w2⟩
        · exact .inr ⟨w1, w2⟩
        · exact .inl ⟨w1, w2⟩) (h.b p hp z)
    · exfalso
      have d1 := btw_dir z w
      have d2 : Dir (vec prev x) (vec x p) := h.d.symm.trans d1
      have c := (dir_crs (w := vec x y) d2).1.mp pos
      have e : crs (vec x p) (vec x y) = -tn x y p := by
        unfold crs vec tn
        grind
      have := k.1.2.2.2 p hp
      omega
    · exact w
  · have z2 : tn p x y = 0 := by rw [tn_rot]; exact z
    have d1 := btw_dir z2 q
    have c := (dir_crs (w := vec prev x) d1.symm).2.2
    have e1 : crs (vec x y) (vec prev x) = -crs (vec prev x) (vec x y) := crs_neg _ _
    have e2 : crs (vec p x) (vec prev x) = tn prev x p := by
      unfold crs vec tn
      grind
    have := h.n.1.2.2.2 p hp
    have := c.mpr (by omega)
    omega
/-- x is none -/
theorem onc_on {rows : List Pt} (nr : NoRow rows) {a prev x y : Pt} (h : OnC rows a prev x) (k : Nxt rows x y) (t : tn prev x y = 0) : OnC rows a x y := by
  have ny : prev ≠ y := fun z => nxt_back nr h.n.1 (z ▸ k.1)
  have bt : Btw prev x y := by
    rcases btw_cases h.n.1.2.2.1 ny k.1.2.2.1 with w | w | w
    · exfalso
      refine k.2 prev h.n.1.1 ?_ ?_
      · rw [← tn_rot]; exact t
      · exact w
    · exact w
    · exact absurd w (h.n.2 y k.1.2.1 t)
  have d1 := btw_dir t bt
  have d2 : Dir (vec a x) (vec x y) := h.d.trans d1
  have d3 : Dir (vec a y) (vec x y) := by
    have := dir_add d2
    have e : ((vec a x).1 + (vec x y).1, (vec a x).2 + (vec x y).2) = vec a y := by
      unfold vec
      exact Prod.ext (by simp only; omega) (by simp only; omega)
    rwa [e] at this
  have d4 : Dir (vec a x) (vec a y) := d2.trans d3.symm
  refine ⟨k, ⟨h.s.1, k.1.2.1, fun z => ?_, fun p hp => ?_⟩, d3, fun p hp z q => h.b p hp ?_ ?_⟩
  · have := d3.d
    rw [← z] at this
    unfold dot vec at this
    simp at this
  · rw [(tn_crs a y p).1]
    refine (dir_crs d4).2.2.mp ?_
    rw [← (tn_crs a x p).1]
    exact h.s.2.2.2 p hp
  · rw [(tn_crs a x p).1]
    refine (dir_crs d4).2.1.mpr ?_
    rw [← (tn_crs a y p).1]
    exact z
  · have f := dir_lt d4.symm
    rcases q with ⟨q1, q2⟩ | ⟨q1, q2⟩
    · exact .inl ⟨q1, f.1 q2⟩
    · exact .inr ⟨f.2 q1, q2⟩
theorem flt_pr {rows : List Pt} (nr : NoRow rows) : ∀ (r : List Pt) (a prev x : Pt), OnC rows a prev x → Pr (Nxt rows) (x :: r) → Pr (NxC rows) (a :: flt prev (x :: r))
  | [], _, _, _, _, _ => True.intro
  | y :: r, a, prev, x, h, k => by
    rw [flt]
    by_cases t : tn prev x y = 0
    · rw [if_neg (fun z => z t)]
      exact flt_pr nr r a x y (onc_on nr h k.1 t) k.2
    · rw [if_pos t]
      obtain ⟨h1, h2⟩ := onc_turn h k.1 t
      exact ⟨h1, flt_pr nr r x x y h2 k.2⟩
theorem flt_sub : ∀ (l : List Pt) (prev e : Pt), ∀ x ∈ flt prev (l ++ [e]), x ∈ l
  | [], _, _, _, h => nomatch h
  | [y], prev, e, x, h => by
    rw [List.singleton_append, flt] at h
    split at h
    · rcases List.mem_cons.mp h with rfl | h
      · exact List.mem_cons_self
      · cases h
    · cases h
  | y :: z :: l, prev, e, x, h => by
    have h : x ∈ flt prev (y :: z :: (l ++ [e])) := h
    rw [flt] at h
    split at h
    · rcases List.mem_cons.mp h with rfl | h
      · exact List.mem_cons_self
      · exact List.mem_cons_of_mem _ (flt_sub (z :: l) y e x h)
    · exact List.mem_cons_of_mem _ (flt_sub (z :: l) y e x h)
/-- the end's own turn -/
theorem flt_last {e f : Pt} : ∀ (l : List Pt) (prev : Pt), (∀ last, (prev :: l).getLast? = some last → tn last e f ≠ 0) → flt prev (l ++ [e, f]) = flt prev (l ++ [e]) ++ [e]
  | [], prev, h => by
    rw [List.nil_append, List.nil_append, flt, if_pos (h prev rfl)]
    rfl
  | [y], prev, h => by
    have i := flt_last (e := e) (f := f) [] y fun last hl => h last (by rw [← hl]; rfl)
    show flt prev (y :: e :: [f]) = flt prev (y :: [e]) ++ [e]
    have u1 : flt prev (y :: e :: [f]) = if tn prev y e ≠ 0 then y :: flt y [e, f] else flt y [e, f] := by rw [flt]
    have u2 : flt prev (y :: [e]) = if tn prev y e ≠ 0 then y :: flt y [e] else flt y [e] := by rw [flt]
    rw [u1, u2]
    split
    · rw [show flt y (e :: [f]) = flt y [e] ++ [e] from i]
      rfl
    · exact i
  | y :: z :: l, prev, h => by
    have i := flt_last (e := e) (f := f) (z :: l) y fun last hl => h last (by rw [← hl]; rfl)
    show flt prev (y :: z :: (l ++ [e, f])) = flt prev (y :: z :: (l ++ [e])) ++ [e]
    have u1 : flt prev (y :: z :: (l ++ [e, f])) = if tn prev y z ≠ 0 then y :: flt y (z :: (l ++ [e, f])) else flt y (z :: (l ++ [e, f])) := by rw [flt]
    have u2 : flt prev (y :: z :: (l ++ [e])) = if tn prev y z ≠ 0 then y :: flt y (z :: (l ++ [e])) else flt y (z :: (l ++ [e])) := by rw [flt]
    rw [u1, u2]
    split
    · rw [show flt y (z :: (l ++ [e, f])) = flt y (z :: (l ++ [e])) ++ [e] from i]
      rfl
    · exact i
/-! ### corners and double areas -/
theorem nxt_btw {rows : List Pt} (nr : NoRow rows) {prev x y : Pt} (h : Nxt rows prev x) (k : Nxt rows x y) (t : tn prev x y = 0) : Btw prev x y := by
  have ny : prev ≠ y := fun z => nxt_back nr h.1 (z ▸ k.1)
  rcases btw_cases h.1.2.2.1 ny k.1.2.2.1 with w | w | w
  · exfalso
    refine k.2 prev h.1.1 ?_ ?_
    · rw [← tn_rot]; exact t
    · exact w
  · exact w
  · exact absurd w (h.2 y k.1.2.1 t)
theorem pr_end {R : Pt → Pt → Prop} {e : Pt} : ∀ (l : List Pt) {x : Pt}, (l.getLast? = some x) → Pr R (l ++ [e]) → R x e
  | [], _, h, _ => nomatch h
  | [a], x, h, k => by
    obtain rfl := Option.some.inj h
    exact k.1
  | a :: b :: l, x, h, k => pr_end (b :: l) h k.2
/-- what is told of a ring: the corners -/
theorem corners_is {rows : List Pt} (nr : NoRow rows) {p0 q : Pt} (so : rows.Pairwise lt2) (h0 : rows.head? = some p0) (hq : rows.getLast? = some q) (n2 : p0 ≠ q) {mid : List Pt} (n0 : p0 ∉ mid) (k : Pr (Nxt rows) (p0 :: mid ++ [p0])) {last : Pt} (hl : (p0 :: mid).getLast? = some last) :
    flt last (p0 :: mid ++ [p0]) = (stk 1 rows).reverse.dropLast ++ (stk 1 rows.reverse).reverse.dropLast ∧ ∃ p1 m1, mid = p1 :: m1 ∧ OnC rows p0 p0 p1 ∧ Pr (Nxt rows) (p1 :: (m1 ++ [p0, p1])) ∧ tn last p0 p1 ≠ 0 := by
  obtain ⟨mc, e1, e2, e3⟩ := ringC so h0 hq n2
  cases mid with
  | nil => exact absurd rfl k.1.1.2.2.1
  | cons p1 m1 =>
    have kl := pr_end (p0 :: p1 :: m1) hl k
    have first : ∀ p ∈ rows, ¬ lt2 p p0 := fun p hp z => by
      cases rows with
      | nil => cases h0
      | cons r0 rows =>
        obtain rfl := Option.some.inj h0
        rcases List.mem_cons.mp hp with e | m
        · exact lt2_irr (e ▸ z)
        · exact lt2_irr (lt2_tr z ((List.pairwise_cons.mp so).1 p m))
    have turn : tn last p0 p1 ≠ 0 := fun t => by
      rcases nxt_btw nr kl k.1 t with ⟨z, _⟩ | ⟨z, _⟩
      · exact first _ kl.1.1 z
      · exact first _ k.1.1.2.1 z
    have oc : OnC rows p0 p0 p1 := ⟨k.1, k.1.1, dir_self k.1.1.2.2.1, fun p hp _ z => by
      rcases z with ⟨z, _⟩ | ⟨z, _⟩
      · exact first p hp z
      · exact first p1 k.1.1.2.1 z⟩
    have long : Pr (Nxt rows) ((p1 :: m1) ++ p0 :: [p1]) := pr_app (l := p1 :: m1) k.2 ⟨k.1, True.intro⟩
    have c := flt_pr nr (m1 ++ [p0, p1]) p0 p0 p1 oc long
    have fl : flt p0 (p1 :: (m1 ++ [p0, p1])) = flt p0 ((p1 :: m1) ++ [p0]) ++ [p0] := flt_last (p1 :: m1) p0 fun x hx => by
      rw [hl] at hx
      rw [← Option.some.inj hx]
      exact turn
    rw [fl] at c
    have n3 : p0 ∉ flt p0 ((p1 :: m1) ++ [p0]) := fun z => n0 (flt_sub _ _ _ _ z)
    have d := ring_det (R := NxC rows) (fun _ _ _ => nxc_uniq nr) _ mc p0 c e3 n3 e2
    have u : flt last (p0 :: (p1 :: m1) ++ [p0]) = p0 :: flt p0 ((p1 :: m1) ++ [p0]) := by
      show flt last (p0 :: p1 :: (m1 ++ [p0])) = p0 :: flt p0 (p1 :: (m1 ++ [p0]))
      rw [flt, if_pos turn]
    exact ⟨by rw [u, d, e1], p1, m1, rfl, oc, long, turn⟩
/-- the sum along a way -/
def shoe : List Pt → Int
  | a :: b :: r => crs a b + shoe (b :: r)
  | _ => 0
theorem tn_shoe (a b c : Pt) : tn a b c = crs a b + crs b c - crs a c := by
  unfold tn crs
  grind
theorem shoe_flt {rows : List Pt} (nr : NoRow rows) : ∀ (r : List Pt) (a prev x e : Pt), OnC rows a prev x → Pr (Nxt rows) (x :: r) → (x :: r).getLast? = some e → shoe (a :: (flt prev (x :: r) ++ [e])) = crs a x + shoe (x :: r)
  | [], a, prev, x, e, _, _, h => by
    obtain rfl := Option.some.inj h
    rfl
  | y :: r, a, prev, x, e, h, k, hl => by
    have hl2 : (y :: r).getLast? = some e := hl
    rw [flt]
    by_cases t : tn prev x y = 0
    · rw [if_neg (fun z => z t), shoe_flt nr r a x y e (onc_on nr h k.1 t) k.2 hl2]
      have bt := nxt_btw nr h.n k.1 t
      have d2 : Dir (vec a x) (vec x y) := h.d.trans (btw_dir t bt)
      have z : tn a x y = 0 := by rw [(tn_crs a x y).2.1]; exact d2.c
      rw [tn_shoe] at z
      show _ = crs a x + (crs x y + shoe (y :: r))
      omega
    · rw [if_pos t]
      obtain ⟨_, h2⟩ := onc_turn h k.1 t
      have i := shoe_flt nr r x x y e h2 k.2 hl2
      show crs a x + shoe (x :: (flt x (y :: r) ++ [e])) = crs a x + (crs x y + shoe (y :: r))
      rw [i]
/-- a fan from the first corner -/
def fan (f : Pt) : List Pt → Int
  | a :: b :: r => tn f a b + fan f (b :: r)
  | _ => 0
theorem fan_shoe (f : Pt) : ∀ (l : List Pt) (a z : Pt), (a :: l).getLast? = some z → fan f (a :: l) = crs f a + shoe (a :: l) - crs f z
  | [], a, z, h => by
    obtain rfl := Option.some.inj h
    show 0 = crs f a + 0 - crs f a
    omega
  | b :: l, a, z, h => by
    have h : (b :: l).getLast? = some z := h
    have i := fan_shoe f l b z h
    show tn f a b + fan f (b :: l) = crs f a + (crs a b + shoe (b :: l)) - crs f z
    rw [i, tn_shoe]
    omega
theorem shoe_snoc {e : Pt} : ∀ (l : List Pt) (a z : Pt), (a :: l).getLast? = some z → shoe (a :: (l ++ [e])) = shoe (a :: l) + crs z e
  | [], a, z, h => by
    obtain rfl := Option.some.inj h
    show crs a e + 0 = 0 + crs a e
    omega
  | b :: l, a, z, h => by
    have h : (b :: l).getLast? = some z := h
    have i := shoe_snoc (e := e) l b z h
    show crs a b + shoe (b :: (l ++ [e])) = crs a b + shoe (b :: l) + crs z e
    rw [i]
    omega
/-- a closed way's sum is that of its fan -/
theorem fan_closed (f : Pt) (l : List Pt) : fan f (f :: l) = shoe (f :: (l ++ [f])) := by
  obtain ⟨z, hz⟩ : ∃ z, (f :: l).getLast? = some z := ⟨_, List.getLast?_eq_some_getLast (by simp)⟩
  rw [fan_shoe f l f z hz, shoe_snoc l f z hz, crs_neg z f]
  have : crs f f = 0 := by
    unfold crs
    grind
  omega
/-! ### chains for any sign of a turn, over a part of the sites -/
abbrev Sgt := Pt → Pt → Pt → Int
/-- what a sign of turns must keep -/
structure Ax (T : Sgt) : Prop where
  over_next : ∀ {a b c d : Pt}, lt2 a b → lt2 b c → lt2 c d → 0 ≤ T a b c → 0 ≤ T b c d → 0 ≤ T a b d
  over_fore : ∀ {a b s p : Pt}, lt2 a b → lt2 a s → lt2 a p → T a b s ≤ 0 → 0 ≤ T a b p → 0 ≤ T a s p
  over_back : ∀ {c a s p : Pt}, lt2 c a → lt2 a s → lt2 p a → 0 ≤ T c a s → 0 ≤ T c a p → 0 ≤ T a s p
  over_fore_lt : ∀ {a b s p : Pt}, lt2 a b → lt2 a s → lt2 a p → T a b s < 0 → 0 ≤ T a b p → 0 < T a s p
  over_next_lt : ∀ {a b c p : Pt}, lt2 a b → lt2 b c → lt2 b p → 0 < T a b c → 0 ≤ T b c p → 0 < T a b p
  over_prev_lt : ∀ {z a b p : Pt}, lt2 z a → lt2 a b → lt2 p a → 0 < T z a b → 0 ≤ T z a p → 0 < T a b p
  tn_end : ∀ (a b : Pt), T a b a = 0 ∧ T a b b = 0
  up : ∀ {a b p0 q p : Pt}, lt2 a b → lt2 p0 p → lt2 p q → 0 < T p0 q p → 0 ≤ T a b p0 → 0 ≤ T a b q → 0 < T a b p
def popFG (T : Sgt) (least : Int) (s : Pt) : List Pt → List Pt
  | b :: a :: r => if T a b s < least then popFG T least s (a :: r) else b :: a :: r
  | l => l
def pushFG (T : Sgt) (least : Int) (st : List Pt) (s : Pt) : List Pt := s :: popFG T least s st
def CvxG (T : Sgt) (least : Int) : List Pt → Prop
  | c :: b :: a :: r => least ≤ T a b c ∧ CvxG T least (b :: a :: r)
  | _ => True
structure ChnG (T : Sgt) (least : Int) (P st : List Pt) : Prop where
  cvx : CvxG T least st
  srt : st.Pairwise fun x y => lt2 y x
  sub : ∀ x ∈ st, x ∈ P
  top : ∀ p ∈ P, ∀ x, st.head? = some x → p = x ∨ lt2 p x
  bot : ∀ p ∈ P, ∀ x, st.getLast? = some x → p = x ∨ lt2 x p
  low : ∀ e ∈ Edg st, ∀ p ∈ P, 0 ≤ T e.2 e.1 p
theorem edg_overG {T : Sgt} (ax : Ax T) {least : Int} (l0 : 0 ≤ least) {s : Pt} : ∀ (r : List Pt) (b a : Pt), CvxG T least (b :: a :: r) → (b :: a :: r).Pairwise (fun x y => lt2 y x) → lt2 b s → 0 ≤ T a b s → ∀ e ∈ Edg (b :: a :: r), 0 ≤ T e.2 e.1 s
  | [], b, a, _, _, _, h, e, he => by
    have : e = (b, a) := by simpa [Edg] using he
    rw [this]
    exact h
  | z :: r, b, a, cv, so, bs, h, e, he => by
    rcases List.mem_cons.mp (show e ∈ (b, a) :: Edg (a :: z :: r) from he) with rfl | he
    · exact h
    · have ab : lt2 a b := (List.pairwise_cons.mp so).1 a List.mem_cons_self
      have so2 := (List.pairwise_cons.mp so).2
      have za : lt2 z a := (List.pairwise_cons.mp so2).1 z List.mem_cons_self
      exact edg_overG ax l0 r a z cv.2 so2 (lt2_tr ab bs) (ax.over_next za ab bs (Int.le_trans l0 cv.1) h) e he
theorem chn_pushG {T : Sgt} (ax : Ax T) {least : Int} (l0 : 0 ≤ least) (l1 : least ≤ 1) {P : List Pt} {s : Pt} (hs : ∀ p ∈ P, lt2 p s) : ∀ (st : List Pt), st ≠ [] → CvxG T least st → st.Pairwise (fun x y => lt2 y x) → (∀ x ∈ st, x ∈ P) → (∀ p ∈ P, ∀ x, st.getLast? = some x → p = x ∨ lt2 x p) → (∀ e ∈ Edg st, ∀ p ∈ P, 0 ≤ T e.2 e.1 p) →
    (∀ p ∈ P, ∀ b, st.head? = some b → lt2 b p → 0 ≤ T b s p) → ChnG T least (P ++ [s]) (pushFG T least st s)
  | [], h, _, _, _, _, _, _ => absurd rfl h
  | [b], _, _, _, sub, bot, _, cover => by
    have bP := sub b List.mem_cons_self
    refine ⟨True.intro, ?_, ?_, ?_, ?_, ?_⟩
    · exact List.pairwise_cons.mpr ⟨fun x hx => by rw [List.mem_singleton.mp hx]; exact hs b bP, List.pairwise_singleton _ _⟩
    · intro x hx
      rcases List.mem_cons.mp hx with rfl | hx
      · exact List.mem_append_right _ (List.mem_singleton.mpr rfl)
      · exact List.mem_append_left _ (sub x hx)
    · intro p hp x hx
      obtain rfl : s = x := Option.some.inj hx
      rcases List.mem_append.mp hp with m | m
      · exact .inr (hs p m)
      · exact .inl (List.mem_singleton.mp m)
    · intro p hp x hx
      obtain rfl : b = x := Option.some.inj hx
      rcases List.mem_append.mp hp with m | m
      · exact bot p m b rfl
      · rw [List.mem_singleton.mp m]
        exact .inr (hs b bP)
    · intro e he p hp
      have : e = (s, b) := by simpa [Edg, pushFG, popFG] using he
      subst this
      rcases List.mem_append.mp hp with m | m
      · rcases bot p m b rfl with rfl | q
        · rw [(ax.tn_end p s).1]
          exact Int.le_refl _
        · exact cover p m b rfl q
      · rw [List.mem_singleton.mp m, (ax.tn_end b s).2]
        exact Int.le_refl _
  | b :: a :: r, _, cv, so, sub, bot, low, cover => by
    have so2 := (List.pairwise_cons.mp so).2
    have ab : lt2 a b := (List.pairwise_cons.mp so).1 a List.mem_cons_self
    have bP := sub b List.mem_cons_self
    have aP := sub a (List.mem_cons_of_mem _ List.mem_cons_self)
    by_cases c : T a b s < least
    · have e : pushFG T least (b :: a :: r) s = pushFG T least (a :: r) s := by
        unfold pushFG
        rw [popFG, if_pos c]
      rw [e]
      refine chn_pushG ax l0 l1 hs (a :: r) (by simp) ?_ so2 (fun x hx => sub x (List.mem_cons_of_mem _ hx)) (fun p hp x hx => bot p hp x ?_) (fun e he => low e ?_) (fun p hp x hx q => ?_)
      · cases r with
        | nil => exact True.intro
        | cons z r => exact cv.2
      · exact hx
      · exact List.mem_cons_of_mem _ he
      · obtain rfl : a = x := Option.some.inj hx
        exact ax.over_fore ab (hs a aP) q (by omega) (low (b, a) List.mem_cons_self p hp)
    · have e : pushFG T least (b :: a :: r) s = s :: b :: a :: r := by
        unfold pushFG
        rw [popFG, if_neg c]
      rw [e]
      have pos : 0 ≤ T a b s := by omega
      refine ⟨⟨by omega, cv⟩, ?_, ?_, ?_, ?_, ?_⟩
      · exact List.pairwise_cons.mpr ⟨fun x hx => hs x (sub x hx), so⟩
      · intro x hx
        rcases List.mem_cons.mp hx with rfl | hx
        · exact List.mem_append_right _ (List.mem_singleton.mpr rfl)
        · exact List.mem_append_left _ (sub x hx)
      · intro p hp x hx
        obtain rfl : s = x := Option.some.inj hx
        rcases List.mem_append.mp hp with m | m
        · exact .inr (hs p m)
        · exact .inl (List.mem_singleton.mp m)
      · intro p hp x hx
        have hx : (b :: a :: r).getLast? = some x := hx
        rcases List.mem_append.mp hp with m | m
        · exact bot p m x hx
        · rw [List.mem_singleton.mp m]
          exact .inr (hs x (sub x (List.mem_of_getLast? hx)))
      · intro e he p hp
        rcases List.mem_append.mp hp with m | m
        · rcases List.mem_cons.mp (show e ∈ (s, b) :: Edg (b :: a :: r) from he) with rfl | he
          · by_cases q : p = b
            · rw [q, (ax.tn_end b s).1]
              exact Int.le_refl _
            · rcases lt2_tri q with z | z
              · exact ax.over_back ab (hs b bP) z pos (low (b, a) List.mem_cons_self p m)
              · exact cover p m b rfl z
          · exact low e he p m
        · rw [List.mem_singleton.mp m]
          rcases List.mem_cons.mp (show e ∈ (s, b) :: Edg (b :: a :: r) from he) with rfl | he
          · rw [(ax.tn_end b s).2]
            exact Int.le_refl _
          · exact edg_overG ax l0 r b a cv so (hs b bP) pos e he
theorem chn_allG {T : Sgt} (ax : Ax T) {least : Int} (l0 : 0 ≤ least) (l1 : least ≤ 1) : ∀ (rows : List Pt) (p0 : Pt), (p0 :: rows).Pairwise lt2 → ChnG T least (p0 :: rows) (rows.foldl (pushFG T least) [p0]) := by
  have go : ∀ (rows P st : List Pt), st ≠ [] → ChnG T least P st → (P ++ rows).Pairwise lt2 → ChnG T least (P ++ rows) (rows.foldl (pushFG T least) st) := by
    intro rows
    induction rows with
    | nil => intro P st _ h _; rw [List.append_nil]; exact h
    | cons s rows ih =>
      intro P st ne h so
      have e : P ++ s :: rows = (P ++ [s]) ++ rows := by rw [List.append_assoc]; rfl
      rw [e] at so ⊢
      have hs : ∀ p ∈ P, lt2 p s := fun p hp => (List.pairwise_append.mp (List.pairwise_append.mp so).1).2.2 p hp s (List.mem_singleton.mpr rfl)
      refine ih _ _ (by unfold pushFG; simp) (chn_pushG ax l0 l1 hs st ne h.cvx h.srt h.sub h.bot h.low fun p hp b hb q => ?_) so
      rcases h.top p hp b hb with rfl | z
      · exact absurd q lt2_irr
      · exact absurd (lt2_tr q z) lt2_irr
  intro rows p0 so
  refine go rows [p0] [p0] (by simp) ⟨True.intro, List.pairwise_singleton _ _, fun x hx => hx, fun p hp x hx => ?_, fun p hp x hx => ?_, fun e he => ?_⟩ so
  · rw [List.mem_singleton.mp hp]
    exact .inl (Option.some.inj hx)
  · rw [List.mem_singleton.mp hp]
    exact .inl (Option.some.inj hx)
  · cases he
def OffG (T : Sgt) (P : List Pt) (st : List Pt) : Prop := ∀ e ∈ Edg st, ∀ p ∈ P, lt2 e.2 p → lt2 p e.1 → 0 < T e.2 e.1 p
theorem off_pushG {T : Sgt} (ax : Ax T) {P : List Pt} {s : Pt} (hs : ∀ p ∈ P, lt2 p s) : ∀ (st : List Pt), st ≠ [] → st.Pairwise (fun x y => lt2 y x) → (∀ x ∈ st, x ∈ P) → (∀ e ∈ Edg st, ∀ p ∈ P, 0 ≤ T e.2 e.1 p) → OffG T P st →
    (∀ p ∈ P, ∀ b, st.head? = some b → lt2 b p → 0 < T b s p) → OffG T (P ++ [s]) (pushFG T 0 st s)
  | [], h, _, _, _, _, _ => absurd rfl h
  | [b], _, _, _, _, _, cover => by
    intro e he p hp h1 h2
    have : e = (s, b) := by simpa [Edg, pushFG, popFG] using he
    subst this
    rcases List.mem_append.mp hp with m | m
    · exact cover p m b rfl h1
    · rw [List.mem_singleton.mp m] at h2
      exact absurd h2 lt2_irr
  | b :: a :: r, _, so, sub, low, off, cover => by
    have so2 := (List.pairwise_cons.mp so).2
    have ab : lt2 a b := (List.pairwise_cons.mp so).1 a List.mem_cons_self
    have aP := sub a (List.mem_cons_of_mem _ List.mem_cons_self)
    have bP := sub b List.mem_cons_self
    by_cases c : T a b s < 0
    · have e : pushFG T 0 (b :: a :: r) s = pushFG T 0 (a :: r) s := by
        unfold pushFG
        rw [popFG, if_pos c]
      rw [e]
      refine off_pushG ax hs (a :: r) (by simp) so2 (fun x hx => sub x (List.mem_cons_of_mem _ hx)) (fun e he => low e (List.mem_cons_of_mem _ he)) (fun e he => off e (List.mem_cons_of_mem _ he)) (fun p hp x hx q => ?_)
      obtain rfl : a = x := Option.some.inj hx
      exact ax.over_fore_lt ab (hs a aP) q c (low (b, a) List.mem_cons_self p hp)
    · have e : pushFG T 0 (b :: a :: r) s = s :: b :: a :: r := by
        unfold pushFG
        rw [popFG, if_neg c]
      rw [e]
      intro e he p hp h1 h2
      rcases List.mem_cons.mp (show e ∈ (s, b) :: Edg (b :: a :: r) from he) with rfl | he
      · rcases List.mem_append.mp hp with m | m
        · exact cover p m b rfl h1
        · rw [List.mem_singleton.mp m] at h2
          exact absurd h2 lt2_irr
      · rcases List.mem_append.mp hp with m | m
        · exact off e he p m h1 h2
        · -- s lies behind all edges
          have mem : ∀ (l : List Pt) (e : Pt × Pt), e ∈ Edg l → e.1 ∈ l := by
            intro l
            induction l with
            | nil => intro e h; cases h
            | cons x l ih =>
              intro e h
              cases l with
              | nil => cases h
              | cons y l =>
                rcases List.mem_cons.mp (show e ∈ (x, y) :: Edg (y :: l) from h) with rfl | h
                · exact List.mem_cons_self
                · exact List.mem_cons_of_mem _ (ih e h)
          rw [List.mem_singleton.mp m] at h2
          exact absurd (lt2_tr h2 (hs e.1 (sub e.1 (mem _ e he)))) lt2_irr
theorem off_allG {T : Sgt} (ax : Ax T) : ∀ (rows : List Pt) (p0 : Pt), (p0 :: rows).Pairwise lt2 → OffG T (p0 :: rows) (rows.foldl (pushFG T 0) [p0]) := by
  have go : ∀ (rows P st : List Pt), st ≠ [] → ChnG T 0 P st → OffG T P st → (P ++ rows).Pairwise lt2 → OffG T (P ++ rows) (rows.foldl (pushFG T 0) st) := by
    intro rows
    induction rows with
    | nil => intro P st _ _ h _; rw [List.append_nil]; exact h
    | cons s rows ih =>
      intro P st ne h off so
      have e : P ++ s :: rows = (P ++ [s]) ++ rows := by rw [List.append_assoc]; rfl
      rw [e] at so ⊢
      have hs : ∀ p ∈ P, lt2 p s := fun p hp => (List.pairwise_append.mp (List.pairwise_append.mp so).1).2.2 p hp s (List.mem_singleton.mpr rfl)
      have cov : ∀ p ∈ P, ∀ b, st.head? = some b → ¬ lt2 b p := fun p hp b hb q => by
        rcases h.top p hp b hb with rfl | z
        · exact absurd q lt2_irr
        · exact absurd (lt2_tr q z) lt2_irr
      exact ih _ _ (by unfold pushFG; simp) (chn_pushG ax (by decide) (by decide) hs st ne h.cvx h.srt h.sub h.bot h.low fun p hp b hb q => absurd q (cov p hp b hb)) (off_pushG ax hs st ne h.srt h.sub h.low off fun p hp b hb q => absurd q (cov p hp b hb)) so
  intro rows p0 so
  refine go rows [p0] [p0] (by simp) (chn_allG ax (by decide) (by decide) [] p0 (List.pairwise_singleton _ _)) (fun e he => ?_) so
  cases he
def stkG (T : Sgt) (least : Int) (rows : List Pt) : List Pt := rows.foldl (pushFG T least) []
theorem stk_consG {T : Sgt} (least : Int) (p0 : Pt) (rows : List Pt) : stkG T least (p0 :: rows) = rows.foldl (pushFG T least) [p0] := rfl
theorem fold_neG {T : Sgt} (least : Int) : ∀ (rows st : List Pt), st ≠ [] → rows.foldl (pushFG T least) st ≠ []
  | [], _, h => h
  | s :: rows, st, _ => fold_neG least rows (pushFG T least st s) (by unfold pushFG; simp)
theorem stk_endsG {T : Sgt} (ax : Ax T) {least : Int} (l0 : 0 ≤ least) (l1 : least ≤ 1) {rows : List Pt} {p0 q : Pt} (so : rows.Pairwise lt2) (h0 : rows.head? = some p0) (hq : rows.getLast? = some q) (n2 : p0 ≠ q) : ∃ m, stkG T least rows = q :: (m ++ [p0]) ∧ ∀ x ∈ m, lt2 p0 x ∧ lt2 x q := by
  cases rows with
  | nil => cases h0
  | cons r0 rows =>
    obtain rfl := Option.some.inj h0
    have c := chn_allG ax l0 l1 rows r0 so
    rw [stk_consG]
    have ne := fold_neG (T := T) least rows [r0] (by simp)
    generalize rows.foldl (pushFG T least) [r0] = S at c ne
    have r0in : r0 ∈ r0 :: rows := List.mem_cons_self
    have first : ∀ p ∈ r0 :: rows, p = r0 ∨ lt2 r0 p := fun p hp => by
      rcases List.mem_cons.mp hp with e | m
      · exact .inl e
      · exact .inr ((List.pairwise_cons.mp so).1 p m)
    have last : ∀ p ∈ r0 :: rows, p = q ∨ lt2 p q := fun p hp => by
      obtain ⟨ys, ey⟩ := List.getLast?_eq_some_iff.mp hq
      rw [ey] at hp so
      rcases List.mem_append.mp hp with m | m
      · exact .inr ((List.pairwise_append.mp so).2.2 p m q (List.mem_singleton.mpr rfl))
      · exact .inl (List.mem_singleton.mp m)
    have qin : q ∈ r0 :: rows := List.mem_of_getLast? hq
    cases S with
    | nil => exact absurd rfl ne
    | cons t S =>
      have ht : t = q := by
        rcases c.top q qin t rfl with e | z
        · exact e.symm
        · rcases last t (c.sub t List.mem_cons_self) with e | y
          · exact e
          · exact absurd (lt2_tr z y) lt2_irr
      subst ht
      rcases List.eq_nil_or_concat S with rfl | ⟨m, b, rfl⟩
      · exfalso
        rcases c.bot r0 r0in t rfl with e | z
        · exact n2 e
        · rcases last r0 r0in with e | y
          · exact n2 e
          · exact lt2_irr (lt2_tr z y)
      · rw [List.concat_eq_append] at c ⊢
        have hb : b = r0 := by
          have gl : (t :: (m ++ [b])).getLast? = some b := by
            rw [← List.cons_append, List.getLast?_append]
            rfl
          rcases c.bot r0 r0in b gl with e | z
          · exact e.symm
          · rcases first b (c.sub b (List.mem_cons_of_mem _ (List.mem_append_right _ (List.mem_singleton.mpr rfl)))) with e | y
            · exact e
            · exact absurd (lt2_tr z y) lt2_irr
        subst hb
        refine ⟨m, rfl, fun x hx => ⟨?_, (List.pairwise_cons.mp c.srt).1 x (List.mem_append_left _ hx)⟩⟩
        exact (List.pairwise_append.mp (List.pairwise_cons.mp c.srt).2).2.2 x hx b (List.mem_singleton.mpr rfl)
theorem cvx_sufG {T : Sgt} {least : Int} : ∀ (l : List Pt) {m : List Pt}, CvxG T least (l ++ m) → CvxG T least m
  | [], _, h => h
  | x :: l, m, h => by
    refine cvx_sufG l ?_
    have h : CvxG T least (x :: (l ++ m)) := h
    generalize l ++ m = k at h
    match k, h with
    | [], _ => exact True.intro
    | [_], _ => exact True.intro
    | [_, _], h => exact True.intro
    | a :: b :: c :: k, h => exact h.2
theorem edg_upG {T : Sgt} {least : Int} {S : List Pt} (cv : CvxG T least S) {e : Pt × Pt} (he : e ∈ Edg S) : S.head? = some e.1 ∨ ∃ c, (c, e.1) ∈ Edg S ∧ least ≤ T e.2 e.1 c := by
  obtain ⟨l, r, rfl⟩ := edg_split he
  rcases List.eq_nil_or_concat l with rfl | ⟨l, c, rfl⟩
  · exact .inl rfl
  · rw [List.concat_eq_append, List.append_assoc] at *
    exact .inr ⟨c, edg_of l c e.1 (e.2 :: r), (cvx_sufG l cv).1⟩
theorem edg_dnG {T : Sgt} {least : Int} {S : List Pt} (cv : CvxG T least S) {e : Pt × Pt} (he : e ∈ Edg S) : S.getLast? = some e.2 ∨ ∃ z, (e.2, z) ∈ Edg S ∧ least ≤ T z e.2 e.1 := by
  obtain ⟨l, r, rfl⟩ := edg_split he
  cases r with
  | nil =>
    left
    rw [List.getLast?_append]
    rfl
  | cons z r =>
    refine .inr ⟨z, ?_, (cvx_sufG l cv).1⟩
    have e2 : l ++ e.1 :: e.2 :: z :: r = (l ++ [e.1]) ++ e.2 :: z :: r := by simp
    rw [e2]
    exact edg_of _ _ _ _

theorem up_tn {a b p0 q p : Pt} (ab : lt2 a b) (p0p : lt2 p0 p) (pq : lt2 p q) (h : 0 < tn p0 q p) (h0 : 0 ≤ tn a b p0) (hq : 0 ≤ tn a b q) : 0 < tn a b p := by
  refine Classical.byContradiction fun n => ?_
  have n : tn a b p ≤ 0 := by omega
  have e1 : crs (vec p0 p) (vec a b) = tn a b p0 - tn a b p := by unfold crs vec tn; grind
  have e2 : crs (vec a b) (vec p q) = tn a b q - tn a b p := by unfold crs vec tn; grind
  have z := crs_tr (fwd_vec.mpr p0p) (fwd_vec.mpr ab) (fwd_vec.mpr pq) (by omega) (by omega)
  have e3 : tn p0 q p = -crs (vec p0 p) (vec p q) := by unfold crs vec tn; grind
  omega
/-- the sign with the sides changed -/
def tm (a b c : Pt) : Int := -tn a b c
theorem ax_tn : Ax tn := ⟨over_next, over_fore, over_back, over_fore_lt, over_next_lt, over_prev_lt, tn_end, up_tn⟩
theorem ax_tm : Ax tm where
  over_next := fun {a b c d} ab bc cd h k => by
    unfold tm at *
    have e : tn a b d = crs (vec a b) (vec b c) + crs (vec a b) (vec c d) := by unfold tn crs vec; grind
    rw [(tn_crs a b c).2.1, crs_neg] at h
    rw [(tn_crs b c d).2.1, crs_neg] at k
    have t := crs_tr (fwd_vec.mpr cd) (fwd_vec.mpr bc) (fwd_vec.mpr ab) (by omega) (by omega)
    rw [crs_neg] at t
    rw [crs_neg] at h
    omega
  over_fore := fun {a b s p} ab as ap h k => by
    unfold tm at *
    rw [(tn_crs a b s).1] at h
    rw [(tn_crs a b p).1, crs_neg] at k
    rw [(tn_crs a s p).1, crs_neg]
    have t := crs_tr (fwd_vec.mpr ap) (fwd_vec.mpr ab) (fwd_vec.mpr as) (by omega) (by omega)
    omega
  over_back := fun {c a s p} ca as pa h k => by
    unfold tm at *
    rw [(tn_crs c a s).2.1, crs_neg] at h
    have e1 : tn c a p = crs (vec p a) (vec c a) := by unfold tn crs vec; grind
    have e2 : tn a s p = crs (vec p a) (vec a s) := by unfold tn crs vec; grind
    rw [e1, crs_neg] at k
    have t := crs_tr (fwd_vec.mpr as) (fwd_vec.mpr ca) (fwd_vec.mpr pa) (by omega) (by omega)
    rw [crs_neg] at t
    omega
  over_fore_lt := fun {a b s p} ab as ap h k => by
    unfold tm at *
    rw [(tn_crs a b s).1] at h
    rw [(tn_crs a b p).1, crs_neg] at k
    rw [(tn_crs a s p).1, crs_neg]
    have t := crs_tr_lt2 (fwd_vec.mpr ap) (fwd_vec.mpr ab) (fwd_vec.mpr as) (by omega) (by omega)
    omega
  over_next_lt := fun {a b c p} ab bc bp h k => by
    unfold tm at *
    rw [(tn_crs a b c).2.1, crs_neg] at h
    rw [(tn_crs b c p).1, crs_neg] at k
    rw [(tn_crs a b p).2.1, crs_neg]
    have t := crs_tr_lt2 (fwd_vec.mpr bp) (fwd_vec.mpr bc) (fwd_vec.mpr ab) (by omega) (by omega)
    omega
  over_prev_lt := fun {z a b p} za ab pa h k => by
    unfold tm at *
    rw [(tn_crs z a b).2.1, crs_neg] at h
    have e1 : tn z a p = crs (vec p a) (vec z a) := by unfold tn crs vec; grind
    have e2 : tn a b p = crs (vec p a) (vec a b) := by unfold tn crs vec; grind
    rw [e1, crs_neg] at k
    have t := crs_tr_lt (fwd_vec.mpr ab) (fwd_vec.mpr za) (fwd_vec.mpr pa) (by omega) (by omega)
    rw [crs_neg] at t
    omega
  tn_end := fun a b => by
    unfold tm
    rw [(tn_end a b).1, (tn_end a b).2]
    exact ⟨rfl, rfl⟩
  up := fun {a b p0 q p} ab p0p pq h h0 hq => by
    unfold tm at *
    refine Classical.byContradiction fun n => ?_
    have e1 : crs (vec p0 p) (vec a b) = tn a b p0 - tn a b p := by unfold crs vec tn; grind
    have e2 : crs (vec a b) (vec p q) = tn a b q - tn a b p := by unfold crs vec tn; grind
    rw [crs_neg] at e1 e2
    have z := crs_tr (fwd_vec.mpr pq) (fwd_vec.mpr ab) (fwd_vec.mpr p0p) (by omega) (by omega)
    have e3 : tn p0 q p = crs (vec p q) (vec p0 p) := by unfold crs vec tn; grind
    omega
/-! ### both chains of the program: each over the sites on its side of the line from the first to the last -/
/-- the sites that are not over the line from p0 to q -/
def part (T : Sgt) (p0 q : Pt) (rows : List Pt) : List Pt := rows.filter fun s => decide (T p0 q s ≤ 0)
section
variable {T : Sgt} {rows : List Pt} {p0 q : Pt}
theorem part_head (ax : Ax T) (h0 : rows.head? = some p0) : (part T p0 q rows).head? = some p0 := by
  cases rows with
  | nil => cases h0
  | cons r0 rows =>
    obtain rfl := Option.some.inj h0
    unfold part
    rw [List.filter_cons_of_pos (by rw [(ax.tn_end r0 q).1]; rfl)]
    rfl
theorem part_last (ax : Ax T) (hq : rows.getLast? = some q) : (part T p0 q rows).getLast? = some q := by
  obtain ⟨ys, rfl⟩ := List.getLast?_eq_some_iff.mp hq
  unfold part
  rw [List.filter_append, List.filter_cons_of_pos (by rw [(ax.tn_end p0 q).2]; rfl), List.filter_nil]
  exact List.getLast?_concat
theorem part_srt (so : rows.Pairwise lt2) : (part T p0 q rows).Pairwise lt2 := so.sublist List.filter_sublist
theorem first_is (so : rows.Pairwise lt2) (h0 : rows.head? = some p0) : ∀ p ∈ rows, p = p0 ∨ lt2 p0 p := fun p hp => by
  cases rows with
  | nil => cases h0
  | cons r0 rows =>
    obtain rfl := Option.some.inj h0
    rcases List.mem_cons.mp hp with e | m
    · exact .inl e
    · exact .inr ((List.pairwise_cons.mp so).1 p m)
theorem last_is (so : rows.Pairwise lt2) (hq : rows.getLast? = some q) : ∀ p ∈ rows, p = q ∨ lt2 p q := fun p hp => by
  obtain ⟨ys, rfl⟩ := List.getLast?_eq_some_iff.mp hq
  rcases List.mem_append.mp hp with m | m
  · exact .inr ((List.pairwise_append.mp so).2.2 p m q (List.mem_singleton.mpr rfl))
  · exact .inl (List.mem_singleton.mp m)
theorem part_chn (ax : Ax T) {least : Int} (l0 : 0 ≤ least) (l1 : least ≤ 1) (so : rows.Pairwise lt2) (h0 : rows.head? = some p0) : ChnG T least (part T p0 q rows) (stkG T least (part T p0 q rows)) := by
  have hh := part_head (q := q) ax h0
  have hs := part_srt (T := T) (p0 := p0) (q := q) so
  generalize part T p0 q rows = R at hh hs
  cases R with
  | nil => cases hh
  | cons r0 R =>
    rw [stk_consG]
    exact chn_allG ax l0 l1 R r0 hs
/-- an edge of such a chain has no site at all on its other side; those that are over the line are off it -/
theorem part_edge (ax : Ax T) {least : Int} (l0 : 0 ≤ least) (l1 : least ≤ 1) (so : rows.Pairwise lt2) (h0 : rows.head? = some p0) (hq : rows.getLast? = some q) {e : Pt × Pt} (he : e ∈ Edg (stkG T least (part T p0 q rows))) :
    lt2 e.2 e.1 ∧ e.2 ∈ rows ∧ e.1 ∈ rows ∧ ∀ p ∈ rows, 0 ≤ T e.2 e.1 p ∧ (0 < T p0 q p → 0 < T e.2 e.1 p) := by
  have c := part_chn (q := q) ax l0 l1 so h0
  have lt := edg_lt _ c.srt e he
  have m := edg_mem _ e he
  have sub : ∀ x ∈ part T p0 q rows, x ∈ rows := fun x hx => (List.mem_filter.mp hx).1
  have in0 : p0 ∈ part T p0 q rows := List.mem_of_head? (part_head ax h0)
  have inq : q ∈ part T p0 q rows := List.mem_of_getLast? (part_last ax hq)
  have z0 := c.low e he p0 in0
  have zq := c.low e he q inq
  refine ⟨lt, sub _ (c.sub _ m.2), sub _ (c.sub _ m.1), fun p hp => ?_⟩
  by_cases w : T p0 q p ≤ 0
  · exact ⟨c.low e he p (List.mem_filter.mpr ⟨hp, decide_eq_true w⟩), fun z => absurd z (by omega)⟩
  · have up : 0 < T e.2 e.1 p := by
      rcases first_is so h0 p hp with rfl | a
      · rw [(ax.tn_end p q).1] at w
        exact absurd (Int.le_refl 0) w
      rcases last_is so hq p hp with rfl | b
      · rw [(ax.tn_end p0 p).2] at w
        exact absurd (Int.le_refl 0) w
      exact ax.up lt a b (by omega) z0 zq
    exact ⟨Int.le_of_lt up, fun _ => up⟩
theorem part_nxt (ax : Ax T) (so : rows.Pairwise lt2) (h0 : rows.head? = some p0) (hq : rows.getLast? = some q) {e : Pt × Pt} (he : e ∈ Edg (stkG T 0 (part T p0 q rows))) : ∀ p ∈ rows, T e.2 e.1 p = 0 → ¬ Btw e.2 p e.1 := fun p hp z b => by
  obtain ⟨lt, _, _, all⟩ := part_edge ax (by decide) (by decide) so h0 hq he
  have hh := part_head (q := q) ax h0
  have hs := part_srt (T := T) (p0 := p0) (q := q) so
  have w : T p0 q p ≤ 0 := by
    have := (all p hp).2
    omega
  have pin : p ∈ part T p0 q rows := List.mem_filter.mpr ⟨hp, decide_eq_true w⟩
  rcases b with ⟨q1, q2⟩ | ⟨q1, q2⟩
  · generalize part T p0 q rows = R at hh hs pin he
    cases R with
    | nil => cases hh
    | cons r0 R =>
      rw [stk_consG] at he
      have := off_allG ax R r0 hs e he p pin q1 q2
      omega
  · exact lt2_irr (lt2_tr (lt2_tr q1 q2) lt)
theorem part_nxc (ax : Ax T) (so : rows.Pairwise lt2) (h0 : rows.head? = some p0) (hq : rows.getLast? = some q) {e : Pt × Pt} (he : e ∈ Edg (stkG T 1 (part T p0 q rows))) : ∀ p ∈ rows, T e.2 e.1 p = 0 → p = e.2 ∨ p = e.1 ∨ Btw e.2 p e.1 := fun p hp z => by
  obtain ⟨lt, _, _, all⟩ := part_edge ax (by decide) (by decide) so h0 hq he
  have c := part_chn (q := q) ax (least := 1) (by decide) (by decide) so h0
  have w : T p0 q p ≤ 0 := by
    have := (all p hp).2
    omega
  have pin : p ∈ part T p0 q rows := List.mem_filter.mpr ⟨hp, decide_eq_true w⟩
  by_cases pa : p = e.2
  · exact .inl pa
  by_cases pb : p = e.1
  · exact .inr (.inl pb)
  refine .inr (.inr (.inl ⟨?_, ?_⟩))
  · rcases lt2_tri pa with g | g
    · exfalso
      rcases edg_dnG c.cvx he with hd | ⟨d, hd, k⟩
      · rcases c.bot p pin e.2 hd with w | w
        · exact pa w
        · exact lt2_irr (lt2_tr w g)
      · have := ax.over_prev_lt (z := d) (a := e.2) (b := e.1) (p := p) (edg_lt _ c.srt _ hd) lt g (by omega) (c.low _ hd p pin)
        omega
    · exact g
  · rcases lt2_tri pb with g | g
    · exact g
    · exfalso
      rcases edg_upG c.cvx he with hd | ⟨d, hd, k⟩
      · rcases c.top p pin e.1 hd with w | w
        · exact pb w
        · exact lt2_irr (lt2_tr w g)
      · have := ax.over_next_lt (a := e.2) (b := e.1) (c := d) lt (edg_lt _ c.srt _ hd) g (by omega) (c.low _ hd p pin)
        omega
theorem part_ends (ax : Ax T) {least : Int} (l0 : 0 ≤ least) (l1 : least ≤ 1) (so : rows.Pairwise lt2) (h0 : rows.head? = some p0) (hq : rows.getLast? = some q) (n2 : p0 ≠ q) : ∃ m, stkG T least (part T p0 q rows) = q :: (m ++ [p0]) ∧ ∀ x ∈ m, lt2 p0 x ∧ lt2 x q :=
  stk_endsG ax l0 l1 (part_srt so) (part_head ax h0) (part_last ax hq) n2
end
theorem pr_fwd {R : Pt → Pt → Prop} : ∀ {st : List Pt}, (∀ e ∈ Edg st, R e.1 e.2) → Pr R st
  | [], _ => True.intro
  | [_], _ => True.intro
  | x :: y :: l, h => ⟨h (x, y) List.mem_cons_self, pr_fwd fun e he => h e (List.mem_cons_of_mem _ he)⟩
theorem btw_comm {a p b : Pt} : Btw a p b ↔ Btw b p a := ⟨fun h => h.elim .inr .inl, fun h => h.elim .inr .inl⟩
section
variable {rows : List Pt} {p0 q : Pt}
theorem low_nxt (so : rows.Pairwise lt2) (h0 : rows.head? = some p0) (hq : rows.getLast? = some q) : ∀ e ∈ Edg (stkG tn 0 (part tn p0 q rows)), Nxt rows e.2 e.1 := fun e he => by
  obtain ⟨lt, ma, mb, all⟩ := part_edge ax_tn (by decide) (by decide) so h0 hq he
  exact ⟨⟨ma, mb, fun z => lt2_irr (z ▸ lt), fun p hp => (all p hp).1⟩, part_nxt ax_tn so h0 hq he⟩
theorem high_nxt (so : rows.Pairwise lt2) (h0 : rows.head? = some p0) (hq : rows.getLast? = some q) : ∀ e ∈ Edg (stkG tm 0 (part tm p0 q rows)), Nxt rows e.1 e.2 := fun e he => by
  obtain ⟨lt, ma, mb, all⟩ := part_edge ax_tm (by decide) (by decide) so h0 hq he
  have sw : ∀ p, tm e.2 e.1 p = tn e.1 e.2 p := fun p => by
    unfold tm
    rw [tn_swap e.1 e.2 p]
    omega
  refine ⟨⟨mb, ma, fun z => lt2_irr (z ▸ lt), fun p hp => by rw [← sw]; exact (all p hp).1⟩, fun p hp z b => part_nxt ax_tm so h0 hq he p hp (by rw [sw]; exact z) (btw_comm.mp b)⟩
theorem low_nxc (so : rows.Pairwise lt2) (h0 : rows.head? = some p0) (hq : rows.getLast? = some q) : ∀ e ∈ Edg (stkG tn 1 (part tn p0 q rows)), NxC rows e.2 e.1 := fun e he => by
  obtain ⟨lt, ma, mb, all⟩ := part_edge ax_tn (by decide) (by decide) so h0 hq he
  exact ⟨⟨ma, mb, fun z => lt2_irr (z ▸ lt), fun p hp => (all p hp).1⟩, part_nxc ax_tn so h0 hq he⟩
theorem high_nxc (so : rows.Pairwise lt2) (h0 : rows.head? = some p0) (hq : rows.getLast? = some q) : ∀ e ∈ Edg (stkG tm 1 (part tm p0 q rows)), NxC rows e.1 e.2 := fun e he => by
  obtain ⟨lt, ma, mb, all⟩ := part_edge ax_tm (by decide) (by decide) so h0 hq he
  have sw : ∀ p, tm e.2 e.1 p = tn e.1 e.2 p := fun p => by
    unfold tm
    rw [tn_swap e.1 e.2 p]
    omega
  refine ⟨⟨mb, ma, fun z => lt2_irr (z ▸ lt), fun p hp => by rw [← sw]; exact (all p hp).1⟩, fun p hp z => ?_⟩
  rcases part_nxc ax_tm so h0 hq he p hp (by rw [sw]; exact z) with e | e | b
  · exact .inr (.inl e)
  · exact .inl e
  · exact .inr (.inr (btw_comm.mp b))
/-- xs[-2:0:-1] -/
def innerR (xs : List Pt) : List Pt := (xs.drop 1).dropLast.reverse
theorem two_chains {R : Pt → Pt → Prop} {L Hh m m' : List Pt} (n2 : p0 ≠ q) (eL : L = q :: (m ++ [p0])) (eH : Hh = q :: (m' ++ [p0])) (hm : ∀ x ∈ m, lt2 p0 x ∧ lt2 x q) (hm' : ∀ x ∈ m', lt2 p0 x ∧ lt2 x q) (kL : ∀ e ∈ Edg L, R e.2 e.1) (kH : ∀ e ∈ Edg Hh, R e.1 e.2) :
    ∃ mid, L.reverse ++ innerR Hh.reverse = p0 :: mid ∧ p0 ∉ mid ∧ Pr R (p0 :: mid ++ [p0]) := by
  have k1 := pr_rev kL
  have k2 := pr_fwd kH
  rw [eL] at k1 ⊢
  rw [eH] at k2 ⊢
  have r1 : (q :: (m ++ [p0])).reverse = (p0 :: m.reverse) ++ [q] := by simp
  have r2 : innerR (q :: (m' ++ [p0])).reverse = m' := by
    unfold innerR
    rw [show (q :: (m' ++ [p0])).reverse = p0 :: (m'.reverse ++ [q]) by simp, List.drop_succ_cons, List.drop_zero, List.dropLast_concat, List.reverse_reverse]
  rw [r1] at k1 ⊢
  rw [r2]
  refine ⟨m.reverse ++ q :: m', by simp, fun z => ?_, ?_⟩
  · rcases List.mem_append.mp z with z | z
    · exact lt2_irr (hm p0 (List.mem_reverse.mp z)).1
    · rcases List.mem_cons.mp z with z | z
      · exact n2 z
      · exact lt2_irr (hm' p0 z).1
  · have := pr_app (l := p0 :: m.reverse) k1 k2
    simpa using this
/-- the border as it is told now -/
def bordN (p0 q : Pt) (rows : List Pt) : List Pt := (stkG tn 0 (part tn p0 q rows)).reverse ++ innerR (stkG tm 0 (part tm p0 q rows)).reverse
def cornN (p0 q : Pt) (rows : List Pt) : List Pt := (stkG tn 1 (part tn p0 q rows)).reverse ++ innerR (stkG tm 1 (part tm p0 q rows)).reverse
theorem ringN (so : rows.Pairwise lt2) (h0 : rows.head? = some p0) (hq : rows.getLast? = some q) (n2 : p0 ≠ q) : ∃ mid, bordN p0 q rows = p0 :: mid ∧ p0 ∉ mid ∧ Pr (Nxt rows) (p0 :: mid ++ [p0]) := by
  obtain ⟨m, e, hm⟩ := part_ends ax_tn (least := 0) (by decide) (by decide) so h0 hq n2
  obtain ⟨m', e', hm'⟩ := part_ends ax_tm (least := 0) (by decide) (by decide) so h0 hq n2
  exact two_chains n2 e e' hm hm' (low_nxt so h0 hq) (high_nxt so h0 hq)
theorem ringCN (so : rows.Pairwise lt2) (h0 : rows.head? = some p0) (hq : rows.getLast? = some q) (n2 : p0 ≠ q) : ∃ mid, cornN p0 q rows = p0 :: mid ∧ p0 ∉ mid ∧ Pr (NxC rows) (p0 :: mid ++ [p0]) := by
  obtain ⟨m, e, hm⟩ := part_ends ax_tn (least := 1) (by decide) (by decide) so h0 hq n2
  obtain ⟨m', e', hm'⟩ := part_ends ax_tm (least := 1) (by decide) (by decide) so h0 hq n2
  exact two_chains n2 e e' hm hm' (low_nxc so h0 hq) (high_nxc so h0 hq)
/-- as it was told before -/
theorem cornN_is (nr : NoRow rows) (so : rows.Pairwise lt2) (h0 : rows.head? = some p0) (hq : rows.getLast? = some q) (n2 : p0 ≠ q) : cornN p0 q rows = (stk 1 rows).reverse.dropLast ++ (stk 1 rows.reverse).reverse.dropLast := by
  obtain ⟨a, e1, e2, e3⟩ := ringCN so h0 hq n2
  obtain ⟨b, d1, d2, d3⟩ := ringC so h0 hq n2
  have := ring_det (R := NxC rows) (fun _ _ _ => nxc_uniq nr) a b p0 e3 d3 e2 d2
  rw [e1, d1, this]
end
/-! ### places against a hull -/
structure Plc where
  x : Int
  y : Int
  d : Int
/-- on which side of a line a place is, times d -/
def po (a b : Pt) (p : Plc) : Int := (b.1 - a.1) * (p.y - a.2 * p.d) - (b.2 - a.2) * (p.x - a.1 * p.d)
def dots (a b : Pt) (p : Plc) : Int := (p.x - a.1 * p.d) * (p.x - b.1 * p.d) + (p.y - a.2 * p.d) * (p.y - b.2 * p.d)
/-- a place in a triangle is on no other side than its corners -/
theorem po_tri {a b c : Pt} {p : Plc} {u v : Pt} (t : 0 < tn a b c) (h1 : 0 ≤ po a b p) (h2 : 0 ≤ po b c p) (h3 : 0 ≤ po c a p) (ka : 0 ≤ tn u v a) (kb : 0 ≤ tn u v b) (kc : 0 ≤ tn u v c) : 0 ≤ po u v p := by
  have e : po u v p * tn a b c = po b c p * tn u v a + po c a p * tn u v b + po a b p * tn u v c := by
    unfold po tn
    grind
  have := mul_nn h2 ka
  have := mul_nn h3 kb
  have := mul_nn h1 kc
  exact of_mul_nn (b := tn a b c) (by omega) t
/-- a place on a stretch is on no other side than its ends -/
theorem po_str {a b : Pt} {p : Plc} {u v : Pt} (hd : 0 < p.d) (ne : a ≠ b) (l : po a b p = 0) (h : dots a b p ≤ 0) (ka : 0 ≤ tn u v a) (kb : 0 ≤ tn u v b) : 0 ≤ po u v p := by
  have n0 : 0 < dot (vec a b) (vec a b) := (dir_self ne).d
  -- how far along, times the square
  generalize hs : (p.x - a.1 * p.d) * (b.1 - a.1) + (p.y - a.2 * p.d) * (b.2 - a.2) = s
  have e : po u v p * dot (vec a b) (vec a b) = (p.d * dot (vec a b) (vec a b) - s) * tn u v a + s * tn u v b + po a b p * ((v.1 - u.1) * (b.1 - a.1) + (v.2 - u.2) * (b.2 - a.2)) := by
    rw [← hs]
    unfold po tn dot vec
    grind
  have d : dots a b p * dot (vec a b) (vec a b) = s * (s - p.d * dot (vec a b) (vec a b)) + po a b p * po a b p := by
    rw [← hs]
    unfold dots po dot vec
    grind
  rw [l, Int.zero_mul, Int.add_zero] at d e
  have big : 0 < p.d * dot (vec a b) (vec a b) := Int.mul_pos hd n0
  have dn : s * (s - p.d * dot (vec a b) (vec a b)) ≤ 0 := by
    rw [← d]
    exact Int.mul_nonpos_of_nonpos_of_nonneg h (Int.le_of_lt n0)
  generalize p.d * dot (vec a b) (vec a b) = m at *
  have s0 : 0 ≤ s := by
    rcases ltge s 0 with z | z
    · have := Int.mul_pos_of_neg_of_neg z (show s - m < 0 by omega)
      omega
    · exact z
  have s1 : s ≤ m := by
    rcases ltge m s with z | z
    · have := Int.mul_pos (show 0 < s by omega) (show 0 < s - m by omega)
      omega
    · exact z
  have := mul_nn (show 0 ≤ m - s by omega) ka
  have := mul_nn s0 kb
  exact of_mul_nn (b := dot (vec a b) (vec a b)) (by omega) n0
/-- a fan's marks go from one sign to the other: a triangle -/
theorem fan_meets {f : Pt} {p : Plc} : ∀ (l : List Pt) (a z : Pt), (a :: l).getLast? = some z → 0 ≤ po f a p → po f z p ≤ 0 → l ≠ [] → ∃ b c, ∃ m n, a :: l = m ++ b :: c :: n ∧ 0 ≤ po f b p ∧ po f c p ≤ 0
  | [], _, _, _, _, _, h => absurd rfl h
  | [c], a, z, hz, h1, h2, _ => by
    obtain rfl : c = z := Option.some.inj hz
    exact ⟨a, c, [], [], rfl, h1, h2⟩
  | c :: e :: l, a, z, hz, h1, h2, _ => by
    rcases ltge 0 (po f c p) with q | q
    · obtain ⟨b', c', m, n, k1, k2, k3⟩ := fan_meets (f := f) (p := p) (e :: l) c z hz (Int.le_of_lt q) h2 (by simp)
      exact ⟨b', c', a :: m, n, by rw [k1]; rfl, k2, k3⟩
    · exact ⟨a, c, [], e :: l, rfl, h1, q⟩
theorem po_swap (a b : Pt) (p : Plc) : po b a p = -po a b p := by
  unfold po
  grind
/-- the double area of a fan's triangle, if the place is strictly within an edge of it -/
theorem fan_area {f b c : Pt} {p : Plc} (hd : 0 < p.d) (h1 : 0 ≤ po f b p) (h2 : 0 < po b c p) (h3 : 0 ≤ po c f p) : 0 < tn f b c := by
  have e : po f b p + po b c p + po c f p = p.d * tn f b c := by
    unfold po tn
    grind
  exact of_mul_pos (b := p.d) (by rw [Int.mul_comm]; omega) hd
/-! ### sides of a ring and of its corners tell the same of a place -/
def pvec (a : Pt) (p : Plc) : Pt := (p.x - a.1 * p.d, p.y - a.2 * p.d)
theorem po_crs (a b : Pt) (p : Plc) : po a b p = crs (vec a b) (pvec a p) := by
  unfold po crs vec pvec
  grind
/-- edges of one line, the same way -/
theorem po_dir {a b x y : Pt} (p : Plc) (d : Dir (vec a b) (vec x y)) (l : tn a b x = 0) : (0 < po a b p ↔ 0 < po x y p) ∧ (po a b p = 0 ↔ po x y p = 0) ∧ (0 ≤ po a b p ↔ 0 ≤ po x y p) := by
  have e : po x y p = crs (vec x y) (pvec a p) := by
    have z : crs (vec x y) (vec a x) = 0 := by
      have := (dir_crs (w := vec a x) d).2.1.mp (by rw [← (tn_crs a b x).1]; exact l)
      exact this
    have : po x y p = crs (vec x y) (pvec a p) - p.d * crs (vec x y) (vec a x) := by
      unfold po crs vec pvec
      grind
    rw [this, z, Int.mul_zero, Int.sub_zero]
  rw [po_crs a b p, e]
  exact dir_crs d
theorem tn_zero_self (a b : Pt) : tn a b a = 0 := (tn_end a b).1
/-- what is so of one side's line is so of all of it -/
structure Sgn (S : Pt → Pt → Prop) : Prop where
  tr : ∀ {a b x y : Pt}, Dir (vec a b) (vec x y) → tn a b x = 0 → (S a b ↔ S x y)
theorem sgn_pos (p : Plc) : Sgn fun a b => 0 < po a b p := ⟨fun d l => (po_dir p d l).1⟩
theorem sgn_nn (p : Plc) : Sgn fun a b => 0 ≤ po a b p := ⟨fun d l => (po_dir p d l).2.2⟩
theorem sgn_ne (p : Plc) : Sgn fun a b => po a b p ≠ 0 := ⟨fun d l => not_congr (po_dir p d l).2.1⟩
theorem onc_dir {rows : List Pt} (nr : NoRow rows) {a prev x y : Pt} (h : OnC rows a prev x) (k : Nxt rows x y) (t : tn prev x y = 0) : Dir (vec a x) (vec x y) ∧ Dir (vec a x) (vec a y) ∧ tn a x y = 0 := by
  have bt := nxt_btw nr h.n k t
  have d2 : Dir (vec a x) (vec x y) := h.d.trans (btw_dir t bt)
  have o := onc_on nr h k t
  refine ⟨d2, d2.trans o.d.symm, ?_⟩
  rw [(tn_crs a x y).2.1]
  exact d2.c
/-- of all sides of the ring, so of all between corners -/
theorem ring_cor {S : Pt → Pt → Prop} (hS : Sgn S) {rows : List Pt} (nr : NoRow rows) : ∀ (r : List Pt) (a prev x : Pt), OnC rows a prev x → Pr (Nxt rows) (x :: r) → S a x → Pr S (x :: r) → Pr S (a :: flt prev (x :: r))
  | [], _, _, _, _, _, _, _ => True.intro
  | y :: r, a, prev, x, h, k, s, sr => by
    rw [flt]
    by_cases t : tn prev x y = 0
    · rw [if_neg (fun z => z t)]
      obtain ⟨_, d, _⟩ := onc_dir nr h k.1 t
      exact ring_cor hS nr r a x y (onc_on nr h k.1 t) k.2 ((hS.tr d (tn_zero_self a x)).mp s) sr.2
    · rw [if_pos t]
      obtain ⟨_, h2⟩ := onc_turn h k.1 t
      exact ⟨s, ring_cor hS nr r x x y h2 k.2 sr.1 sr.2⟩
/-- and the other way about, up to the last corner -/
theorem cor_ring {S : Pt → Pt → Prop} (hS : Sgn S) {rows : List Pt} (nr : NoRow rows) {e f : Pt} : ∀ (r : List Pt) (a prev x : Pt), OnC rows a prev x → Pr (Nxt rows) (x :: (r ++ [e, f])) → (∀ last, (prev :: x :: r).getLast? = some last → tn last e f ≠ 0) → Pr S (a :: flt prev (x :: (r ++ [e, f]))) → S prev x ∧ Pr S (x :: (r ++ [e]))
  | [], a, prev, x, h, k, hl, s => by
    have k1 : Nxt rows x e := k.1
    have k2 : Nxt rows e f := k.2.1
    have te := hl x rfl
    have s : Pr S (a :: flt prev (x :: e :: [f])) := s
    have u1 : flt prev (x :: e :: [f]) = if tn prev x e ≠ 0 then x :: flt x [e, f] else flt x [e, f] := by rw [flt]
    have u2 : flt x [e, f] = e :: flt e [f] := by rw [flt, if_pos te]
    rw [u1, u2] at s
    by_cases t : tn prev x e = 0
    · rw [if_neg (fun z => z t)] at s
      obtain ⟨d1, d2, l⟩ := onc_dir nr h k1 t
      have s1 : S a e := s.1
      have l2 : tn a e x = 0 := by
        have : tn a e x = -tn a x e := by
          unfold tn
          grind
        omega
      refine ⟨?_, ?_, True.intro⟩
      · refine (hS.tr (d2.symm.trans h.d) ?_).mp s1
        -- prev lies on the line, too
        have d3 : Dir (vec a x) (vec prev x) := h.d
        have o := onc_on nr h k1 t
        have z : crs (vec a e) (vec prev x) = 0 := (d2.symm.trans h.d).c
        have z2 : crs (vec a e) (vec a x) = 0 := d2.symm.c
        rw [(tn_crs a e prev).1]
        have : crs (vec a e) (vec a prev) = crs (vec a e) (vec a x) - crs (vec a e) (vec prev x) := by
          unfold crs vec
          grind
        omega
      · exact (hS.tr (d2.symm.trans d1) l2).mp s1
    · rw [if_pos t] at s
      refine ⟨(hS.tr h.d ?_).mp s.1, s.2.1, True.intro⟩
      have z : crs (vec a x) (vec prev x) = 0 := h.d.c
      rw [(tn_crs a x prev).1]
      have : crs (vec a x) (vec a prev) = crs (vec a x) (vec a x) - crs (vec a x) (vec prev x) := by
        unfold crs vec
        grind
      have : crs (vec a x) (vec a x) = 0 := by
        unfold crs
        grind
      omega
  | y :: r, a, prev, x, h, k, hl, s => by
    have k1 : Nxt rows x y := k.1
    have s : Pr S (a :: flt prev (x :: y :: (r ++ [e, f]))) := s
    have u1 : flt prev (x :: y :: (r ++ [e, f])) = if tn prev x y ≠ 0 then x :: flt x (y :: (r ++ [e, f])) else flt x (y :: (r ++ [e, f])) := by rw [flt]
    rw [u1] at s
    have hl2 : ∀ last, (x :: y :: r).getLast? = some last → tn last e f ≠ 0 := fun last hx => hl last (by rw [← hx]; rfl)
    by_cases t : tn prev x y = 0
    · rw [if_neg (fun z => z t)] at s
      obtain ⟨i1, i2⟩ := cor_ring hS nr r a x y (onc_on nr h k1 t) k.2 hl2 s
      have bt := nxt_btw nr h.n k1 t
      refine ⟨(hS.tr (btw_dir t bt).symm ?_).mp i1, i1, i2⟩
      have : tn x y prev = tn prev x y := by
        unfold tn
        grind
      omega
    · rw [if_pos t] at s
      obtain ⟨_, h2⟩ := onc_turn h k1 t
      obtain ⟨i1, i2⟩ := cor_ring hS nr r x x y h2 k.2 hl2 s.2
      refine ⟨(hS.tr h.d ?_).mp s.1, i1, i2⟩
      have z : crs (vec a x) (vec prev x) = 0 := h.d.c
      rw [(tn_crs a x prev).1]
      have : crs (vec a x) (vec a prev) = crs (vec a x) (vec a x) - crs (vec a x) (vec prev x) := by
        unfold crs vec
        grind
      have : crs (vec a x) (vec a x) = 0 := by
        unfold crs
        grind
      omega
/-! ### a place on the border is on a side of the ring -/
theorem id_1 (v1 v2 a1 a2 d : Int) : (a1 * (a1 - v1 * d) + a2 * (a2 - v2 * d)) * (v1 * v1 + v2 * v2) = (v1 * a1 + v2 * a2) * (v1 * (a1 - v1 * d) + v2 * (a2 - v2 * d)) + (v1 * a2 - v2 * a1) * (v1 * a2 - v2 * a1) := by grind
theorem id_2 (u1 u2 v1 v2 a1 a2 : Int) : (u1 * a2 - u2 * a1) * (v1 * v1 + v2 * v2) = (v1 * a1 + v2 * a2) * (u1 * v2 - u2 * v1) + (v1 * a2 - v2 * a1) * (u1 * v1 + u2 * v2) := by grind
theorem po_at (w x : Pt) (p : Plc) : po w x p = crs (vec w x) (pvec x p) := by
  unfold po crs vec pvec
  grind
theorem pvec_on (x y : Pt) (p : Plc) : pvec y p = ((pvec x p).1 - (vec x y).1 * p.d, (pvec x p).2 - (vec x y).2 * p.d) := by
  unfold pvec vec
  refine Prod.ext ?_ ?_ <;> simp only <;> grind
theorem end_ab {x y : Pt} {p : Plc} (ne : x ≠ y) (z : po x y p = 0) (h : 0 ≤ dot (vec x y) (pvec x p)) : dots x y p ≤ 0 ∨ 0 < dot (vec x y) (pvec y p) := by
  have n0 : 0 < dot (vec x y) (vec x y) := (dir_self ne).d
  have d : dots x y p * dot (vec x y) (vec x y) = dot (vec x y) (pvec x p) * dot (vec x y) (pvec y p) + po x y p * po x y p := by
    have e1 : dots x y p = dot (pvec x p) (pvec y p) := rfl
    rw [e1, po_crs, pvec_on x y p]
    exact id_1 _ _ _ _ _
  rw [z, Int.zero_mul, Int.add_zero] at d
  rcases ltge 0 (dot (vec x y) (pvec y p)) with q | q
  · exact .inr q
  · left
    have k : dots x y p * dot (vec x y) (vec x y) ≤ 0 := by
      rw [d]
      exact Int.mul_nonpos_of_nonneg_of_nonpos h q
    rcases ltge 0 (dots x y p) with w | w
    · have := Int.mul_pos w n0
      omega
    · exact w
theorem step_a {rows : List Pt} (nr : NoRow rows) {w x y : Pt} {p : Plc} (h : Nxt rows w x) (k : Nxt rows x y) (nn : 0 ≤ po w x p) (st : 0 < po w x p ∨ tn w x y ≠ 0) (z : po x y p = 0) : 0 ≤ dot (vec x y) (pvec x p) := by
  have n0 : 0 < dot (vec x y) (vec x y) := (dir_self k.1.2.2.1).d
  have ge := h.1.2.2.2 y k.1.2.1
  have e : po w x p * dot (vec x y) (vec x y) = dot (vec x y) (pvec x p) * tn w x y + po x y p * dot (vec w x) (vec x y) := by
    rw [po_at w x, po_crs x y, (tn_crs w x y).2.1]
    exact id_2 _ _ _ _ _ _
  rw [z, Int.zero_mul, Int.add_zero] at e
  by_cases t : tn w x y = 0
  · exfalso
    have l : 0 < po w x p := by
      rcases st with s | s
      · exact s
      · exact absurd t s
    rw [t, Int.mul_zero] at e
    have := Int.mul_pos l n0
    omega
  · have := mul_nn nn (Int.le_of_lt n0)
    exact of_mul_nn (b := tn w x y) (by omega) (by omega)
theorem step_b {rows : List Pt} (nr : NoRow rows) {w x y : Pt} {p : Plc} (h : Nxt rows w x) (k : Nxt rows x y) (z : po w x p = 0) (u : 0 < dot (vec w x) (pvec x p)) (nn : 0 ≤ po x y p) : tn w x y = 0 ∧ po x y p = 0 ∧ 0 < dot (vec x y) (pvec x p) := by
  have n0 : 0 < dot (vec w x) (vec w x) := (dir_self h.1.2.2.1).d
  have ge := h.1.2.2.2 y k.1.2.1
  have e : po x y p * dot (vec w x) (vec w x) = -(dot (vec w x) (pvec x p) * tn w x y) + po w x p * dot (vec x y) (vec w x) := by
    rw [po_at w x, po_crs x y, (tn_crs w x y).2.1, crs_neg (vec w x) (vec x y), Int.mul_neg, Int.neg_neg]
    exact id_2 _ _ _ _ _ _
  rw [z, Int.zero_mul, Int.add_zero] at e
  have t : tn w x y = 0 := by
    rcases Int.lt_or_eq_of_le ge with q | q
    · have := Int.mul_pos u q
      have := mul_nn nn (Int.le_of_lt n0)
      omega
    · exact q.symm
  rw [t, Int.mul_zero] at e
  have z2 : po x y p = 0 := by
    have e : po x y p * dot (vec w x) (vec w x) = 0 := by omega
    rcases Int.mul_eq_zero.mp e with q | q
    · exact q
    · omega
  refine ⟨t, z2, ?_⟩
  have d1 : Dir (vec w x) (vec x y) := btw_dir t (nxt_btw nr h k t)
  have d2 : Dir (vec w x) (pvec x p) := ⟨by
    have : crs (vec w x) (pvec x p) = po w x p := by
      unfold po crs vec pvec
      grind
    rw [this, z], u⟩
  exact (d1.symm.trans d2).d
theorem on_b {rows : List Pt} (nr : NoRow rows) {p : Plc} {e f : Pt} : ∀ (r : List Pt) (w x : Pt), Nxt rows w x → Pr (Nxt rows) (x :: (r ++ [e, f])) → (∀ last, (x :: r).getLast? = some last → tn last e f ≠ 0) → Pr (fun a b => 0 ≤ po a b p) (x :: (r ++ [e, f])) → po w x p = 0 → 0 < dot (vec w x) (pvec x p) →
    ∃ m a b n, x :: (r ++ [e]) = m ++ a :: b :: n ∧ po a b p = 0 ∧ dots a b p ≤ 0
  | [], w, x, h, k, hl, g, z, u => by
    have k1 : Nxt rows x e := k.1
    obtain ⟨t, z2, u2⟩ := step_b nr h k1 z u g.1
    rcases end_ab k1.1.2.2.1 z2 (Int.le_of_lt u2) with q | q
    · exact ⟨[], x, e, [], rfl, z2, q⟩
    · have := step_b nr k1 k.2.1 z2 q g.2.1
      exact absurd this.1 (hl x rfl)
  | y :: r, w, x, h, k, hl, g, z, u => by
    have k1 : Nxt rows x y := k.1
    obtain ⟨t, z2, u2⟩ := step_b nr h k1 z u g.1
    rcases end_ab k1.1.2.2.1 z2 (Int.le_of_lt u2) with q | q
    · exact ⟨[], x, y, r ++ [e], rfl, z2, q⟩
    · obtain ⟨m, a, b, n, i, j⟩ := on_b nr r x y k1 k.2 (fun last hx => hl last (by rw [← hx]; rfl)) g.2 z2 q
      exact ⟨x :: m, a, b, n, by rw [List.cons_append, i]; rfl, j⟩
theorem on_a {rows : List Pt} (nr : NoRow rows) {p : Plc} {e f : Pt} : ∀ (r : List Pt) (w x : Pt), Nxt rows w x → Pr (Nxt rows) (x :: (r ++ [e, f])) → (∀ last, (x :: r).getLast? = some last → tn last e f ≠ 0) → 0 ≤ po w x p → Pr (fun a b => 0 ≤ po a b p) (x :: (r ++ [e, f])) → (∀ y, (r ++ [e]).head? = some y → 0 < po w x p ∨ tn w x y ≠ 0) → ¬ Pr (fun a b => po a b p ≠ 0) (x :: (r ++ [e])) →
    ∃ m a b n, x :: (r ++ [e]) = m ++ a :: b :: n ∧ po a b p = 0 ∧ dots a b p ≤ 0
  | [], w, x, h, k, hl, nn, g, st, ex => by
    have k1 : Nxt rows x e := k.1
    by_cases z : po x e p = 0
    · rcases end_ab k1.1.2.2.1 z (step_a nr h k1 nn (st e rfl) z) with q | q
      · exact ⟨[], x, e, [], rfl, z, q⟩
      · have := step_b nr k1 k.2.1 z q g.2.1
        exact absurd this.1 (hl x rfl)
    · exact absurd ⟨z, True.intro⟩ ex
  | y :: r, w, x, h, k, hl, nn, g, st, ex => by
    have k1 : Nxt rows x y := k.1
    have hl2 : ∀ last, (y :: r).getLast? = some last → tn last e f ≠ 0 := fun last hx => hl last (by rw [← hx]; rfl)
    by_cases z : po x y p = 0
    · rcases end_ab k1.1.2.2.1 z (step_a nr h k1 nn (st y rfl) z) with q | q
      · exact ⟨[], x, y, r ++ [e], rfl, z, q⟩
      · obtain ⟨m, a, b, n, i, j⟩ := on_b nr r x y k1 k.2 hl2 g.2 z q
        exact ⟨x :: m, a, b, n, by rw [List.cons_append, i]; rfl, j⟩
    · have pos : 0 < po x y p := by
        have : 0 ≤ po x y p := g.1
        omega
      obtain ⟨m, a, b, n, i, j⟩ := on_a nr r x y k1 k.2 hl2 (Int.le_of_lt pos) g.2 (fun _ _ => .inl pos) fun q => ex ⟨z, q⟩
      exact ⟨x :: m, a, b, n, by rw [List.cons_append, i]; rfl, j⟩
/-! ### inside, on the border, outside -/
/-- a ring: its corners, its last one, and what is known of it -/
structure Rng (rows : List Pt) (p0 last p1 : Pt) (m1 : List Pt) : Prop where
  nr : NoRow rows
  oc : OnC rows p0 p0 p1
  long : Pr (Nxt rows) (p1 :: (m1 ++ [p0, p1]))
  hl : (p0 :: p1 :: m1).getLast? = some last
  turn : tn last p0 p1 ≠ 0
section
variable {rows m1 : List Pt} {p0 last p1 : Pt}
theorem Rng.hl2 (g : Rng rows p0 last p1 m1) : ∀ x, (p0 :: p1 :: m1).getLast? = some x → tn x p0 p1 ≠ 0 := fun x hx => by
  rw [g.hl] at hx
  rw [← Option.some.inj hx]
  exact g.turn
theorem pr_cut {R : Pt → Pt → Prop} {e f : Pt} : ∀ (l : List Pt), Pr R (l ++ [e, f]) → Pr R (l ++ [e])
  | [], _ => True.intro
  | [a], h => ⟨h.1, True.intro⟩
  | a :: b :: l, h => ⟨h.1, pr_cut (b :: l) h.2⟩
theorem Rng.ring (g : Rng rows p0 last p1 m1) : Pr (Nxt rows) (p0 :: p1 :: (m1 ++ [p0])) := ⟨g.oc.n, pr_cut (p1 :: m1) g.long⟩
theorem Rng.iff (g : Rng rows p0 last p1 m1) {S : Pt → Pt → Prop} (hS : Sgn S) : Pr S (p0 :: (flt p0 (p1 :: (m1 ++ [p0])) ++ [p0])) ↔ Pr S (p0 :: p1 :: (m1 ++ [p0])) := by
  have fl := flt_last (e := p0) (f := p1) (p1 :: m1) p0 g.hl2
  have fl : flt p0 (p1 :: (m1 ++ [p0, p1])) = flt p0 (p1 :: (m1 ++ [p0])) ++ [p0] := fl
  rw [← fl]
  constructor
  · intro s
    exact cor_ring hS g.nr m1 p0 p0 p1 g.oc g.long g.hl2 s
  · intro s
    exact ring_cor hS g.nr (m1 ++ [p0, p1]) p0 p0 p1 g.oc g.long s.1 (pr_app (l := p1 :: m1) s.2 ⟨s.1, True.intro⟩)
theorem pr_get {R : Pt → Pt → Prop} {a b : Pt} {n : List Pt} : ∀ (m : List Pt), Pr R (m ++ a :: b :: n) → R a b
  | [], h => h.1
  | [_], h => h.2.1
  | _ :: y :: m, h => pr_get (y :: m) h.2
theorem pr_not {R : Pt → Pt → Prop} : ∀ (l : List Pt), ¬ Pr R l → ∃ m a b n, l = m ++ a :: b :: n ∧ ¬ R a b
  | [], h => absurd True.intro h
  | [_], h => absurd True.intro h
  | a :: b :: l, h => by
    by_cases z : R a b
    · obtain ⟨m, x, y, n, e, k⟩ := pr_not (b :: l) fun q => h ⟨z, q⟩
      exact ⟨a :: m, x, y, n, by rw [e]; rfl, k⟩
    · exact ⟨[], a, b, l, rfl, z⟩
/-- strictly within: on no side, in a triangle of the fan -/
theorem Rng.inside (g : Rng rows p0 last p1 m1) {p : Plc} (hd : 0 < p.d) (s : Pr (fun a b => 0 < po a b p) (p0 :: p1 :: (m1 ++ [p0]))) :
    ∃ m b c n, p1 :: m1 = m ++ b :: c :: n ∧ 0 ≤ po p0 b p ∧ 0 ≤ po b c p ∧ 0 ≤ po c p0 p ∧ 0 < tn p0 b c := by
  have lz : (p1 :: m1).getLast? = some last := g.hl
  have s2 : Pr (fun a b => 0 < po a b p) ((p1 :: m1) ++ [p0]) := s.2
  have zl := pr_end (p1 :: m1) lz s2
  have z2 : po p0 last p ≤ 0 := by
    rw [po_swap last p0] 
    omega
  have ne : m1 ≠ [] := fun z => by
    subst z
    have h1 : 0 < po p0 p1 p := s.1
    have h2 : 0 < po p1 p0 p := s.2.1
    rw [po_swap p0 p1] at h2
    omega
  obtain ⟨b, c, m, n, e, k1, k2⟩ := fan_meets (f := p0) (p := p) m1 p1 last lz (Int.le_of_lt s.1) z2 ne
  have bc : 0 < po b c p := by
    have q : Pr (fun a b => 0 < po a b p) (m ++ b :: c :: (n ++ [p0])) := by
      have : m ++ b :: c :: (n ++ [p0]) = (p1 :: m1) ++ [p0] := by
        rw [e]
        simp
      rw [this]
      exact s2
    exact pr_get m q
  have k3 : 0 ≤ po c p0 p := by
    rw [po_swap p0 c]
    omega
  exact ⟨m, b, c, n, e, k1, Int.le_of_lt bc, k3, fan_area hd k1 bc k3⟩
/-- on the border: on a side -/
theorem Rng.border (g : Rng rows p0 last p1 m1) {p : Plc} (s : Pr (fun a b => 0 ≤ po a b p) (p0 :: p1 :: (m1 ++ [p0]))) (z : ¬ Pr (fun a b => po a b p ≠ 0) (p0 :: p1 :: (m1 ++ [p0]))) :
    ∃ m a b n, p0 :: p1 :: (m1 ++ [p0]) = m ++ a :: b :: n ∧ po a b p = 0 ∧ dots a b p ≤ 0 := by
  have kl := pr_end (p0 :: p1 :: m1) g.hl g.ring
  have sl := pr_end (p0 :: p1 :: m1) g.hl s
  exact on_a g.nr (p1 :: m1) last p0 kl ⟨g.oc.n, g.long⟩ g.hl2 sl (pr_app (l := p0 :: p1 :: m1) s ⟨s.1, True.intro⟩) (fun y hy => by
    obtain rfl : p1 = y := Option.some.inj hy
    exact .inr g.turn) z
/-- outside: on no stretch between sites, in no triangle of sites -/
theorem Rng.outside (g : Rng rows p0 last p1 m1) {p : Plc} (hd : 0 < p.d) (s : ¬ Pr (fun a b => 0 ≤ po a b p) (p0 :: p1 :: (m1 ++ [p0]))) :
    (∀ a b, a ∈ rows → b ∈ rows → a ≠ b → po a b p = 0 → ¬ dots a b p ≤ 0) ∧ ∀ a b c, a ∈ rows → b ∈ rows → c ∈ rows → 0 < tn a b c → 0 ≤ po a b p → 0 ≤ po b c p → 0 ≤ po c a p → False := by
  obtain ⟨m, u, v, n, e, k⟩ := pr_not _ s
  have r := g.ring
  rw [e] at r
  have sup := (pr_get m r).1
  exact ⟨fun a b ha hb ne z d => k (po_str hd ne z d (sup.2.2.2 a ha) (sup.2.2.2 b hb)), fun a b c ha hb hc t h1 h2 h3 => k (po_tri t h1 h2 h3 (sup.2.2.2 a ha) (sup.2.2.2 b hb) (sup.2.2.2 c hc))⟩
end
/-! ### sites in a row -/
theorem row_stk {rows : List Pt} {p0 q : Pt} (so : rows.Pairwise lt2) (h0 : rows.head? = some p0) (hq : rows.getLast? = some q) (n2 : p0 ≠ q) (row : ∀ a ∈ rows, ∀ b ∈ rows, ∀ c ∈ rows, tn a b c = 0) : stk 1 rows = [q, p0] := by
  obtain ⟨m, e, hm⟩ := stk_ends (by decide) (by decide) (least := 1) so h0 hq n2
  cases rows with
  | nil => cases h0
  | cons r0 rows =>
    have c := chn_all (least := 1) (by decide) (by decide) rows r0 so
    rw [← stk_cons, e] at c
    rw [e]
    cases m with
    | nil => rfl
    | cons x m =>
      exfalso
      obtain ⟨y, l, ey⟩ : ∃ y l, m ++ [p0] = y :: l := by
        cases m with
        | nil => exact ⟨p0, [], rfl⟩
        | cons y m => exact ⟨y, m ++ [p0], rfl⟩
      have cv := c.cvx
      have sub := c.sub
      rw [List.cons_append, ey] at cv sub
      have t := row y (sub y (by simp)) x (sub x (by simp)) q (sub q (by simp))
      have k : 1 ≤ tn y x q := cv.1
      omega
/-- the corners of a row: its ends -/
theorem row_corners {rows : List Pt} {p0 q : Pt} (so : rows.Pairwise lt2) (h0 : rows.head? = some p0) (hq : rows.getLast? = some q) (n2 : p0 ≠ q) (row : ∀ a ∈ rows, ∀ b ∈ rows, ∀ c ∈ rows, tn a b c = 0) :
    (stk 1 rows).reverse.dropLast ++ (stk 1 rows.reverse).reverse.dropLast = [p0, q] := by
  rw [row_stk so h0 hq n2 row]
  have so' := rev_srt so
  have r2 := row_stk so' (p0 := ng q) (q := ng p0) (by rw [List.head?_map, List.head?_reverse, hq]; rfl) (by rw [List.getLast?_map, List.getLast?_reverse, h0]; rfl) (fun z => n2 (by rw [← ng_ng p0, ← ng_ng q, z])) (fun a ha b hb c hc => by
    obtain ⟨a', ha', rfl⟩ := List.mem_map.mp ha
    obtain ⟨b', hb', rfl⟩ := List.mem_map.mp hb
    obtain ⟨c', hc', rfl⟩ := List.mem_map.mp hc
    rw [tn_ng]
    exact row _ (List.mem_reverse.mp ha') _ (List.mem_reverse.mp hb') _ (List.mem_reverse.mp hc'))
  have e2 : stk 1 rows.reverse = [p0, q] := by
    have := congrArg (List.map ng) r2
    rw [← stk_ng, List.map_map, show (ng ∘ ng) = id from funext ng_ng, List.map_id, List.map_cons, List.map_cons, List.map_nil, ng_ng, ng_ng] at this
    exact this
  rw [e2]
  rfl
/-- all on the line of two of them: all in a row -/
theorem row_of {rows : List Pt} {p0 q : Pt} (n2 : p0 ≠ q) (h : ∀ p ∈ rows, tn p0 q p = 0) : ∀ a ∈ rows, ∀ b ∈ rows, ∀ c ∈ rows, tn a b c = 0 := by
  intro a ha b hb c hc
  have e1 := h a ha
  have e2 := h b hb
  have e3 := h c hc
  have key : tn a b c * (q.1 - p0.1) = 0 ∧ tn a b c * (q.2 - p0.2) = 0 := by
    unfold tn at *
    constructor <;> grind
  by_cases z : tn a b c = 0
  · exact z
  · exfalso
    have k1 : q.1 - p0.1 = 0 := by
      rcases Int.mul_eq_zero.mp key.1 with y | y
      · exact absurd y z
      · exact y
    have k2 : q.2 - p0.2 = 0 := by
      rcases Int.mul_eq_zero.mp key.2 with y | y
      · exact absurd y z
      · exact y
    exact n2 (Prod.ext (by omega) (by omega))
/-- a stretch's place is on one of the stretches that it is cut into, or on none -/
theorem str_sub {a b u v : Pt} {p : Plc} (hd : 0 < p.d) (nuv : u ≠ v) (nab : a ≠ b) (hu : tn a b u = 0) (hv : tn a b v = 0) (su : dots a b ⟨u.1, u.2, 1⟩ ≤ 0) (sv : dots a b ⟨v.1, v.2, 1⟩ ≤ 0) (z : po u v p = 0) (d : dots u v p ≤ 0) : po a b p = 0 := by
  have e : po a b p * dot (vec u v) (vec u v) = p.d * tn a b u * dot (vec u v) (vec u v) + ((p.x - u.1 * p.d) * (v.1 - u.1) + (p.y - u.2 * p.d) * (v.2 - u.2)) * (tn a b v - tn a b u) + po u v p * dot (vec a b) (vec u v) := by
    unfold po tn dot vec
    grind
  rw [hu, hv, z, Int.mul_zero, Int.zero_mul, Int.sub_self, Int.mul_zero, Int.zero_mul, Int.add_zero, Int.add_zero] at e
  rcases Int.mul_eq_zero.mp e with y | y
  · exact y
  · have := (dir_self nuv).d
    omega
/-! ### sites in a row, by the program's chains -/
/-- all in a row -/
def Row (rows : List Pt) : Prop := ∀ a ∈ rows, ∀ b ∈ rows, ∀ c ∈ rows, tn a b c = 0
theorem one_of {rows : List Pt} {p0 : Pt} (so : rows.Pairwise lt2) (h0 : rows.head? = some p0) (hq : rows.getLast? = some p0) : rows = [p0] := by
  cases rows with
  | nil => cases h0
  | cons r rows =>
    cases h0
    cases rows with
    | nil => rfl
    | cons s rows =>
      exfalso
      have m : p0 ∈ s :: rows := by
        rw [List.getLast?_cons_cons] at hq
        exact List.mem_of_getLast? hq
      have := (List.pairwise_cons.mp so).1 _ m
      unfold lt2 at this
      omega
theorem row_iff {rows : List Pt} {p0 q : Pt} (so : rows.Pairwise lt2) (h0 : rows.head? = some p0) (hq : rows.getLast? = some q) : Row rows ↔ ∀ p ∈ rows, tn p0 q p = 0 := by
  constructor
  · exact fun h p hp => h _ (List.mem_of_head? h0) _ (List.mem_of_getLast? hq) _ hp
  · intro h
    by_cases n2 : p0 = q
    · subst n2
      rw [one_of so h0 hq]
      intro a ha b hb c hc
      rw [List.mem_singleton.mp ha, List.mem_singleton.mp hb, List.mem_singleton.mp hc]
      exact tn_zero_self _ _
    · exact row_of n2 h
theorem tm_zero {a b c : Pt} (h : tn a b c = 0) : tm a b c = 0 := by unfold tm; omega
theorem part_all {T : Sgt} {p0 q : Pt} {rows : List Pt} (h : ∀ p ∈ rows, T p0 q p ≤ 0) : part T p0 q rows = rows := List.filter_eq_self.mpr fun p hp => decide_eq_true (h p hp)
theorem row_stkG {T : Sgt} (ax : Ax T) {rows : List Pt} {p0 q : Pt} (so : rows.Pairwise lt2) (h0 : rows.head? = some p0) (hq : rows.getLast? = some q) (n2 : p0 ≠ q) (row : ∀ a ∈ rows, ∀ b ∈ rows, ∀ c ∈ rows, T a b c = 0) : stkG T 1 rows = [q, p0] := by
  obtain ⟨m, e, hm⟩ := stk_endsG ax (by decide) (by decide) (least := 1) so h0 hq n2
  cases rows with
  | nil => cases h0
  | cons r0 rows =>
    have c := chn_allG ax (least := 1) (by decide) (by decide) rows r0 so
    rw [← stk_consG, e] at c
    rw [e]
    cases m with
    | nil => rfl
    | cons x m =>
      exfalso
      obtain ⟨y, l, ey⟩ : ∃ y l, m ++ [p0] = y :: l := by
        cases m with
        | nil => exact ⟨p0, [], rfl⟩
        | cons y m => exact ⟨y, m ++ [p0], rfl⟩
      have cv := c.cvx
      have sub := c.sub
      rw [List.cons_append, ey] at cv sub
      have t := row y (sub y (by simp)) x (sub x (by simp)) q (sub q (by simp))
      have k : 1 ≤ T y x q := cv.1
      omega
theorem row_cornN {rows : List Pt} {p0 q : Pt} (so : rows.Pairwise lt2) (h0 : rows.head? = some p0) (hq : rows.getLast? = some q) (n2 : p0 ≠ q) (row : Row rows) : cornN p0 q rows = [p0, q] := by
  have z := (row_iff so h0 hq).mp row
  unfold cornN
  rw [part_all (T := tn) fun p hp => Int.le_of_eq (z p hp), part_all (T := tm) fun p hp => Int.le_of_eq (tm_zero (z p hp)), row_stkG ax_tn so h0 hq n2 row, row_stkG ax_tm so h0 hq n2 fun a ha b hb c hc => tm_zero (row a ha b hb c hc)]
  rfl
theorem one_cornN (p : Pt) : cornN p p [p] = [p] := by
  have z : ∀ T : Sgt, T p p p ≤ 0 → part T p p [p] = [p] := fun T h => part_all fun x hx => by rw [List.mem_singleton.mp hx]; exact h
  unfold cornN
  rw [z tn (Int.le_of_eq (tn_zero_self _ _)), z tm (Int.le_of_eq (tm_zero (tn_zero_self _ _)))]
  rfl
/-- the border of ascending sites -/
def Brd (p0 q : Pt) (rows : List Pt) (b : List Pt) : Prop := (Row rows → b = rows) ∧ (¬ Row rows → b = bordN p0 q rows)
/-! ### the law's own walk along the border -/
theorem pr_at {R : Pt → Pt → Prop} : ∀ {l : List Pt} {i : Nat} {a b : Pt}, Pr R l → l[i]? = some a → l[i + 1]? = some b → R a b
  | [], _, _, _, _, h, _ => by cases h
  | [_], _, _, _, _, _, k => by cases k
  | x :: y :: l, 0, a, b, p, h, k => by
    cases h
    cases k
    exact p.1
  | x :: y :: l, i + 1, a, b, p, h, k => pr_at (l := y :: l) p.2 h k
theorem pr_mem {rows : List Pt} : ∀ {l : List Pt} {a : Pt}, Pr (Nxt rows) (a :: l) → l ≠ [] → a ∈ rows
  | [], _, _, h => absurd rfl h
  | b :: l, a, p, _ => p.1.1.1
theorem pr_sub {rows : List Pt} {e : Pt} : ∀ {l : List Pt}, Pr (Nxt rows) (l ++ [e]) → ∀ x ∈ l, x ∈ rows
  | [], _, x, h => by cases h
  | a :: l, p, x, h => by
    rcases List.mem_cons.mp h with rfl | h
    · exact pr_mem (l := l ++ [e]) p (by simp)
    · cases l with
      | nil => cases h
      | cons b l => exact pr_sub (l := b :: l) p.2 x h
theorem nodup_le {l m : List Pt} (n : l.Nodup) (h : ∀ x ∈ l, x ∈ m) : l.length ≤ m.length := by
  induction l generalizing m with
  | nil => exact Nat.zero_le _
  | cons a l ih =>
    obtain ⟨n1, n2⟩ := List.nodup_cons.mp n
    have ha := h a List.mem_cons_self
    have k := ih (m := m.erase a) n2 fun x hx => (List.mem_erase_of_ne fun e => n1 (by rw [← e]; exact hx)).mpr (h x (List.mem_cons_of_mem _ hx))
    have e := List.length_erase_of_mem ha
    have p := List.length_pos_of_mem ha
    rw [List.length_cons]
    omega
/-- the border as a ring from its first one -/
structure RingB (rows : List Pt) (p0 : Pt) (mid : List Pt) : Prop where
  nr : NoRow rows
  n0 : p0 ∉ mid
  pr : Pr (Nxt rows) (p0 :: (mid ++ [p0]))
theorem RingB.few {rows : List Pt} {p0 : Pt} {mid : List Pt} (r : RingB rows p0 mid) : mid.length + 1 ≤ rows.length :=
  nodup_le (l := p0 :: mid) (ring_nodup (R := Nxt rows) (fun _ _ _ => nxt_uniq r.nr) mid p0 r.pr r.n0) (pr_sub (l := p0 :: mid) r.pr)
theorem RingB.step {rows : List Pt} {p0 : Pt} {mid : List Pt} (r : RingB rows p0 mid) {i : Nat} (hi : i ≤ mid.length) : ∃ h x, (p0 :: mid)[i]? = some h ∧ Nxt rows h x ∧ (x = p0 → i = mid.length) ∧ (x ≠ p0 → i < mid.length ∧ (p0 :: mid)[i + 1]? = some x) := by
  have l1 : i < (p0 :: mid).length := by rw [List.length_cons]; omega
  have l2 : i + 1 < (p0 :: (mid ++ [p0])).length := by simp; omega
  have e1 : (p0 :: (mid ++ [p0]))[i]? = some ((p0 :: mid)[i]'l1) := by
    rw [← List.cons_append, List.getElem?_append_left l1, List.getElem?_eq_getElem l1]
  refine ⟨(p0 :: mid)[i]'l1, (p0 :: (mid ++ [p0]))[i + 1]'l2, List.getElem?_eq_getElem l1, pr_at r.pr e1 (List.getElem?_eq_getElem l2), fun e => ?_, fun e => ?_⟩
  · by_cases c : i < mid.length
    · exfalso
      apply r.n0
      rw [← e]
      have : (p0 :: (mid ++ [p0]))[i + 1]'l2 = mid[i] := by
        simp only [List.getElem_cons_succ]
        rw [List.getElem_append_left c]
      rw [this]
      exact List.getElem_mem c
    · omega
  · have c : i < mid.length := by
      rcases Nat.lt_or_ge i mid.length with c | c
      · exact c
      · exfalso
        apply e
        have ei : i = mid.length := by omega
        subst ei
        simp
    refine ⟨c, ?_⟩
    have l3 : i + 1 < (p0 :: mid).length := by rw [List.length_cons]; omega
    rw [List.getElem?_eq_getElem l3]
    congr 1
    simp only [List.getElem_cons_succ]
    rw [List.getElem_append_left c]
theorem ringB_of {rows : List Pt} {p0 q : Pt} (so : rows.Pairwise lt2) (h0 : rows.head? = some p0) (hq : rows.getLast? = some q) (nr : ¬ Row rows) : ∃ mid, bordN p0 q rows = p0 :: mid ∧ RingB rows p0 mid := by
  have n2 : p0 ≠ q := by
    rintro rfl
    refine nr ((row_iff so h0 hq).mpr fun p hp => ?_)
    unfold tn
    simp
  obtain ⟨mid, e, n0, pr⟩ := ringN so h0 hq n2
  refine ⟨mid, e, noRow_of (List.mem_of_head? h0) (List.mem_of_getLast? hq) n2 ?_, n0, pr⟩
  refine Classical.byContradiction fun z => nr ((row_iff so h0 hq).mpr fun p hp => Classical.byContradiction fun y => z ⟨p, hp, y⟩)
/-! ### the ring and its corners, by the program's chains -/
theorem ring_rng {rows : List Pt} {p0 q : Pt} (so : rows.Pairwise lt2) (h0 : rows.head? = some p0) (hq : rows.getLast? = some q) (nr : ¬ Row rows) :
    ∃ p1 m1 last, bordN p0 q rows = p0 :: p1 :: m1 ∧ RingB rows p0 (p1 :: m1) ∧ Rng rows p0 last p1 m1 ∧ flt last (p0 :: (p1 :: m1) ++ [p0]) = cornN p0 q rows := by
  have n2 : p0 ≠ q := by
    rintro rfl
    refine nr ((row_iff so h0 hq).mpr fun p hp => ?_)
    unfold tn
    simp
  obtain ⟨mid, e, r⟩ := ringB_of so h0 hq nr
  obtain ⟨last, hl⟩ : ∃ last, (p0 :: mid).getLast? = some last := ⟨_, List.getLast?_eq_some_getLast (by simp)⟩
  obtain ⟨ec, p1, m1, rfl, oc, lg, tl⟩ := corners_is r.nr so h0 hq n2 r.n0 r.pr hl
  exact ⟨p1, m1, last, e, r, ⟨r.nr, oc, lg, hl, tl⟩, ec.trans (cornN_is r.nr so h0 hq n2).symm⟩
theorem Rng.notRow {rows m1 : List Pt} {p0 last p1 : Pt} (g : Rng rows p0 last p1 m1) : ¬ Row (p0 :: p1 :: m1) := fun z =>
  g.turn (z last (List.mem_of_getLast? g.hl) p0 (by simp) p1 (by simp))
theorem flt_one (a b : Pt) : flt a [b] = [] := rfl
theorem flt_two (a x y : Pt) (r : List Pt) : flt a (x :: y :: r) = (if tn a x y ≠ 0 then [x] else []) ++ flt x (y :: r) := by
  rw [flt]
  split <;> rfl
/-! ### where: the law's answer and the program's -/
theorem no_two {m n l : List Pt} {a b : Pt} (e : l = m ++ a :: b :: n) : 2 ≤ l.length := by
  rw [e]
  simp
  omega
theorem zip_next : ∀ {l : List Pt} {a b : Pt}, (a, b) ∈ l.zip (l.drop 1) ↔ ∃ m n, l = m ++ a :: b :: n
  | [], a, b => ⟨fun h => (nomatch h), fun ⟨m, n, e⟩ => absurd (no_two e) (by simp)⟩
  | [x], a, b => ⟨fun h => (nomatch h), fun ⟨m, n, e⟩ => absurd (no_two e) (by simp)⟩
  | x :: y :: l, a, b => by
    have ih := zip_next (l := y :: l) (a := a) (b := b)
    show (a, b) ∈ (x, y) :: (y :: l).zip l ↔ _
    rw [List.mem_cons]
    constructor
    · rintro (h | h)
      · cases h
        exact ⟨[], l, rfl⟩
      · obtain ⟨m, n, e⟩ := ih.mp h
        exact ⟨x :: m, n, by rw [e]; rfl⟩
    · rintro ⟨m, n, e⟩
      cases m with
      | nil =>
        cases e
        exact .inl rfl
      | cons z m =>
        rw [List.cons_append] at e
        injection e with e1 e2
        exact .inr (ih.mpr ⟨m, n, e2⟩)
theorem zip_drop_last : ∀ {l k : List Pt}, k.length < l.length → l.dropLast.zip k = l.zip k
  | [], _, h => by cases h
  | [x], [], _ => rfl
  | [x], _ :: _, h => by simp at h
  | x :: y :: l, [], _ => by simp
  | x :: y :: l, z :: k, h => by
    have := zip_drop_last (l := y :: l) (k := k) (by simpa using h)
    rw [List.dropLast_cons_of_ne_nil (by simp), List.zip_cons_cons, List.zip_cons_cons, this]
/-- the pairs that the law walks: all stretches of the closed ring -/
theorem zip_ring {p0 last : Pt} {l : List Pt} (hl : (p0 :: l).getLast? = some last) {a b : Pt} : (a, b) ∈ (last :: (p0 :: l).dropLast).zip (p0 :: l) ↔ ∃ m n, p0 :: l ++ [p0] = m ++ a :: b :: n := by
  rw [List.zip_cons_cons, zip_drop_last (by simp), List.mem_cons]
  have zn := zip_next (l := p0 :: l) (a := a) (b := b)
  rw [show (p0 :: l).drop 1 = l from rfl] at zn
  rw [zn]
  obtain ⟨ini, ei⟩ := List.getLast?_eq_some_iff.mp hl
  constructor
  · rintro (h | ⟨m, n, e⟩)
    · cases h
      exact ⟨ini, [], by rw [ei, List.append_assoc]; rfl⟩
    · exact ⟨m, n ++ [p0], by rw [e]; simp⟩
  · rintro ⟨m, n, e⟩
    rcases List.eq_nil_or_concat n with rfl | ⟨n', z, rfl⟩
    · left
      have e2 : p0 :: l ++ [p0] = (m ++ [a]) ++ [b] := by rw [e]; simp
      obtain ⟨e3, e4⟩ := List.append_inj' e2 rfl
      cases e4
      rw [e3, List.getLast?_append] at hl
      simp at hl
      rw [hl]
    · right
      have e2 : p0 :: l ++ [p0] = (m ++ a :: b :: n') ++ [z] := by rw [e]; simp
      obtain ⟨e3, e4⟩ := List.append_inj' e2 rfl
      exact ⟨m, n', e3⟩
/-- the law finds the place on a stretch of the ring -/
def Hit (p : Plc) (last : Pt) (ring : List Pt) : Prop := ∃ a b, (a, b) ∈ (last :: ring.dropLast).zip ring ∧ po a b p = 0 ∧ dots a b p ≤ 0
/-- the law finds the place in a triangle of the fan -/
def InFan (p : Plc) (p0 : Pt) (l : List Pt) : Prop := ∃ m b c n, l = m ++ b :: c :: n ∧ 0 ≤ po p0 b p ∧ 0 ≤ po b c p ∧ 0 ≤ po c p0 p ∧ 0 < tn p0 b c
section
variable {rows m1 : List Pt} {p0 q last p1 : Pt} {p : Plc}
theorem pr_all {R : Pt → Pt → Prop} : ∀ {l : List Pt}, Pr R l ↔ ∀ m a b n, l = m ++ a :: b :: n → R a b
  | [] => ⟨fun _ m a b n e => absurd (no_two e) (by simp), fun _ => True.intro⟩
  | [x] => ⟨fun _ m a b n e => absurd (no_two e) (by simp), fun _ => True.intro⟩
  | x :: y :: l => by
    constructor
    · rintro ⟨h, k⟩ m a b n e
      cases m with
      | nil => cases e; exact h
      | cons z m =>
        rw [List.cons_append] at e
        injection e with e1 e2
        exact (pr_all (l := y :: l)).mp k m a b n e2
    · intro h
      exact ⟨h [] x y l rfl, (pr_all (l := y :: l)).mpr fun m a b n e => h (x :: m) a b n (by rw [e]; rfl)⟩
/-- inside: on no stretch, in a triangle -/
theorem where_in (g : Rng rows p0 last p1 m1) (hd : 0 < p.d) (s : Pr (fun a b => 0 < po a b p) (p0 :: p1 :: (m1 ++ [p0]))) : ¬ Hit p last (p0 :: p1 :: m1) ∧ InFan p p0 (p1 :: m1) := by
  refine ⟨fun ⟨a, b, h, z, _⟩ => ?_, g.inside hd s⟩
  obtain ⟨m, n, e⟩ := (zip_ring g.hl).mp h
  have := pr_all.mp s m a b n e
  omega
theorem where_on (g : Rng rows p0 last p1 m1) (s : Pr (fun a b => 0 ≤ po a b p) (p0 :: p1 :: (m1 ++ [p0]))) (z : ¬ Pr (fun a b => po a b p ≠ 0) (p0 :: p1 :: (m1 ++ [p0]))) : Hit p last (p0 :: p1 :: m1) := by
  obtain ⟨m, a, b, n, e, h1, h2⟩ := g.border s z
  exact ⟨a, b, (zip_ring g.hl).mpr ⟨m, n, e⟩, h1, h2⟩
theorem where_out (g : Rng rows p0 last p1 m1) (sub : ∀ x ∈ p0 :: p1 :: m1, x ∈ rows) (hd : 0 < p.d) (s : ¬ Pr (fun a b => 0 ≤ po a b p) (p0 :: p1 :: (m1 ++ [p0]))) : ¬ Hit p last (p0 :: p1 :: m1) ∧ ¬ InFan p p0 (p1 :: m1) := by
  obtain ⟨h1, h2⟩ := g.outside hd s
  refine ⟨fun ⟨a, b, h, z, d⟩ => ?_, fun ⟨m, b, c, n, e, a1, a2, a3, t⟩ => ?_⟩
  · obtain ⟨m, n, e⟩ := (zip_ring g.hl).mp h
    have nx := pr_all.mp g.ring m a b n e
    exact h1 a b nx.1.1 nx.1.2.1 nx.1.2.2.1 z d
  · exact h2 p0 b c (sub _ (by simp)) (sub _ (by rw [e]; simp)) (sub _ (by rw [e]; simp)) t a1 a2 a3
end
/-! ### the program's own defs: what a site is -/
abbrev sIsSite : Stmt := topS 10
theorem scIsSite : FnScope ["value", "x", "y"] ["value"] (defScope sIsSite) := ⟨rfl, rfl, rfl, by decide +kernel, rfl, by decide +kernel, by decide +kernel⟩
section
variable {P : Program} {w : World} {K : PySem.W.Frag} {mg : Str → Option Value} {base : Heap}
/-- a number is neither True nor False -/
theorem op_isIB {X : Cx} : OpR X (compareOp .Is) (fun x y H Q => ∃ (n : Int) (b : Bool), x = .int n ∧ y = .bl b ∧ Q (.bl false) H) := by
  intro pins s σ H x y v u Q I rx ry h
  obtain ⟨n, b, rfl, rfl, q⟩ := h
  obtain ⟨t, rfl⟩ := rx
  cases (show u = Value.bool b from ry)
  exact wpAny_is_other rfl (fun z => by cases z) ⟨.bl false, H, I, rfl, q⟩
theorem itf {p A B : Prop} [Decidable p] (h : ¬ p) (b : B) : if decide p = true then A else B := by
  rw [decide_eq_false h]
  exact b
theorem itt {p A B : Prop} [Decidable p] (h : p) (a : A) : if decide p = true then A else B := by
  rw [decide_eq_true h]
  exact a
theorem kTT (K : PySem.W.Frag) : PySem.W.kitOne K (.type "tuple") (.type "tuple") = some true := kit_ty (by decide +kernel)
theorem kII (K : PySem.W.Frag) : PySem.W.kitOne K (.type "int") (.type "int") = some true := kit_ty (by decide +kernel)
/-- a site -/
def spIsSite : Sp := fun vs H Q _ => ∃ (t : Addr) (x y : Int), vs = [.ref t] ∧ Sit H t x y ∧ Bd 1000000 x y ∧ Q (.bl true) H
theorem ok_issite {f : Addr} {fd : FuncData} {k : Nat} (F : Fun K "is_site" "is_site" sIsSite f fd) (misinstance : mg "isinstance" = none) (mtuple : mg "tuple" = none) (mint : mg "int" = none) (mlen : mg "len" = none) : FnOk P w K mg base CX0 (k + 1) f fd ["value"] spIsSite := by
  refine F.ok scIsSite (fun vs H Q E h => ?_) (fun cdv A outer s H vs Q E hr h => ?_)
  · obtain ⟨t, x, y, rfl, _⟩ := h
    rfl
  · obtain ⟨t, x, y, rfl, h, d, q⟩ := h
    have nd := scIsSite.nd
    obtain ⟨d1, d2, d3, d4⟩ := d
    refine ⟨_, (pss_cons (ps_if (PW.pt (pw_or (pt_not (pt_val (pe_callB call_isi (by rfl) misinstance (by decide +kernel) (pa_cons (pv 0) (pa_cons (pe_bltn (v := .ty "tuple") (by rfl) mtuple (by decide +kernel) rfl) pa_nil))))) (pw_or1 (pt_cmpR op_ne (pe_callB call_len_seq (by rfl) mlen (by decide +kernel) (pa_cons (pv 0) pa_nil)) pe_int (nomark _))))) (pss_one (ps_ret pe_bl)) pss_nil) (pss_cons (ps_asg (pv 0) (pg_tup (by rfl) (pgs_cons (pg_name (i := 1) nd rfl (.inl rfl)) (pgs_cons (pg_name (i := 2) nd rfl (.inl rfl)) pgs_nil)))) (pss_cons (ps_if (PW.pt (pw_or (pt_not (pt_val (pe_callB call_isi (by rfl) misinstance (by decide +kernel) (pa_cons (pv 1) (pa_cons (pe_bltn (v := .ty "int") (by rfl) mint (by decide +kernel) rfl) pa_nil))))) (pw_or1 (pt_not (pt_val (pe_callB call_isi (by rfl) misinstance (by decide +kernel) (pa_cons (pv 2) (pa_cons (pe_bltn (v := .ty "int") (by rfl) mint (by decide +kernel) rfl) pa_nil)))))))) (pss_one (ps_ret pe_bl)) pss_nil) (pss_cons (ps_if (PW.pt (pw_or (pt_cmpR op_isIB (pv 1) pe_bl (nomark _)) (pw_or (pt_cmpR op_isIB (pv 1) pe_bl (nomark _)) (pw_or (pt_cmpR op_isIB (pv 2) pe_bl (nomark _)) (pw_or1 (pt_cmpR op_isIB (pv 2) pe_bl (nomark _))))))) (pss_one (ps_ret pe_bl)) pss_nil) (pss_cons (ps_if (PW.pt (pw_or (pt_cmpR op_gt (pv 1) pe_int (nomark _)) (pw_or (pt_cmpR op_lt (pv 1) pe_neg (nomark _)) (pw_or (pt_cmpR op_gt (pv 2) pe_int (nomark _)) (pw_or1 (pt_cmpR op_lt (pv 2) pe_neg (nomark _))))))) (pss_one (ps_ret pe_bl)) pss_nil) (pss_one (ps_ret pe_bl))))))), ?_⟩
    exact ⟨_, rfl, _, _, _, _, _, rfl, .ty "tuple", .base (.tup h), kTT K, _, rfl, _, rfl, _, _, rfl, .inr (SqT.of h), rfl, _, rfl, _, rfl, _, _, rfl, SqT.of h, rfl, _, _, rfl, _, _, rfl, rfl, _, rfl, _, _, _, _, _, rfl, .ty "int", .base (.int _), kII K, _, rfl, _, rfl, _, _, _, _, _, rfl, .ty "int", .base (.int _), kII K, _, rfl, _, rfl, _, _, rfl, rfl, _, rfl, _, rfl, _, _, rfl, rfl, _, rfl, _, rfl, _, _, rfl, rfl, _, rfl, _, rfl, _, _, rfl, rfl, _, rfl, _, rfl, _, _, rfl, rfl, _, rfl, itf (by omega) ⟨_, rfl, _, _, rfl, rfl, _, rfl, itf (by omega) ⟨_, rfl, _, _, rfl, rfl, _, rfl, itf (by omega) ⟨_, rfl, _, _, rfl, rfl, _, rfl, itf (by omega) q⟩⟩⟩⟩
def spCheck : Sp := fun vs H Q _ => ∃ (t : Addr) (x y : Int) (z : Str), vs = [.ref t, .str z] ∧ Sit H t x y ∧ Bd 1000000 x y ∧ Q .non H
/-- the double area -/
def tri (ax ay bx by' cx cy : Int) : Int := (bx - ax) * (cy - ay) - (by' - ay) * (cx - ax)
/-- three sites, and what is told of their numbers -/
def sp3 (K : PySem.W.Frag) (v : Int → Int → Int → Int → Int → Int → V) : Sp := fun vs H Q _ => ∃ (a b c : Addr) (ax ay bx by' cx cy : Int), vs = [.ref a, .ref b, .ref c] ∧ Sit H a ax ay ∧ Sit H b bx by' ∧ Sit H c cx cy ∧
  Bd 1000000 ax ay ∧ Bd 1000000 bx by' ∧ Bd 1000000 cx cy ∧ Q (v ax ay bx by' cx cy) H
theorem tri_m1 {ax ay bx cy : Int} (a : -1000000 ≤ ax ∧ ax ≤ 1000000) (b : -1000000 ≤ bx ∧ bx ≤ 1000000) : CMul (bx - ax) (cy - ay) := .inl ⟨by omega, by omega⟩
end
/-! ### signs, sites that are alike -/
section
variable {P : Program} {w : World} {K : PySem.W.Frag} {mg : Str → Option Value} {base : Heap}
def sg (n : Int) : Int := if n = 0 then 0 else if 0 < n then 1 else -1
theorem dpSit {H : Hp} {t : Addr} {x y : Int} (h : Sit H t x y) : Dp K H (.ref t) (.tuple [.int x, .int y]) := .tup (SqT.of h) (.cons (.int x) (.cons (.int y) .nil))
theorem eqv_sit (x y u v : Int) : PyData.eqv (.tuple [.int x, .int y]) (.tuple [.int u, .int v]) = decide (x = u ∧ y = v) := by
  simp [PyData.eqv, PyData.eqvAll, Bool.decide_and, Bool.beq_eq_decide_eq]
theorem at0_ (u v : V) : atI [u, v] 0 = some u := rfl
theorem at1_ (u v : V) : atI [u, v] 1 = some v := rfl
end
abbrev sSign : Stmt := topS 7
theorem scSign : FnScope ["number"] ["number"] (defScope sSign) := ⟨rfl, rfl, rfl, by decide +kernel, rfl, by decide +kernel, by decide +kernel⟩
section
variable {P : Program} {w : World} {K : PySem.W.Frag} {mg : Str → Option Value} {base : Heap}
def spSign : Sp := fun vs H Q _ => ∃ n : Int, vs = [.int n] ∧ Q (.int (sg n)) H
theorem ok_sign {f : Addr} {fd : FuncData} {k : Nat} (F : Fun K "sign" "sign" sSign f fd) : FnOk P w K mg base CX0 (k + 1) f fd ["number"] spSign := by
  refine F.ok scSign (fun vs H Q E h => ?_) (fun cdv A outer s H vs Q E hr h => ?_)
  · obtain ⟨n, rfl, _⟩ := h
    rfl
  · obtain ⟨n, rfl, q⟩ := h
    refine ⟨_, pss_cons (ps_if (pt_cmpR op_eq (pv 0) pe_int (nomark _)) (pss_one (ps_ret pe_int)) pss_nil)
      (pss_one (ps_ret (pe_ifExp (pt_cmpR op_gt (pv 0) pe_int (nomark _)) pe_int pe_neg))), ?_⟩
    unfold sg at q
    refine ⟨_, rfl, rfl, _, rfl, ite2 (fun c => ?_) fun c => ⟨_, rfl, _, _, rfl, rfl, _, rfl, ite2 (fun d => ?_) fun d => ?_⟩⟩
    · rw [if_pos (V.int.inj (of_decide_eq_true c))] at q
      exact q
    · rw [if_neg (fun z => c (by rw [z]; exact decide_eq_true rfl)), if_pos (of_decide_eq_true d)] at q
      exact q
    · rw [if_neg (fun z => c (by rw [z]; exact decide_eq_true rfl)), if_neg (fun z => d (decide_eq_true z))] at q
      exact q
end
/-! ### places, fractions: the mathematics -/
def g3 (x y d : Int) : Nat := Nat.gcd (Nat.gcd x.natAbs y.natAbs) d.natAbs
theorem g3_is (x y d : Int) : Nat.gcd (((Nat.gcd x.natAbs y.natAbs : Nat) : Int)).natAbs d.natAbs = g3 x y d := by
  rw [Int.natAbs_natCast]
  rfl
theorem g3_dx (x y d : Int) : ((g3 x y d : Nat) : Int) ∣ x := Int.ofNat_dvd_left.mpr (Nat.dvd_trans (Nat.gcd_dvd_left _ _) (Nat.gcd_dvd_left _ _))
theorem g3_dy (x y d : Int) : ((g3 x y d : Nat) : Int) ∣ y := Int.ofNat_dvd_left.mpr (Nat.dvd_trans (Nat.gcd_dvd_left _ _) (Nat.gcd_dvd_right _ _))
theorem g3_dd (x y d : Int) : ((g3 x y d : Nat) : Int) ∣ d := Int.ofNat_dvd_left.mpr (Nat.gcd_dvd_right _ _)
theorem g3_pos {x y d : Int} (h : d ≠ 0) : 0 < g3 x y d := Nat.gcd_pos_of_pos_right _ (Int.natAbs_pos.mpr h)
theorem g3_le {x y d : Int} (h : d ≠ 0) : g3 x y d ≤ d.natAbs := Nat.le_of_dvd (Int.natAbs_pos.mpr h) (Nat.gcd_dvd_right _ _)
/-- the divisor that makes the last number one of 1 and more -/
def gs (x y d : Int) : Int := if d < 0 then -((g3 x y d : Nat) : Int) else ((g3 x y d : Nat) : Int)
theorem gs_ne {x y d : Int} (h : d ≠ 0) : gs x y d ≠ 0 := by
  have := g3_pos (x := x) (y := y) h
  unfold gs
  split <;> omega
theorem gs_abs (x y d : Int) : (gs x y d).natAbs = g3 x y d := by
  unfold gs
  split <;> omega
theorem gs_dvd {x y d z : Int} (h : ((g3 x y d : Nat) : Int) ∣ z) : gs x y d ∣ z := by
  unfold gs
  split
  · exact Int.neg_dvd.mpr h
  · exact h
/-- a tuple of three numbers is a place -/
structure PlOk (x y d : Int) : Prop where
  x1 : -(10 ^ 30) < x
  x2 : x < 10 ^ 30
  y1 : -(10 ^ 30) < y
  y2 : y < 10 ^ 30
  d1 : 1 ≤ d
  d2 : d < 10 ^ 30
  g1 : g3 x y d = 1
theorem mul_fdiv {g z : Int} (h : g ∣ z) : g * z.fdiv g = z := by
  rw [Int.fdiv_eq_ediv_of_dvd h]
  exact Int.mul_ediv_cancel' h
theorem abs_le_of_mul {g z x : Int} (e : g * z = x) (h : g ≠ 0) : z.natAbs ≤ x.natAbs := by
  rw [← e, Int.natAbs_mul]
  exact Nat.le_mul_of_pos_left _ (Int.natAbs_pos.mpr h)
theorem place_ok {x y d : Int} (h : d ≠ 0) (hx : x.natAbs < 10 ^ 30) (hy : y.natAbs < 10 ^ 30) (hd : d.natAbs < 10 ^ 30) : PlOk (x.fdiv (gs x y d)) (y.fdiv (gs x y d)) (d.fdiv (gs x y d)) := by
  have ex := mul_fdiv (gs_dvd (g3_dx x y d))
  have ey := mul_fdiv (gs_dvd (g3_dy x y d))
  have ed := mul_fdiv (gs_dvd (g3_dd x y d))
  have hn := gs_ne (x := x) (y := y) h
  have bx := abs_le_of_mul ex hn
  have by' := abs_le_of_mul ey hn
  have bd := abs_le_of_mul ed hn
  have pos : 0 < d.fdiv (gs x y d) := by
    have gp := g3_pos (x := x) (y := y) h
    generalize d.fdiv (gs x y d) = D at ed
    unfold gs at ed
    split at ed
    · rename_i hneg
      rcases Int.lt_trichotomy D 0 with z | z | z
      · exfalso
        have w : 0 < -((g3 x y d : Nat) : Int) * D := Int.mul_pos_of_neg_of_neg (by omega) z
        omega
      · rw [z, Int.mul_zero] at ed
        omega
      · exact z
    · rcases Int.lt_trichotomy D 0 with z | z | z
      · exfalso
        have w : ((g3 x y d : Nat) : Int) * D < 0 := Int.mul_neg_of_pos_of_neg (by omega) z
        omega
      · rw [z, Int.mul_zero] at ed
        omega
      · exact z
  refine ⟨by omega, by omega, by omega, by omega, by omega, by omega, ?_⟩
  have nx : g3 x y d * (x.fdiv (gs x y d)).natAbs = x.natAbs := by rw [← gs_abs, ← Int.natAbs_mul, ex]
  have ny : g3 x y d * (y.fdiv (gs x y d)).natAbs = y.natAbs := by rw [← gs_abs, ← Int.natAbs_mul, ey]
  have nd : g3 x y d * (d.fdiv (gs x y d)).natAbs = d.natAbs := by rw [← gs_abs, ← Int.natAbs_mul, ed]
  have key : g3 x y d * g3 (x.fdiv (gs x y d)) (y.fdiv (gs x y d)) (d.fdiv (gs x y d)) = g3 x y d := by
    generalize hg : g3 x y d = g at nx ny nd
    unfold g3
    rw [← Nat.gcd_mul_left, ← Nat.gcd_mul_left, nx, ny, nd]
    exact hg
  exact Nat.eq_of_mul_eq_mul_left (g3_pos (x := x) (y := y) h) (by rw [key, Nat.mul_one])
theorem nb_add {i j : Int} {a : Nat} (hi : i.natAbs < 2 ^ a) (hj : j.natAbs < 2 ^ a) : (i + j).natAbs < 2 ^ (a + 1) := by
  rw [Nat.pow_succ]
  omega
theorem nb_sub {i j : Int} {a : Nat} (hi : i.natAbs < 2 ^ a) (hj : j.natAbs < 2 ^ a) : (i - j).natAbs < 2 ^ (a + 1) := by
  rw [Nat.pow_succ]
  omega
theorem nb_up {i : Int} {a b : Nat} (hi : i.natAbs < 2 ^ a) (h : a ≤ b) : i.natAbs < 2 ^ b := Nat.lt_of_lt_of_le hi (Nat.pow_le_pow_right (by decide) h)
theorem PlOk.bits {x y d : Int} (h : PlOk x y d) : x.natAbs < 2 ^ 100 ∧ y.natAbs < 2 ^ 100 ∧ d.natAbs < 2 ^ 100 := by
  obtain ⟨h1, h2, h3, h4, h5, h6, _⟩ := h
  refine ⟨by omega, by omega, by omega⟩
/-- the squared distance of a place and a site, times d * d -/
def spread (x y d u v : Int) : Int := (x - d * u) * (x - d * u) + (y - d * v) * (y - d * v)
theorem sq_nn (x : Int) : 0 ≤ x * x := by
  rw [← Int.natAbs_mul_self]
  exact Int.natCast_nonneg _
theorem spread_nonneg (x y d u v : Int) : 0 ≤ spread x y d u v := Int.add_nonneg (sq_nn _) (sq_nn _)
theorem far_bits {x d u : Int} (hx : x.natAbs < 2 ^ 100) (hd : d.natAbs < 2 ^ 100) (hu : -1000000 ≤ u ∧ u ≤ 1000000) : (x - d * u).natAbs < 2 ^ 121 := by
  have h1 : (d * u).natAbs < 2 ^ (100 + 20) := wide_lt hd (by omega)
  exact nb_sub (nb_up hx (by decide)) h1
/-- what lifts from a site are -/
def lz (u v : Int) : Int := u * u + v * v
def vol (ax ay bx by' cx cy dx dy : Int) : Int :=
  (dx - ax) * ((by' - ay) * lz (cx - ax) (cy - ay) - lz (bx - ax) (by' - ay) * (cy - ay)) + (dy - ay) * (lz (bx - ax) (by' - ay) * (cx - ax) - (bx - ax) * lz (cx - ax) (cy - ay)) + lz (dx - ax) (dy - ay) * ((bx - ax) * (cy - ay) - (by' - ay) * (cx - ax))
theorem vol_turn (ax ay bx by' cx cy dx dy : Int) : vol cx cy ax ay bx by' dx dy = vol ax ay bx by' cx cy dx dy := by
  unfold vol lz
  grind
theorem tri_turn (ax ay bx by' cx cy : Int) : tri cx cy ax ay bx by' = tri ax ay bx by' cx cy := by
  unfold tri
  grind
/-! ### fractions, places, circles, lifts -/
abbrev sIsPl : Stmt := topS 11
abbrev sCheckP : Stmt := topS 13
theorem scIsPl : FnScope ["value", "x", "y", "d"] ["value"] (defScope sIsPl) := ⟨rfl, rfl, rfl, by decide +kernel, rfl, by decide +kernel, by decide +kernel⟩
theorem scCheckP : FnScope ["value", "name"] ["value", "name"] (defScope sCheckP) := ⟨rfl, rfl, rfl, by decide +kernel, rfl, by decide +kernel, by decide +kernel⟩
section
variable {P : Program} {w : World} {K : PySem.W.Frag} {mg : Str → Option Value} {base : Heap}
theorem three_line : 3 ≤ sizeLine := by decide
theorem a30_ (u v z : V) : atI [u, v, z] 0 = some u := rfl
theorem a31_ (u v z : V) : atI [u, v, z] 1 = some v := rfl
theorem a32_ (u v z : V) : atI [u, v, z] 2 = some z := rfl
def Tup2 (H : Hp) (p : Addr) (x y : Int) : Prop := H p = some (.tup [.int x, .int y])
def Pla (H : Hp) (p : Addr) (x y d : Int) : Prop := H p = some (.tup [.int x, .int y, .int d])
/-- a new thing is handed back, all else stands -/
def newRes (H : Hp) (Q : VK) (o : HO) : Prop := ∀ (p : Addr) H', Same H H' → H p = none → H' p = some o → Q (.ref p) H'
/-! fraction -/
def gcf (t b : Int) : Int := ((Nat.gcd t.natAbs b.natAbs : Nat) : Int)
def spFrac : Sp := fun vs H Q _ => ∃ t b : Int, vs = [.int t, .int b] ∧ 0 < b ∧ b.natAbs < 2 ^ 8000 ∧ newRes H Q (.tup [.int (t / gcf t b), .int (b / gcf t b)])
theorem gcf_pos {t b : Int} (h : 0 < b) : 0 < gcf t b := Int.natCast_pos.mpr (Nat.gcd_pos_of_pos_right _ (by omega))
theorem gcf_le {t b : Int} (h : 0 < b) : (gcf t b).natAbs ≤ b.natAbs := by
  unfold gcf
  rw [Int.natAbs_natCast]
  exact Nat.le_of_dvd (by omega) (Nat.gcd_dvd_right _ _)
/-! places -/
/-- a place -/
def spIsPl : Sp := fun vs H Q _ => ∃ (t : Addr) (x y d : Int), vs = [.ref t] ∧ Pla H t x y d ∧ PlOk x y d ∧ Q (.bl true) H
set_option pp.maxSteps 300 in
theorem ok_ispl {f : Addr} {fd : FuncData} {k : Nat} (F : Fun K "is_place" "is_place" sIsPl f fd)
    (misinstance : mg "isinstance" = none) (mtuple : mg "tuple" = none) (mint : mg "int" = none) (mlen : mg "len" = none) (mgcd : mg "gcd" = some (.builtin "math.gcd")) : FnOk P w K mg base CX0 (k + 1) f fd ["value"] spIsPl := by
  refine F.ok scIsPl (fun vs H Q E h => ?_) (fun cdv A outer s H vs Q E hr h => ?_)
  · obtain ⟨t, x, y, d, rfl, _⟩ := h
    rfl
  · obtain ⟨t, x, y, d, rfl, h, p, q⟩ := h
    have nd := scIsPl.nd
    obtain ⟨x1, x2, y1, y2, d1, d2, g1⟩ := p
    refine ⟨_, (pss_cons (ps_if (PW.pt (pw_or (pt_not (pt_val (pe_callB call_isi (by rfl) misinstance (by decide +kernel) (pa_cons (pv 0) (pa_cons (pe_bltn (v := .ty "tuple") (by rfl) mtuple (by decide +kernel) rfl) pa_nil))))) (pw_or1 (pt_cmpR op_ne (pe_callB call_len_seq (by rfl) mlen (by decide +kernel) (pa_cons (pv 0) pa_nil)) pe_int (nomark _))))) (pss_one (ps_ret pe_bl)) pss_nil) (pss_cons (ps_asg (pv 0) (pg_tup (by rfl) (pgs_cons (pg_name (i := 1) nd rfl (.inl rfl)) (pgs_cons (pg_name (i := 2) nd rfl (.inl rfl)) (pgs_cons (pg_name (i := 3) nd rfl (.inl rfl)) pgs_nil))))) (pss_cons (ps_if (PW.pt (pw_or (pt_not (pt_val (pe_callB call_isi (by rfl) misinstance (by decide +kernel) (pa_cons (pv 1) (pa_cons (pe_bltn (v := .ty "int") (by rfl) mint (by decide +kernel) rfl) pa_nil))))) (pw_or (pt_not (pt_val (pe_callB call_isi (by rfl) misinstance (by decide +kernel) (pa_cons (pv 2) (pa_cons (pe_bltn (v := .ty "int") (by rfl) mint (by decide +kernel) rfl) pa_nil))))) (pw_or1 (pt_not (pt_val (pe_callB call_isi (by rfl) misinstance (by decide +kernel) (pa_cons (pv 3) (pa_cons (pe_bltn (v := .ty "int") (by rfl) mint (by decide +kernel) rfl) pa_nil))))))))) (pss_one (ps_ret pe_bl)) pss_nil) (pss_cons (ps_if (PW.pt (pw_or (pt_cmpR op_isIB (pv 1) pe_bl (nomark _)) (pw_or (pt_cmpR op_isIB (pv 1) pe_bl (nomark _)) (pw_or (pt_cmpR op_isIB (pv 2) pe_bl (nomark _)) (pw_or (pt_cmpR op_isIB (pv 2) pe_bl (nomark _)) (pw_or (pt_cmpR op_isIB (pv 3) pe_bl (nomark _)) (pw_or1 (pt_cmpR op_lt (pv 3) pe_int (nomark _))))))))) (pss_one (ps_ret pe_bl)) pss_nil) (pss_cons (ps_if (PW.pt (pw_or (pt_not (pt_chain op_lt op_lt (pe_un un_neg (pe_op op_pow pe_int pe_int)) (pv 1) (pe_op op_pow pe_int pe_int))) (pw_or (pt_not (pt_chain op_lt op_lt (pe_un un_neg (pe_op op_pow pe_int pe_int)) (pv 2) (pe_op op_pow pe_int pe_int))) (pw_or1 (pt_cmpR op_ge (pv 3) (pe_op op_pow pe_int pe_int) (nomark _)))))) (pss_one (ps_ret pe_bl)) pss_nil) (pss_one (ps_ret (pe_or (pe_cmpR op_eq (pv 3) pe_int (nomark _)) (pe_one (pe_cmpR op_eq (pe_callBfun cr_gcd3 (by rfl) mgcd (pa_cons (pv 1) (pa_cons (pv 2) (pa_cons (pv 3) pa_nil)))) pe_int (nomark _))))))))))), ?_⟩
    repeat array_get_dec
    refine w_itt x1 ?_
    repeat array_get_dec
    refine w_ntt x2 ?_
    repeat array_get_dec
    refine w_itt y1 ?_
    repeat array_get_dec
    refine w_ntt y2 ?_
    repeat array_get_dec
    refine w_itf (p := (10 : Int) ^ (30 : Int).toNat ≤ d) (fun z => absurd d2 (Int.not_lt.mpr z)) ?_
    refine ⟨_, rfl, rfl, _, rfl, ite2 (fun _ => q) fun _ => ?_⟩
    repeat array_get_dec
    have e : Nat.gcd (Nat.gcd x.natAbs y.natAbs) d.natAbs = 1 := g1
    rw [e]
    exact q
def spCheckP : Sp := fun vs H Q _ => ∃ (t : Addr) (x y d : Int) (z : Str), vs = [.ref t, .str z] ∧ Pla H t x y d ∧ PlOk x y d ∧ Q .non H
theorem ok_checkp {f fS : Addr} {fd fdS : FuncData} {k : Nat} (F : Fun K "check_place" "check_place" sCheckP f fd)
    (GS : FnOk P w K mg base CX0 (k + 1) fS fdS ["value"] spIsPl) (gS : mg "is_place" = some (.ref fS)) (kS : PySem.W.keepIn K (.ref fS) = true) (bS : Binds K fdS ["value"] []) : FnOk P w K mg base CX0 (k + 2) f fd ["value", "name"] spCheckP := by
  refine F.ok scCheckP (fun vs H Q E h => ?_) (fun cdv A outer s H vs Q E hr h => ?_)
  · obtain ⟨t, x, y, d, z, rfl, _⟩ := h
    rfl
  · obtain ⟨t, x, y, d, z, rfl, h, p, q⟩ := h
    exact ⟨_, pss_one (ps_if (pt_not (pt_val (pe_call GS hr (by rfl) gS kS bS .nil pass0 (pa_cons (pv 0) pa_nil)))) (pss_one ps_never) pss_nil), _, rfl, t, x, y, d, rfl, h, p, _, rfl, q⟩
end
/-! ### sites that are handed in -/
section
variable {P : Program} {w : World} {K : PySem.W.Frag} {mg : Str → Option Value} {base : Heap}
/-- sites at ts, f the pairs there -/
def SitF (f : Addr → Int × Int) (H : Hp) (ts : List Addr) : Prop := ∀ t ∈ ts, Sit H t (f t).1 (f t).2 ∧ Bd 1000000 (f t).1 (f t).2
theorem SitF.same {f : Addr → Int × Int} {H H' : Hp} {ts : List Addr} (h : SitF f H ts) (a : Same H H') : SitF f H' ts := fun t m => ⟨(h t m).1.same a, (h t m).2⟩
theorem SitF.sub {f : Addr → Int × Int} {H : Hp} {ts us : List Addr} (h : SitF f H ts) (a : ∀ u ∈ us, u ∈ ts) : SitF f H us := fun t m => h t (a t m)
theorem ref_at {ts : List Addr} {i : Nat} {x : V} (h : (ts.map V.ref)[i]? = some x) : ∃ t, ts[i]? = some t ∧ x = .ref t ∧ t ∈ ts := by
  rw [List.getElem?_map] at h
  obtain ⟨t, e, e2⟩ := Option.map_eq_some_iff.mp h
  exact ⟨t, e, e2.symm, List.mem_of_getElem? e⟩
/-- a list of sites, no two alike, fewer than 64 -/
structure Lot (f : Addr → Int × Int) (H : Hp) (p : Addr) (ts : List Addr) : Prop where
  at_ : H p = some (.lst (ts.map V.ref))
  pos : 0 < ts.length
  few : ts.length < 64
  sit : SitF f H ts
  nod : (ts.map f).Nodup
theorem Lot.same {f : Addr → Int × Int} {H H' : Hp} {p : Addr} {ts : List Addr} (h : Lot f H p ts) (s : Same H H') : Lot f H' p ts := ⟨s _ _ h.at_, h.pos, h.few, h.sit.same s, h.nod⟩
abbrev s_are_sites : Stmt := topS 15
abbrev n_are_sites : List Str := ["value", "item", "x", "y"]
theorem c_are_sites : FnScope n_are_sites ["value"] (defScope s_are_sites) := ⟨rfl, rfl, rfl, by decide +kernel, rfl, by decide +kernel, by decide +kernel⟩
def p_are_sites : Sp := fun vs H Q _ => ∃ (p : Addr) (ts : List Addr) (f : Addr → Int × Int), vs = [.ref p] ∧ Lot f H p ts ∧ ∀ H', Same H H' → Q (.bl true) H'
set_option pp.maxSteps 300 in
theorem ok_are_sites {tMOST_SITES : Tok} (D : Df K mg "are_sites" s_are_sites ["value"]) (mint : mg "int" = none) (misinstance : mg "isinstance" = none) (mlen : mg "len" = none) (mlist : mg "list" = none) (mset : mg "set" = none) (mtuple : mg "tuple" = none) (mMOST_SITES : mg "MOST_SITES" = some (.int 200 tMOST_SITES)) : Cl P w K mg base CX0 "are_sites" 1 ["value"] (p_are_sites) := by
  refine D.cl fun f fd F => F.ok c_are_sites (fun vs H Q E h => ?_) (fun cdv A outer s H vs Q E hr h => ?_)
  · obtain ⟨p, ts, g, rfl, ⟨hp, l0, l1, hs, nod⟩, q⟩ := h
    rfl
  · obtain ⟨p, ts, g, rfl, ⟨hp, l0, l1, hs, nod⟩, q⟩ := h
    have nd := c_are_sites.nd
    have hu : _ := hu_of hr
    refine ⟨_, (pss_cons (ps_if (PW.pt (pw_or (pt_not (pt_val (pe_callB call_isi (by rfl) misinstance (by decide +kernel) (pa_cons (pv 0) (pa_cons (pe_bltn (v := .ty "list") (by rfl) mlist (by decide +kernel) rfl) pa_nil))))) (pw_or1 (pt_not (pt_chain op_lt op_le pe_int (pe_callB call_len_seq (by rfl) mlen (by decide +kernel) (pa_cons (pv 0) pa_nil)) (pe_glob (v := .int 200) (by rfl) mMOST_SITES ⟨_, rfl⟩)))))) (pss_one (ps_ret pe_bl)) pss_nil) (pss_cons (ps_for PassesOwn.never rfl (pi_list (pv 0)) (pg_name (i := 1) nd rfl (.inl rfl)) (pss_cons (ps_if (PW.pt (pw_or (pt_not (pt_val (pe_callB call_isi (by rfl) misinstance (by decide +kernel) (pa_cons (pv 1) (pa_cons (pe_bltn (v := .ty "tuple") (by rfl) mtuple (by decide +kernel) rfl) pa_nil))))) (pw_or1 (pt_cmpR op_ne (pe_callB call_len_seq (by rfl) mlen (by decide +kernel) (pa_cons (pv 1) pa_nil)) pe_int (nomark _))))) (pss_one (ps_ret pe_bl)) pss_nil) (pss_cons (ps_asg (pv 1) (pg_tup (by rfl) (pgs_cons (pg_name (i := 2) nd rfl (.inl rfl)) (pgs_cons (pg_name (i := 3) nd rfl (.inl rfl)) pgs_nil)))) (pss_cons (ps_if (PW.pt (pw_or (pt_not (pt_val (pe_callB call_isi (by rfl) misinstance (by decide +kernel) (pa_cons (pv 2) (pa_cons (pe_bltn (v := .ty "int") (by rfl) mint (by decide +kernel) rfl) pa_nil))))) (pw_or1 (pt_not (pt_val (pe_callB call_isi (by rfl) misinstance (by decide +kernel) (pa_cons (pv 3) (pa_cons (pe_bltn (v := .ty "int") (by rfl) mint (by decide +kernel) rfl) pa_nil)))))))) (pss_one (ps_ret pe_bl)) pss_nil) (pss_cons (ps_if (PW.pt (pw_or (pt_cmpR op_isIB (pv 2) pe_bl (nomark _)) (pw_or (pt_cmpR op_isIB (pv 2) pe_bl (nomark _)) (pw_or (pt_cmpR op_isIB (pv 3) pe_bl (nomark _)) (pw_or1 (pt_cmpR op_isIB (pv 3) pe_bl (nomark _))))))) (pss_one (ps_ret pe_bl)) pss_nil) (pss_one (ps_if (PW.pt (pw_or (pt_cmpR op_gt (pv 2) pe_int (nomark _)) (pw_or (pt_cmpR op_lt (pv 2) pe_neg (nomark _)) (pw_or (pt_cmpR op_gt (pv 3) pe_int (nomark _)) (pw_or1 (pt_cmpR op_lt (pv 3) pe_neg (nomark _))))))) (pss_one (ps_ret pe_bl)) pss_nil))))))) (pss_one (ps_ret (pe_cmpR op_eq (pe_callB call_len_setN (by rfl) mlen (by decide +kernel) (pa_cons (pe_callTy (cr_setOfT (by rfl) hr.units) (by rfl) mset (by decide +kernel) (pa_cons (pv 0) pa_nil)) pa_nil)) (pe_callB call_len_seq (by rfl) mlen (by decide +kernel) (pa_cons (pv 0) pa_nil)) (nomark _)))))), ?_⟩
    have len : (ts.map V.ref).length = ts.length := List.length_map _
    repeat array_get_dec
    refine ⟨⟨_, SqL.of hp⟩, for_list (K := K) (a := p) (xs := ts.map V.ref) (fun i σ' H' => (∃ y1 y2 y3, σ' = [some (.ref p), y1, y2, y3]) ∧ H' = H) ⟨⟨_, _, _, rfl⟩, rfl⟩ (fun i σ' H' _ z => by rw [z.2]; exact SqL.of hp) (fun i x σ' H' hx z => ?_) fun σ' H' z => ?_⟩
    · obtain ⟨⟨y1, y2, y3, rfl⟩, rfl⟩ := z
      obtain ⟨t, _, rfl, mt⟩ := ref_at hx
      have st := (hs t mt).1
      obtain ⟨b1, b2, b3, b4⟩ := (hs t mt).2
      repeat array_get_dec
      exact ⟨⟨_, _, _, rfl⟩, rfl⟩
    · obtain ⟨⟨y1, y2, y3, rfl⟩, rfl⟩ := z
      refine ⟨_, rfl, p, ts.map fun t => (t, [(g t).1, (g t).2]), rfl, ?_, fun u m => ?_, by rw [List.length_map]; exact l1, fun S LS nS sub cov => ?_⟩
      · rw [List.map_map]
        exact SqL.of hp
      · obtain ⟨t, mt, rfl⟩ := List.mem_map.mp m
        exact SqT.of (hs t mt).1
      · refine ⟨S, LS, rfl, upd_same, fun nd' => ?_⟩
        have inj : ((ts.map fun t => (t, [(g t).1, (g t).2])).map (·.2)).Nodup := by
          rw [List.map_map, show ((fun x : Addr × List Int => x.2) ∘ fun t => (t, [(g t).1, (g t).2])) = (fun q : Int × Int => [q.1, q.2]) ∘ g from rfl, ← List.map_map]
          refine List.Pairwise.map _ (fun a b h e => h ?_) nod
          have e1 : a.1 = b.1 := (List.cons.inj e).1
          have e2 : a.2 = b.2 := (List.cons.inj (List.cons.inj e).2).1
          exact Prod.ext e1 e2
        have c1 : LS.length ≤ ts.length := by
          have z := len_le_of_sub nd' (m := (ts.map fun t => (t, [(g t).1, (g t).2])).map (·.2)) fun x hx => by
            obtain ⟨u, mu, rfl⟩ := List.mem_map.mp hx
            exact List.mem_map.mpr ⟨u, sub u mu, rfl⟩
          simpa using z
        have c2 : ts.length ≤ LS.length := by
          have z := len_le_of_sub inj (m := LS.map (·.2)) fun x hx => by
            obtain ⟨u, mu, rfl⟩ := List.mem_map.mp hx
            exact cov u mu
          simpa using z
        have hp' := (Same.upd nS (o := SetTO P w S LS)) _ _ hp
        have eq : LS.length = ts.length := Nat.le_antisymm c1 c2
        repeat array_get_dec
        show Q (.bl (decide (V.int (LS.length : Nat) = V.int ((ts.map V.ref).length : Nat)))) _
        rw [eq, len, decide_eq_true rfl]
        exact q _ (Same.upd nS)
abbrev s_ascending : Stmt := topS 17
abbrev n_ascending : List Str := ["sites"]
theorem c_ascending : FnScope n_ascending ["sites"] (defScope s_ascending) := ⟨rfl, rfl, rfl, by decide +kernel, rfl, by decide +kernel, by decide +kernel⟩
theorem lt2_of {p q : Int × Int} (h : lexLe p q) (n : p ≠ q) : lt2 p q := by
  unfold lexLe at h
  rcases h with h | ⟨h, k⟩
  · exact .inl h
  · refine .inr ⟨h, Int.lt_iff_le_and_ne.mpr ⟨k, fun e => n (Prod.ext h e)⟩⟩
def p_ascending : Sp := fun vs H Q _ => ∃ (p : Addr) (ts : List Addr) (f : Addr → Int × Int), vs = [.ref p] ∧ Lot f H p ts ∧ ∀ us p' H', us.Perm ts → (us.map f).Pairwise lt2 → Same H H' → H p' = none → Lot f H' p' us → Q (.ref p') H'
set_option pp.maxSteps 300 in
theorem ok_ascending  (D : Df K mg "ascending" s_ascending ["sites"]) (C_are_sites : Cl P w K mg base CX0 "are_sites" 1 ["value"] (p_are_sites)) (msorted : mg "sorted" = none) : Cl P w K mg base CX0 "ascending" 2 ["sites"] (p_ascending) := by
  refine D.cl fun f fd F => F.ok c_ascending (fun vs H Q E h => ?_) (fun cdv A outer s H vs Q E hr h => ?_)
  · obtain ⟨p, ts, g, rfl, hl, q⟩ := h
    rfl
  · obtain ⟨p, ts, g, rfl, hl, q⟩ := h
    have nd := c_ascending.nd
    have hu : _ := hu_of hr
    refine ⟨_, (pss_cons (ps_if (pt_not (pt_val (pe_cl C_are_sites (hr.mono (by decide)) (by rfl) pass0 (pa_cons (pv 0) pa_nil)))) (pss_one ps_never) pss_nil) (pss_one (ps_ret (pe_callB cr_sortS (by rfl) msorted (by decide +kernel) (pa_cons (pv 0) pa_nil))))), ?_⟩
    repeat array_get_dec
    refine ⟨p, ts, g, rfl, hl, fun H1 s1 => ?_⟩
    repeat array_get_dec
    have hl1 := hl.same s1
    refine ⟨p, ts, g, rfl, SqL.of hl1.at_, fun t m => (hl1.sit t m).1, fun us p' H2 pm so s2 n2 e2 => ?_⟩
    have nod' : (us.map g).Nodup := (pm.map g).nodup_iff.mpr hl.nod
    refine q us p' H2 pm ?_ (s1.trans s2) ?_ ⟨e2, by rw [pm.length_eq]; exact hl.pos, by rw [pm.length_eq]; exact hl.few, (hl1.sit.same s2).sub fun u m => pm.mem_iff.mp m, nod'⟩
    · rw [List.pairwise_map]
      have := List.pairwise_map.mp nod'
      exact (so.and this).imp fun h => lt2_of h.1 h.2
    · cases e : H p' with
      | none => rfl
      | some o => rw [s1 _ _ e] at n2; cases n2
abbrev s_turn : Stmt := topS 19
abbrev n_turn : List Str := ["a", "b", "c"]
theorem c_turn : FnScope n_turn ["a", "b", "c"] (defScope s_turn) := ⟨rfl, rfl, rfl, by decide +kernel, rfl, by decide +kernel, by decide +kernel⟩
def p_turn : Sp := fun vs H Q _ => ∃ (a b c : Addr) (A B C : Pt), vs = [.ref a, .ref b, .ref c] ∧ Sit H a A.1 A.2 ∧ Sit H b B.1 B.2 ∧ Sit H c C.1 C.2 ∧ Bd 1000000 A.1 A.2 ∧ Bd 1000000 B.1 B.2 ∧ Bd 1000000 C.1 C.2 ∧ Q (.int (tn A B C)) H
set_option pp.maxSteps 300 in
theorem ok_turn  (D : Df K mg "turn" s_turn ["a", "b", "c"]) : Cl P w K mg base CX0 "turn" 1 ["a", "b", "c"] (p_turn) := by
  refine D.cl fun f fd F => F.ok c_turn (fun vs H Q E h => ?_) (fun cdv A outer s H vs Q E hr h => ?_)
  · obtain ⟨a, b, c, A, B, C, rfl, ha, hb, hc, ⟨a1, a2, a3, a4⟩, ⟨b1, b2, b3, b4⟩, ⟨c1, c2, c3, c4⟩, q⟩ := h
    rfl
  · obtain ⟨a, b, c, A, B, C, rfl, ha, hb, hc, ⟨a1, a2, a3, a4⟩, ⟨b1, b2, b3, b4⟩, ⟨c1, c2, c3, c4⟩, q⟩ := h
    have nd := c_turn.nd
    have hu : _ := hu_of hr
    refine ⟨_, (pss_one (ps_ret (pe_op op_sub (pe_op op_mulW (pe_op op_sub (pe_ix ix_tup (pv 1) pe_int (fun _ _ => rfl)) (pe_ix ix_tup (pv 0) pe_int (fun _ _ => rfl))) (pe_op op_sub (pe_ix ix_tup (pv 2) pe_int (fun _ _ => rfl)) (pe_ix ix_tup (pv 0) pe_int (fun _ _ => rfl)))) (pe_op op_mulW (pe_op op_sub (pe_ix ix_tup (pv 1) pe_int (fun _ _ => rfl)) (pe_ix ix_tup (pv 0) pe_int (fun _ _ => rfl))) (pe_op op_sub (pe_ix ix_tup (pv 2) pe_int (fun _ _ => rfl)) (pe_ix ix_tup (pv 0) pe_int (fun _ _ => rfl))))))), ?_⟩
    repeat array_get_dec
    exact q
end
/-! ### the chains of a hull -/
section
variable {P : Program} {w : World} {K : PySem.W.Frag} {mg : Str → Option Value} {base : Heap}
theorem Same.put {H H' : Hp} {p : Addr} {o : HO} (h : Same H H') (n : H p = none) : Same H (upd H' p o) := fun b x e => by
  rw [upd_ne (ne_of_none e n)]
  exact h b x e
def popA (f : Addr → Pt) (T : Sgt) (least : Int) (s : Addr) : List Addr → List Addr
  | b :: a :: r => if T (f a) (f b) (f s) < least then popA f T least s (a :: r) else b :: a :: r
  | l => l
theorem popA_map (f : Addr → Pt) (T : Sgt) (least : Int) (s : Addr) : ∀ st, (popA f T least s st).map f = popFG T least (f s) (st.map f)
  | [] => rfl
  | [_] => rfl
  | b :: a :: r => by
    rw [popA, List.map_cons, List.map_cons, popFG]
    split
    · exact popA_map f T least s (a :: r)
    · rfl
/-- a site that is not over the line is put on -/
def stepA (f : Addr → Pt) (T : Sgt) (least : Int) (p0 q : Pt) (st : List Addr) (s : Addr) : List Addr := if T p0 q (f s) ≤ 0 then s :: popA f T least s st else st
def stA (f : Addr → Pt) (T : Sgt) (least : Int) (p0 q : Pt) (ts : List Addr) : List Addr := ts.foldl (stepA f T least p0 q) []
theorem stA_map (f : Addr → Pt) (T : Sgt) (least : Int) (p0 q : Pt) (ts : List Addr) : (stA f T least p0 q ts).map f = stkG T least (part T p0 q (ts.map f)) := by
  have go : ∀ (ts st : List Addr), (ts.foldl (stepA f T least p0 q) st).map f = ((part T p0 q (ts.map f)).foldl (pushFG T least) (st.map f)) := by
    intro ts
    induction ts with
    | nil => intro st; rfl
    | cons t ts ih =>
      intro st
      rw [List.foldl_cons, ih, List.map_cons]
      unfold part
      by_cases h : T p0 q (f t) ≤ 0
      · rw [List.filter_cons_of_pos (by exact decide_eq_true h), List.foldl_cons, stepA, if_pos h, List.map_cons, popA_map]
        rfl
      · rw [List.filter_cons_of_neg (by simpa using h), stepA, if_neg h]
  exact go ts []
theorem stA_snoc (f : Addr → Pt) (T : Sgt) (least : Int) (p0 q : Pt) {ts : List Addr} {i : Nat} {t : Addr} (h : ts[i]? = some t) : stA f T least p0 q (ts.take (i + 1)) = stepA f T least p0 q (stA f T least p0 q (ts.take i)) t := by
  unfold stA
  rw [List.take_add_one, h, List.foldl_append]
  rfl
theorem popA_sub (f : Addr → Pt) (T : Sgt) (least : Int) (s : Addr) : ∀ st, ∀ x ∈ popA f T least s st, x ∈ st
  | [], _, h => h
  | [_], _, h => h
  | b :: a :: r, x, h => by
    rw [popA] at h
    split at h
    · exact List.mem_cons_of_mem _ (popA_sub f T least s (a :: r) x h)
    · exact h
theorem stA_sub (f : Addr → Pt) (T : Sgt) (least : Int) (p0 q : Pt) (ts : List Addr) : ∀ x ∈ stA f T least p0 q ts, x ∈ ts := by
  have go : ∀ (ts st : List Addr), ∀ x ∈ ts.foldl (stepA f T least p0 q) st, x ∈ ts ∨ x ∈ st := by
    intro ts
    induction ts with
    | nil => intro st x h; exact .inr h
    | cons t ts ih =>
      intro st x h
      rcases ih _ x h with m | m
      · exact .inl (List.mem_cons_of_mem _ m)
      · unfold stepA at m
        split at m
        · rcases List.mem_cons.mp m with rfl | m
          · exact .inl List.mem_cons_self
          · exact .inr (popA_sub f T least t st x m)
        · exact .inr m
  intro x h
  rcases go ts [] x h with m | m
  · exact m
  · cases m
theorem popA_len (f : Addr → Pt) (T : Sgt) (least : Int) (s : Addr) : ∀ st, (popA f T least s st).length ≤ st.length
  | [] => Nat.le_refl _
  | [_] => Nat.le_refl _
  | b :: a :: r => by
    rw [popA]
    split
    · exact Nat.le_trans (popA_len f T least s (a :: r)) (Nat.le_succ _)
    · exact Nat.le_refl _
theorem stA_len (f : Addr → Pt) (T : Sgt) (least : Int) (p0 q : Pt) (ts : List Addr) : (stA f T least p0 q ts).length ≤ ts.length := by
  have go : ∀ (ts st : List Addr), (ts.foldl (stepA f T least p0 q) st).length ≤ ts.length + st.length := by
    intro ts
    induction ts with
    | nil => intro st; simp
    | cons t ts ih =>
      intro st
      have := ih (stepA f T least p0 q st t)
      have h2 : (stepA f T least p0 q st t).length ≤ st.length + 1 := by
        unfold stepA
        split
        · have := popA_len f T least t st
          simp only [List.length_cons]
          omega
        · omega
      rw [List.foldl_cons, List.length_cons]
      omega
  have := go ts []
  rwa [List.length_nil, Nat.add_zero] at this
/-- the last two of a list -/
theorem last_two {b a : Addr} {r : List Addr} : atI (((b :: a :: r).reverse).map V.ref) (-1) = some (.ref b) ∧ atI (((b :: a :: r).reverse).map V.ref) (-2) = some (.ref a) := by
  have e : ((b :: a :: r).reverse).map V.ref = r.reverse.map V.ref ++ [V.ref a, V.ref b] := by simp
  rw [e]
  generalize r.reverse.map V.ref = xs
  have hl : (xs ++ [V.ref a, V.ref b]).length = xs.length + 2 := by simp
  have e1 : ixN (xs ++ [V.ref a, V.ref b]).length (-1) = some (xs.length + 1) := by
    unfold ixN
    rw [hl, if_neg (by decide), if_pos (by omega)]
    congr 1
    omega
  have e2 : ixN (xs ++ [V.ref a, V.ref b]).length (-2) = some xs.length := by
    unfold ixN
    rw [hl, if_neg (by decide), if_pos (by omega)]
    congr 1
    omega
  unfold atI
  rw [e1, e2]
  simp
theorem stepA_pos {f : Addr → Pt} {T : Sgt} {least : Int} {p0 q : Pt} {st : List Addr} {s : Addr} (h : T p0 q (f s) ≤ 0) : stepA f T least p0 q st s = s :: popA f T least s st := if_pos h
theorem stepA_neg {f : Addr → Pt} {T : Sgt} {least : Int} {p0 q : Pt} {st : List Addr} {s : Addr} (h : ¬ T p0 q (f s) ≤ 0) : stepA f T least p0 q st s = st := if_neg h
theorem put_top {t : Addr} {st : List Addr} : st.reverse.map V.ref ++ [V.ref t] = ((t :: st).reverse).map V.ref := by simp
theorem drop_top {b : Addr} {st : List Addr} : (((b :: st).reverse).map V.ref).dropLast = st.reverse.map V.ref := by
  rw [List.reverse_cons, List.map_append]
  exact List.dropLast_concat
theorem get_top {b : Addr} {st : List Addr} : (((b :: st).reverse).map V.ref)[(((b :: st).reverse).map V.ref).length - 1]? = some (V.ref b) := by
  rw [List.reverse_cons, List.map_append]
  simp
theorem headI {ts : List Addr} {t : Addr} (h : ts.head? = some t) : atI (ts.map V.ref) 0 = some (.ref t) := by
  cases ts with
  | nil => cases h
  | cons a ts =>
    cases h
    exact atI_nat (j := 0) rfl
theorem lastI {ts : List Addr} {t : Addr} (h : ts.getLast? = some t) : atI (ts.map V.ref) (-1) = some (.ref t) := by
  obtain ⟨ys, rfl⟩ := List.getLast?_eq_some_iff.mp h
  rw [List.map_append]
  exact atI_last _ _
abbrev s_chains_of : Stmt := topS 24
abbrev n_chains_of : List Str := ["rows", "least", "low", "high", "px", "py", "ux", "uy", "site", "x", "y", "area", "ax", "ay", "bx", "by"]
theorem c_chains_of : FnScope n_chains_of ["rows", "least"] (defScope s_chains_of) := ⟨rfl, rfl, rfl, by decide +kernel, rfl, by decide +kernel, by decide +kernel⟩
/-- the chains stand in two lists of their own -/
structure CS (H0 H : Hp) (l h : Addr) (a b : List Addr) : Prop where
  sm : Same H0 H
  el : H l = some (.lst (a.reverse.map V.ref))
  eh : H h = some (.lst (b.reverse.map V.ref))
def p_chains_of : Sp := fun vs H Q _ => ∃ (p : Addr) (least : Int) (ts : List Addr) (f : Addr → Int × Int) (p0 q : Pt), vs = [.ref p, .int least] ∧ Lot f H p ts ∧ least.natAbs ≤ 1 ∧ (ts.map f).head? = some p0 ∧ (ts.map f).getLast? = some q ∧
  ∀ T l h H', Same H H' → H' T = some (.tup [.ref l, .ref h]) → H l = none → H h = none → l ≠ h → H' l = some (.lst ((stA f tn least p0 q ts).reverse.map V.ref)) → H' h = some (.lst ((stA f tm least p0 q ts).reverse.map V.ref)) → Q (.ref T) H'
set_option pp.maxSteps 300 in
theorem ok_chains_of  (D : Df K mg "chains_of" s_chains_of ["rows", "least"]) (mlen : mg "len" = none) : Cl P w K mg base CX0 "chains_of" 1 ["rows", "least"] (p_chains_of) := by
  refine D.cl fun f fd F => F.ok c_chains_of (fun vs H Q E h => ?_) (fun cdv A outer s H vs Q E hr h => ?_)
  · obtain ⟨p, least, ts, g, p0, q0, rfl, hl, hle, h0, hq, q⟩ := h
    rfl
  · obtain ⟨p, least, ts, g, p0, q0, rfl, hl, hle, h0, hq, q⟩ := h
    have nd := c_chains_of.nd
    have hu : _ := hu_of hr
    refine ⟨_, (pss_cons (ps_par (i := 2) (j := 3) (by rfl) nd rfl rfl (by decide) rfl rfl (pa_cons (pe_lstG pa_nil) (pa_cons (pe_lstG pa_nil) pa_nil)) (by rfl)) (pss_cons (ps_asg (pe_ix ix_list (pv 0) pe_int (fun _ _ => rfl)) (pg_tup (by rfl) (pgs_cons (pg_name (i := 4) nd rfl (.inl rfl)) (pgs_cons (pg_name (i := 5) nd rfl (.inl rfl)) pgs_nil)))) (pss_cons (ps_par (i := 6) (j := 7) (by rfl) nd rfl rfl (by decide) rfl rfl (pa_cons (pe_op op_sub (pe_ix ix_tup (pe_ix ix_list (pv 0) pe_neg (fun _ _ => rfl)) pe_int (fun _ _ => rfl)) (pv 4)) (pa_cons (pe_op op_sub (pe_ix ix_tup (pe_ix ix_list (pv 0) pe_neg (fun _ _ => rfl)) pe_int (fun _ _ => rfl)) (pv 5)) pa_nil)) (by rfl)) (pss_cons (ps_for PassesOwn.never rfl (pi_list (pv 0)) (pg_name (i := 8) nd rfl (.inl rfl)) (pss_cons (ps_asg (pv 8) (pg_tup (by rfl) (pgs_cons (pg_name (i := 9) nd rfl (.inl rfl)) (pgs_cons (pg_name (i := 10) nd rfl (.inl rfl)) pgs_nil)))) (pss_cons (ps_set (i := 11) nd rfl (.inl rfl) (pe_op op_sub (pe_op op_mulW (pv 6) (pe_op op_sub (pv 10) (pv 5))) (pe_op op_mulW (pv 7) (pe_op op_sub (pv 9) (pv 4))))) (C8.pss_cut (ps_if (pt_cmpR op_le (pv 11) pe_int (nomark _)) (pss_cons (ps_while PassesOwn.never (pt_cmpR op_gt (pe_callB call_len_seq (by rfl) mlen (by decide +kernel) (pa_cons (pv 2) pa_nil)) pe_int (nomark _)) (pss_cons (ps_asg (pe_ix ix_list (pv 2) pe_neg (fun _ _ => rfl)) (pg_tup (by rfl) (pgs_cons (pg_name (i := 12) nd rfl (.inl rfl)) (pgs_cons (pg_name (i := 13) nd rfl (.inl rfl)) pgs_nil)))) (pss_cons (ps_asg (pe_ix ix_list (pv 2) pe_neg (fun _ _ => rfl)) (pg_tup (by rfl) (pgs_cons (pg_name (i := 14) nd rfl (.inl rfl)) (pgs_cons (pg_name (i := 15) nd rfl (.inl rfl)) pgs_nil)))) (pss_cons (ps_if (pt_cmpR op_ge (pe_op op_sub (pe_op op_mulW (pe_op op_sub (pv 14) (pv 12)) (pe_op op_sub (pv 10) (pv 13))) (pe_op op_mulW (pe_op op_sub (pv 15) (pv 13)) (pe_op op_sub (pv 9) (pv 12)))) (pv 1) (nomark _)) (pss_one ps_break) pss_nil) (pss_one (ps_expr (pe_bm0 PySem.F.plainAttrs_list PySem.F.slot_list_pop PySem.F.type_list_pop mt_pop (pv 2)))))))) (pss_one (ps_expr (pe_bm PySem.F.plainAttrs_list PySem.F.slot_list_append PySem.F.type_list_append mt_append (pv 2) (pa_cons (pv 8) pa_nil))))) pss_nil) (pss_one (ps_if (pt_cmpR op_ge (pv 11) pe_int (nomark _)) (pss_cons (ps_while PassesOwn.never (pt_cmpR op_gt (pe_callB call_len_seq (by rfl) mlen (by decide +kernel) (pa_cons (pv 3) pa_nil)) pe_int (nomark _)) (pss_cons (ps_asg (pe_ix ix_list (pv 3) pe_neg (fun _ _ => rfl)) (pg_tup (by rfl) (pgs_cons (pg_name (i := 12) nd rfl (.inl rfl)) (pgs_cons (pg_name (i := 13) nd rfl (.inl rfl)) pgs_nil)))) (pss_cons (ps_asg (pe_ix ix_list (pv 3) pe_neg (fun _ _ => rfl)) (pg_tup (by rfl) (pgs_cons (pg_name (i := 14) nd rfl (.inl rfl)) (pgs_cons (pg_name (i := 15) nd rfl (.inl rfl)) pgs_nil)))) (pss_cons (ps_if (pt_cmpR op_ge (pe_op op_sub (pe_op op_mulW (pe_op op_sub (pv 15) (pv 13)) (pe_op op_sub (pv 9) (pv 12))) (pe_op op_mulW (pe_op op_sub (pv 14) (pv 12)) (pe_op op_sub (pv 10) (pv 13)))) (pv 1) (nomark _)) (pss_one ps_break) pss_nil) (pss_one (ps_expr (pe_bm0 PySem.F.plainAttrs_list PySem.F.slot_list_pop PySem.F.type_list_pop mt_pop (pv 3)))))))) (pss_one (ps_expr (pe_bm PySem.F.plainAttrs_list PySem.F.slot_list_append PySem.F.type_list_append mt_append (pv 3) (pa_cons (pv 8) pa_nil))))) pss_nil)))))) (pss_one (ps_ret (pe_tupG (pa_cons (pv 2) (pa_cons (pv 3) pa_nil))))))))), ?_⟩
    have len : (ts.map V.ref).length = ts.length := List.length_map _
    obtain ⟨t0, e0, rfl⟩ : ∃ t0, ts.head? = some t0 ∧ g t0 = p0 := by
      rw [List.head?_map] at h0
      exact Option.map_eq_some_iff.mp h0
    obtain ⟨tz, ez, rfl⟩ : ∃ tz, ts.getLast? = some tz ∧ g tz = q0 := by
      rw [List.getLast?_map] at hq
      exact Option.map_eq_some_iff.mp hq
    have m0 := List.mem_of_head? e0
    have mz := List.mem_of_getLast? ez
    repeat array_get_dec
    refine fun l H1 s1 n1 e1 => ?_
    repeat array_get_dec
    refine fun h H2 s2 n2 e2 => ?_
    repeat array_get_dec
    refine ⟨p, _, 0, _, rfl, rfl, SqL.of (s2 _ _ (s1 _ _ hl.at_)), headI e0, ?_⟩
    have st0 := (hl.sit t0 m0).1
    have stz := (hl.sit tz mz).1
    obtain ⟨u1, u2, u3, u4⟩ := (hl.sit t0 m0).2
    obtain ⟨z1, z2, z3, z4⟩ := (hl.sit tz mz).2
    repeat array_get_dec
    refine ⟨p, _, -1, _, rfl, rfl, SqL.of (s2 _ _ (s1 _ _ hl.at_)), lastI ez, ?_⟩
    repeat array_get_dec
    refine ⟨p, _, -1, _, rfl, rfl, SqL.of (s2 _ _ (s1 _ _ hl.at_)), lastI ez, ?_⟩
    repeat array_get_dec
    have nl : H l = none := n1
    have nh : H h = none := s1.free n2
    have lh : l ≠ h := ne_of_none e1 n2
    have S2 := s1.trans s2
    refine ⟨⟨_, SqL.of (S2 _ _ hl.at_)⟩, for_list (K := K) (a := p) (xs := ts.map V.ref) (fun i σ' H' => (∃ y8 y9 y10 y11 y12 y13 y14 y15, σ' = [some (.ref p), some (.int least), some (.ref l), some (.ref h), some (.int (g t0).1), some (.int (g t0).2), some (.int ((g tz).1 - (g t0).1)), some (.int ((g tz).2 - (g t0).2)), y8, y9, y10, y11, y12, y13, y14, y15]) ∧ CS H H' l h (stA g tn least (g t0) (g tz) (ts.take i)) (stA g tm least (g t0) (g tz) (ts.take i))) ⟨⟨_, _, _, _, _, _, _, _, rfl⟩, ⟨S2, s2 _ _ e1, e2⟩⟩ (fun i σ' H' _ z => SqL.of (z.2.sm _ _ hl.at_)) (fun i x σ' H' hx z => ?_) fun σ' H' z => ?_⟩
    · obtain ⟨⟨y8, y9, y10, y11, y12, y13, y14, y15, rfl⟩, C⟩ := z
      obtain ⟨t, et, rfl, mt⟩ := ref_at hx
      have hst := C.sm _ _ (hl.sit t mt).1
      obtain ⟨b1, b2, b3, b4⟩ := (hl.sit t mt).2
      have ht3 : (ts.take i).length ≤ ts.length := by rw [List.length_take]; omega
      have lenL : (stA g tn least (g t0) (g tz) (ts.take i)).length < 64 := Nat.lt_of_le_of_lt (Nat.le_trans (stA_len _ _ _ _ _ _) ht3) hl.few
      have lenH : (stA g tm least (g t0) (g tz) (ts.take i)).length < 64 := Nat.lt_of_le_of_lt (Nat.le_trans (stA_len _ _ _ _ _ _) ht3) hl.few
      have subL : ∀ x ∈ stA g tn least (g t0) (g tz) (ts.take i), x ∈ ts := fun x hx => List.mem_of_mem_take (stA_sub _ _ _ _ _ _ x hx)
      have subH : ∀ x ∈ stA g tm least (g t0) (g tz) (ts.take i), x ∈ ts := fun x hx => List.mem_of_mem_take (stA_sub _ _ _ _ _ _ x hx)
      repeat array_get_dec
      refine ⟨fun σ1 Hd => (∃ y12 y13 y14 y15, σ1 = [some (.ref p), some (.int least), some (.ref l), some (.ref h), some (.int (g t0).1), some (.int (g t0).2), some (.int ((g tz).1 - (g t0).1)), some (.int ((g tz).2 - (g t0).2)), some (.ref t), some (.int (g t).1), some (.int (g t).2), some (.int (tn (g t0) (g tz) (g t))), y12, y13, y14, y15]) ∧ CS H Hd l h (stepA g tn least (g t0) (g tz) (stA g tn least (g t0) (g tz) (ts.take i)) t) (stA g tm least (g t0) (g tz) (ts.take i)), ?_, ?_⟩
      · repeat array_get_dec
        refine w_ifd (fun c => ?_) fun c => ?_
        · have c0 : tn (g t0) (g tz) (g t) ≤ 0 := c
          have few : (stA g tn least (g t0) (g tz) (ts.take i)).length < 64 := lenL
          refine ⟨fun m σ4 H4 => ∃ y12 y13 y14 y15 st, m = st.length ∧ σ4 = [some (.ref p), some (.int least), some (.ref l), some (.ref h), some (.int (g t0).1), some (.int (g t0).2), some (.int ((g tz).1 - (g t0).1)), some (.int ((g tz).2 - (g t0).2)), some (.ref t), some (.int (g t).1), some (.int (g t).2), some (.int (tn (g t0) (g tz) (g t))), y12, y13, y14, y15] ∧ CS H H4 l h st (stA g tm least (g t0) (g tz) (ts.take i)) ∧ popA g tn least t (stA g tn least (g t0) (g tz) (ts.take i)) = popA g tn least t st ∧ st.length ≤ (stA g tn least (g t0) (g tz) (ts.take i)).length ∧ ∀ x ∈ st, x ∈ ts, ⟨_, _, _, _, _, _, rfl, rfl, C, rfl, Nat.le_refl _, subL⟩, ?_⟩
          rintro m σ4 H4 ⟨y12, y13, y14, y15, st, rfl, rfl, C4, pe, le4, sub4⟩
          have eA4 := C4.el
          have lst : (st.reverse.map V.ref).length = st.length := by rw [List.length_map, List.length_reverse]
          repeat array_get_dec
          rcases st with _ | ⟨b, _ | ⟨a, r⟩⟩
          · refine w_itf (fun z => by have z : (1 : Int) < ((([] : List Addr).reverse.map V.ref).length : Nat) := z; rw [lst] at z; simp at z) ?_
            have ps : popA g tn least t (stA g tn least (g t0) (g tz) (ts.take i)) = [] := by rw [pe]; rfl
            refine ⟨_, rfl, .inl ⟨rfl, _, SqL.of eA4⟩, _, rfl, l, _, .ref t, rfl, rfl, eA4, by rw [List.length_map, List.length_reverse]; exact Nat.lt_of_le_of_lt le4 (Nat.lt_of_lt_of_le few (by decide)), ?_⟩
            refine ⟨⟨_, _, _, _, rfl⟩, ?_⟩
            rw [stepA_pos c0, ps]
            exact ⟨Same.put C4.sm nl, by rw [upd_same, put_top], by rw [upd_ne (Ne.symm lh)]; exact C4.eh⟩
          · refine w_itf (fun z => by have z : (1 : Int) < ((([b] : List Addr).reverse.map V.ref).length : Nat) := z; rw [lst] at z; simp at z) ?_
            have ps : popA g tn least t (stA g tn least (g t0) (g tz) (ts.take i)) = [b] := by rw [pe]; rfl
            refine ⟨_, rfl, .inl ⟨rfl, _, SqL.of eA4⟩, _, rfl, l, _, .ref t, rfl, rfl, eA4, by rw [List.length_map, List.length_reverse]; exact Nat.lt_of_le_of_lt le4 (Nat.lt_of_lt_of_le few (by decide)), ?_⟩
            refine ⟨⟨_, _, _, _, rfl⟩, ?_⟩
            rw [stepA_pos c0, ps]
            exact ⟨Same.put C4.sm nl, by rw [upd_same, put_top], by rw [upd_ne (Ne.symm lh)]; exact C4.eh⟩
          refine w_itt (by show (1 : Int) < (((b :: a :: r).reverse.map V.ref).length : Nat); rw [lst]; simp only [List.length_cons]; omega) ?_
          refine ⟨fun σ5 H5 => ∃ y12 y13 y14 y15, σ5 = [some (.ref p), some (.int least), some (.ref l), some (.ref h), some (.int (g t0).1), some (.int (g t0).2), some (.int ((g tz).1 - (g t0).1)), some (.int ((g tz).2 - (g t0).2)), some (.ref t), some (.int (g t).1), some (.int (g t).2), some (.int (tn (g t0) (g tz) (g t))), y12, y13, y14, y15] ∧ CS H H5 l h (a :: r) (stA g tm least (g t0) (g tz) (ts.take i)) ∧ popA g tn least t (stA g tn least (g t0) (g tz) (ts.take i)) = popA g tn least t (a :: r), ?_, ?_⟩
          · rintro σ5 H5 ⟨y12, y13, y14, y15, rfl, C5, pe5⟩
            exact ⟨_, Nat.lt_succ_self _, _, _, _, _, a :: r, rfl, rfl, C5, pe5, Nat.le_trans (Nat.le_succ _) le4, fun x hx => sub4 x (List.mem_cons_of_mem _ hx)⟩
          have ma := sub4 a (List.mem_cons_of_mem _ List.mem_cons_self)
          have mb := sub4 b List.mem_cons_self
          have sa := C4.sm _ _ (hl.sit a ma).1
          have sb := C4.sm _ _ (hl.sit b mb).1
          obtain ⟨a1, a2, a3, a4⟩ := (hl.sit a ma).2
          obtain ⟨b1, b2, b3, b4⟩ := (hl.sit b mb).2
          refine ⟨_, rfl, _, _, _, _, rfl, rfl, SqL.of eA4, last_two.2, ?_⟩
          repeat array_get_dec
          refine ⟨_, _, _, _, rfl, rfl, SqL.of eA4, last_two.1, ?_⟩
          repeat array_get_dec
          refine w_ifd (fun d => ?_) fun d => ?_
          · have d : least ≤ tn (g a) (g b) (g t) := d
            have ps : popA g tn least t (stA g tn least (g t0) (g tz) (ts.take i)) = (b :: a :: r) := by rw [pe]; rw [popA, if_neg (Int.not_lt.mpr d)]
            refine ⟨_, rfl, .inl ⟨rfl, _, SqL.of eA4⟩, _, rfl, l, _, .ref t, rfl, rfl, eA4, by rw [List.length_map, List.length_reverse]; exact Nat.lt_of_le_of_lt le4 (Nat.lt_of_lt_of_le few (by decide)), ?_⟩
            refine ⟨⟨_, _, _, _, rfl⟩, ?_⟩
            rw [stepA_pos c0, ps]
            exact ⟨Same.put C4.sm nl, by rw [upd_same, put_top], by rw [upd_ne (Ne.symm lh)]; exact C4.eh⟩
          · have d : tn (g a) (g b) (g t) < least := Int.not_le.mp d
            refine ⟨_, rfl, .inl ⟨rfl, _, SqL.of eA4⟩, l, _, .ref b, rfl, rfl, eA4, get_top, ?_⟩
            exact ⟨_, _, _, _, rfl, ⟨Same.put C4.sm nl, by rw [upd_same, drop_top], by rw [upd_ne (Ne.symm lh)]; exact C4.eh⟩, by rw [pe, popA, if_pos d]⟩
        · have c0 : ¬ tn (g t0) (g tz) (g t) ≤ 0 := c
          refine ⟨⟨_, _, _, _, rfl⟩, ?_⟩
          rw [stepA_neg c0]
          exact C
      · rintro σ1 Hd ⟨⟨y12, y13, y14, y15, rfl⟩, C1⟩
        repeat array_get_dec
        refine w_ifd (fun c => ?_) fun c => ?_
        · have c0 : tm (g t0) (g tz) (g t) ≤ 0 := by unfold tm; have c : 0 ≤ tn (g t0) (g tz) (g t) := c; omega
          have few : (stA g tm least (g t0) (g tz) (ts.take i)).length < 64 := lenH
          refine ⟨fun m σ4 H4 => ∃ y12 y13 y14 y15 st, m = st.length ∧ σ4 = [some (.ref p), some (.int least), some (.ref l), some (.ref h), some (.int (g t0).1), some (.int (g t0).2), some (.int ((g tz).1 - (g t0).1)), some (.int ((g tz).2 - (g t0).2)), some (.ref t), some (.int (g t).1), some (.int (g t).2), some (.int (tn (g t0) (g tz) (g t))), y12, y13, y14, y15] ∧ CS H H4 l h (stepA g tn least (g t0) (g tz) (stA g tn least (g t0) (g tz) (ts.take i)) t) st ∧ popA g tm least t (stA g tm least (g t0) (g tz) (ts.take i)) = popA g tm least t st ∧ st.length ≤ (stA g tm least (g t0) (g tz) (ts.take i)).length ∧ ∀ x ∈ st, x ∈ ts, ⟨_, _, _, _, _, _, rfl, rfl, C1, rfl, Nat.le_refl _, subH⟩, ?_⟩
          rintro m σ4 H4 ⟨y12, y13, y14, y15, st, rfl, rfl, C4, pe, le4, sub4⟩
          have eA4 := C4.eh
          have lst : (st.reverse.map V.ref).length = st.length := by rw [List.length_map, List.length_reverse]
          repeat array_get_dec
          rcases st with _ | ⟨b, _ | ⟨a, r⟩⟩
          · refine w_itf (fun z => by have z : (1 : Int) < ((([] : List Addr).reverse.map V.ref).length : Nat) := z; rw [lst] at z; simp at z) ?_
            have ps : popA g tm least t (stA g tm least (g t0) (g tz) (ts.take i)) = [] := by rw [pe]; rfl
            refine ⟨_, rfl, .inl ⟨rfl, _, SqL.of eA4⟩, _, rfl, h, _, .ref t, rfl, rfl, eA4, by rw [List.length_map, List.length_reverse]; exact Nat.lt_of_le_of_lt le4 (Nat.lt_of_lt_of_le few (by decide)), ?_⟩
            refine ⟨⟨_, _, _, _, _, _, _, _, rfl⟩, ?_⟩
            rw [stA_snoc _ _ _ _ _ et, stA_snoc _ _ _ _ _ et, stepA_pos c0, ps]
            exact ⟨Same.put C4.sm nh, by rw [upd_ne lh]; exact C4.el, by rw [upd_same, put_top]⟩
          · refine w_itf (fun z => by have z : (1 : Int) < ((([b] : List Addr).reverse.map V.ref).length : Nat) := z; rw [lst] at z; simp at z) ?_
            have ps : popA g tm least t (stA g tm least (g t0) (g tz) (ts.take i)) = [b] := by rw [pe]; rfl
            refine ⟨_, rfl, .inl ⟨rfl, _, SqL.of eA4⟩, _, rfl, h, _, .ref t, rfl, rfl, eA4, by rw [List.length_map, List.length_reverse]; exact Nat.lt_of_le_of_lt le4 (Nat.lt_of_lt_of_le few (by decide)), ?_⟩
            refine ⟨⟨_, _, _, _, _, _, _, _, rfl⟩, ?_⟩
            rw [stA_snoc _ _ _ _ _ et, stA_snoc _ _ _ _ _ et, stepA_pos c0, ps]
            exact ⟨Same.put C4.sm nh, by rw [upd_ne lh]; exact C4.el, by rw [upd_same, put_top]⟩
          refine w_itt (by show (1 : Int) < (((b :: a :: r).reverse.map V.ref).length : Nat); rw [lst]; simp only [List.length_cons]; omega) ?_
          refine ⟨fun σ5 H5 => ∃ y12 y13 y14 y15, σ5 = [some (.ref p), some (.int least), some (.ref l), some (.ref h), some (.int (g t0).1), some (.int (g t0).2), some (.int ((g tz).1 - (g t0).1)), some (.int ((g tz).2 - (g t0).2)), some (.ref t), some (.int (g t).1), some (.int (g t).2), some (.int (tn (g t0) (g tz) (g t))), y12, y13, y14, y15] ∧ CS H H5 l h (stepA g tn least (g t0) (g tz) (stA g tn least (g t0) (g tz) (ts.take i)) t) (a :: r) ∧ popA g tm least t (stA g tm least (g t0) (g tz) (ts.take i)) = popA g tm least t (a :: r), ?_, ?_⟩
          · rintro σ5 H5 ⟨y12, y13, y14, y15, rfl, C5, pe5⟩
            exact ⟨_, Nat.lt_succ_self _, _, _, _, _, a :: r, rfl, rfl, C5, pe5, Nat.le_trans (Nat.le_succ _) le4, fun x hx => sub4 x (List.mem_cons_of_mem _ hx)⟩
          have ma := sub4 a (List.mem_cons_of_mem _ List.mem_cons_self)
          have mb := sub4 b List.mem_cons_self
          have sa := C4.sm _ _ (hl.sit a ma).1
          have sb := C4.sm _ _ (hl.sit b mb).1
          obtain ⟨a1, a2, a3, a4⟩ := (hl.sit a ma).2
          obtain ⟨b1, b2, b3, b4⟩ := (hl.sit b mb).2
          refine ⟨_, rfl, _, _, _, _, rfl, rfl, SqL.of eA4, last_two.2, ?_⟩
          repeat array_get_dec
          refine ⟨_, _, _, _, rfl, rfl, SqL.of eA4, last_two.1, ?_⟩
          repeat array_get_dec
          refine w_ifd (fun d => ?_) fun d => ?_
          · have d : least ≤ tm (g a) (g b) (g t) := by unfold tm tn; have d : least ≤ ((g b).2 - (g a).2) * ((g t).1 - (g a).1) - ((g b).1 - (g a).1) * ((g t).2 - (g a).2) := d; omega
            have ps : popA g tm least t (stA g tm least (g t0) (g tz) (ts.take i)) = (b :: a :: r) := by rw [pe]; rw [popA, if_neg (Int.not_lt.mpr d)]
            refine ⟨_, rfl, .inl ⟨rfl, _, SqL.of eA4⟩, _, rfl, h, _, .ref t, rfl, rfl, eA4, by rw [List.length_map, List.length_reverse]; exact Nat.lt_of_le_of_lt le4 (Nat.lt_of_lt_of_le few (by decide)), ?_⟩
            refine ⟨⟨_, _, _, _, _, _, _, _, rfl⟩, ?_⟩
            rw [stA_snoc _ _ _ _ _ et, stA_snoc _ _ _ _ _ et, stepA_pos c0, ps]
            exact ⟨Same.put C4.sm nh, by rw [upd_ne lh]; exact C4.el, by rw [upd_same, put_top]⟩
          · have d : tm (g a) (g b) (g t) < least := by unfold tm tn; have d : ¬ least ≤ ((g b).2 - (g a).2) * ((g t).1 - (g a).1) - ((g b).1 - (g a).1) * ((g t).2 - (g a).2) := d; omega
            refine ⟨_, rfl, .inl ⟨rfl, _, SqL.of eA4⟩, h, _, .ref b, rfl, rfl, eA4, get_top, ?_⟩
            exact ⟨_, _, _, _, rfl, ⟨Same.put C4.sm nh, by rw [upd_ne lh]; exact C4.el, by rw [upd_same, drop_top]⟩, by rw [pe, popA, if_pos d]⟩
        · have c0 : ¬ tm (g t0) (g tz) (g t) ≤ 0 := by unfold tm; have c : ¬ 0 ≤ tn (g t0) (g tz) (g t) := c; omega
          refine ⟨⟨_, _, _, _, _, _, _, _, rfl⟩, ?_⟩
          rw [stA_snoc _ _ _ _ _ et, stA_snoc _ _ _ _ _ et, stepA_neg c0]
          exact C1
    · obtain ⟨⟨y8, y9, y10, y11, y12, y13, y14, y15, rfl⟩, C⟩ := z
      rw [len, List.take_length] at C
      repeat array_get_dec
      exact fun T HT sT nT eT => q T l h HT (Same.trans C.sm sT) eT nl nh lh (sT _ _ C.el) (sT _ _ C.eh)
end
/-! ### border and corners -/
section
variable {P : Program} {w : World} {K : PySem.W.Frag} {mg : Str → Option Value} {base : Heap}
theorem inner_map {α β : Type} (f : α → β) (l : List α) : (inner l).map f = inner (l.map f) := by
  unfold inner
  rw [List.map_reverse, List.map_dropLast, List.map_drop]
theorem inner_mem {α : Type} {l : List α} {x : α} (h : x ∈ inner l) : x ∈ l := List.mem_of_mem_drop (List.dropLast_subset _ (List.mem_reverse.mp h))
/-- both chains, joined -/
def joinA (f : Addr → Pt) (least : Int) (p0 q : Pt) (ts : List Addr) : List Addr := (stA f tn least p0 q ts).reverse ++ inner (stA f tm least p0 q ts).reverse
theorem joinA_mem {f : Addr → Pt} {least : Int} {p0 q : Pt} {ts : List Addr} : ∀ x ∈ joinA f least p0 q ts, x ∈ ts := fun x h => by
  rcases List.mem_append.mp h with m | m
  · exact stA_sub _ _ _ _ _ _ _ (List.mem_reverse.mp m)
  · exact stA_sub _ _ _ _ _ _ _ (List.mem_reverse.mp (inner_mem m))
theorem joinA_len {f : Addr → Pt} {least : Int} {p0 q : Pt} {ts : List Addr} : (joinA f least p0 q ts).length ≤ 2 * ts.length := by
  have h1 := stA_len f tn least p0 q ts
  have h2 := stA_len f tm least p0 q ts
  have h3 := (picks_inner.len) (((stA f tm least p0 q ts).reverse).map V.ref)
  rw [← inner_map, List.length_map, List.length_map, List.length_reverse] at h3
  unfold joinA
  rw [List.length_append, List.length_reverse]
  omega
theorem joinA_bord {f : Addr → Pt} {p0 q : Pt} {ts : List Addr} : (joinA f 0 p0 q ts).map f = bordN p0 q (ts.map f) := by
  unfold joinA bordN
  rw [List.map_append, inner_map, List.map_reverse, List.map_reverse, stA_map, stA_map]
  rfl
theorem joinA_corn {f : Addr → Pt} {p0 q : Pt} {ts : List Addr} : (joinA f 1 p0 q ts).map f = cornN p0 q (ts.map f) := by
  unfold joinA cornN
  rw [List.map_append, inner_map, List.map_reverse, List.map_reverse, stA_map, stA_map]
  rfl
/-- in a row none goes -/
theorem stA_row {f : Addr → Pt} {T : Sgt} {p0 q : Pt} {ts : List Addr} (h : ∀ a ∈ ts, ∀ b ∈ ts, ∀ c ∈ ts, T (f a) (f b) (f c) = 0) (h0 : ∀ a ∈ ts, T p0 q (f a) = 0) : stA f T 0 p0 q ts = ts.reverse := by
  have go : ∀ (us st : List Addr), (∀ x ∈ us, x ∈ ts) → (∀ x ∈ st, x ∈ ts) → us.foldl (stepA f T 0 p0 q) st = us.reverse ++ st := by
    intro us
    induction us with
    | nil => intro st _ _; rfl
    | cons u us ih =>
      intro st hu hs
      have mu := hu u List.mem_cons_self
      have pp : popA f T 0 u st = st := by
        match st, hs with
        | [], _ => rfl
        | [_], _ => rfl
        | b :: a :: r, hs => rw [popA, h a (hs a (by simp)) b (hs b (by simp)) u mu, if_neg (by decide)]
      rw [List.foldl_cons, stepA_pos (Int.le_of_eq (h0 u mu)), pp, ih (u :: st) (fun x m => hu x (List.mem_cons_of_mem _ m)) (fun x m => by
        rcases List.mem_cons.mp m with rfl | m
        · exact mu
        · exact hs x m), List.reverse_cons, List.append_assoc]
      rfl
  have := go ts [] (fun _ m => m) (fun _ m => by cases m)
  rwa [List.append_nil] at this
/-- if none goes, all are on the line of the ends -/
theorem stA_full {f : Addr → Pt} {T : Sgt} {p0 q : Pt} {ts : List Addr} (h : (stA f T 0 p0 q ts).length = ts.length) : ∀ a ∈ ts, T p0 q (f a) ≤ 0 := by
  have go : ∀ (us st : List Addr), (us.foldl (stepA f T 0 p0 q) st).length ≤ us.length + st.length ∧ ((us.foldl (stepA f T 0 p0 q) st).length = us.length + st.length → ∀ a ∈ us, T p0 q (f a) ≤ 0) := by
    intro us
    induction us with
    | nil => intro st; exact ⟨by simp, fun _ a m => by cases m⟩
    | cons u us ih =>
      intro st
      rw [List.foldl_cons, List.length_cons]
      have k := ih (stepA f T 0 p0 q st u)
      by_cases c : T p0 q (f u) ≤ 0
      · rw [stepA_pos c] at k ⊢
        have := popA_len f T 0 u st
        rw [List.length_cons] at k
        refine ⟨by omega, fun e a m => ?_⟩
        rcases List.mem_cons.mp m with rfl | m
        · exact c
        · exact k.2 (by omega) a m
      · rw [stepA_neg c] at k ⊢
        exact ⟨by omega, fun e => by omega⟩
  have := (go ts []).2
  rw [List.length_nil, Nat.add_zero] at this
  exact this h
theorem row_ts {f : Addr → Pt} {ts : List Addr} : Row (ts.map f) ↔ ∀ a ∈ ts, ∀ b ∈ ts, ∀ c ∈ ts, tn (f a) (f b) (f c) = 0 := by
  constructor
  · exact fun h a ha b hb c hc => h _ (List.mem_map_of_mem ha) _ (List.mem_map_of_mem hb) _ (List.mem_map_of_mem hc)
  · intro h a ha b hb c hc
    obtain ⟨a', ha', rfl⟩ := List.mem_map.mp ha
    obtain ⟨b', hb', rfl⟩ := List.mem_map.mp hb
    obtain ⟨c', hc', rfl⟩ := List.mem_map.mp hc
    exact h a' ha' b' hb' c' hc'
/-- rows in order: their ends -/
structure Ends2 (rows : List Pt) (p0 q : Pt) : Prop where
  so : rows.Pairwise lt2
  h0 : rows.head? = some p0
  hq : rows.getLast? = some q
theorem full_row {f : Addr → Pt} {p0 q : Pt} {ts : List Addr} (e : Ends2 (ts.map f) p0 q) : Row (ts.map f) ↔ (stA f tn 0 p0 q ts).length = ts.length ∧ (stA f tm 0 p0 q ts).length = ts.length := by
  constructor
  · intro r
    have r2 := row_ts.mp r
    have z := (row_iff e.so e.h0 e.hq).mp r
    rw [stA_row r2 fun a m => z _ (List.mem_map_of_mem m), stA_row (fun a ha b hb c hc => tm_zero (r2 a ha b hb c hc)) fun a m => tm_zero (z _ (List.mem_map_of_mem m))]
    simp
  · intro ⟨a, b⟩
    refine (row_iff e.so e.h0 e.hq).mpr fun p hp => ?_
    obtain ⟨t, m, rfl⟩ := List.mem_map.mp hp
    have h1 := stA_full a t m
    have h2 := stA_full b t m
    unfold tm at h2
    omega
abbrev s_border_of : Stmt := topS 25
abbrev n_border_of : List Str := ["rows", "low", "high"]
theorem c_border_of : FnScope n_border_of ["rows"] (defScope s_border_of) := ⟨rfl, rfl, rfl, by decide +kernel, rfl, by decide +kernel, by decide +kernel⟩
/-- a new list of some of the sites -/
def Tells (f : Addr → Pt) (ts : List Addr) (out : List Pt) (H : Hp) (Q : V → Hp → Prop) : Prop := ∀ (us : List Addr) (b : Addr) (H' : Hp), Same H H' → H b = none → H' b = some (.lst (us.map V.ref)) → us.map f = out → (∀ u ∈ us, u ∈ ts) → Q (.ref b) H'
def p_border_of : Sp := fun vs H Q _ => ∃ (p : Addr) (ts : List Addr) (f : Addr → Int × Int) (p0 q : Pt) (out : List Pt), vs = [.ref p] ∧ Lot f H p ts ∧ Ends2 (ts.map f) p0 q ∧ Brd p0 q (ts.map f) out ∧ Tells f ts out H Q
set_option pp.maxSteps 300 in
theorem ok_border_of  (D : Df K mg "border_of" s_border_of ["rows"]) (C_chains_of : Cl P w K mg base CX0 "chains_of" 1 ["rows", "least"] (p_chains_of)) (mlen : mg "len" = none) : Cl P w K mg base CX0 "border_of" 2 ["rows"] (p_border_of) := by
  refine D.cl fun f fd F => F.ok c_border_of (fun vs H Q E h => ?_) (fun cdv A outer s H vs Q E hr h => ?_)
  · obtain ⟨p, ts, g, p0, q0, out, rfl, hl, he, hb, q⟩ := h
    rfl
  · obtain ⟨p, ts, g, p0, q0, out, rfl, hl, he, hb, q⟩ := h
    have nd := c_border_of.nd
    have hu : _ := hu_of hr
    refine ⟨_, (pss_cons (ps_asg (pe_cl C_chains_of (hr.mono (by decide)) (by rfl) pass0 (pa_cons (pv 0) (pa_cons pe_int pa_nil))) (pg_tup (by rfl) (pgs_cons (pg_name (i := 1) nd rfl (.inl rfl)) (pgs_cons (pg_name (i := 2) nd rfl (.inl rfl)) pgs_nil)))) (pss_cons (ps_if (pt_chain op_eq op_eq (pe_callB call_len_seq (by rfl) mlen (by decide +kernel) (pa_cons (pv 1) pa_nil)) (pe_callB call_len_seq (by rfl) mlen (by decide +kernel) (pa_cons (pv 2) pa_nil)) (pe_callB call_len_seq (by rfl) mlen (by decide +kernel) (pa_cons (pv 0) pa_nil))) (pss_one (ps_ret (pv 1))) pss_nil) (pss_one (ps_ret (pe_op op_catG (pv 1) (pe_slB picks_inner (pv 2) (po_some pe_neg) (fun _ _ _ h => ⟨_, rfl, h⟩) (po_some pe_int) (fun _ _ _ h => ⟨_, rfl, h⟩))))))), ?_⟩
    repeat array_get_dec
    refine ⟨p, 0, ts, g, p0, q0, rfl, hl, by decide, he.h0, he.hq, fun T l h H1 s1 eT nl nh lh el eh => ?_⟩
    repeat array_get_dec
    have lenL : ((stA g tn 0 p0 q0 ts).reverse.map V.ref).length = (stA g tn 0 p0 q0 ts).length := by rw [List.length_map, List.length_reverse]
    have lenH : ((stA g tm 0 p0 q0 ts).reverse.map V.ref).length = (stA g tm 0 p0 q0 ts).length := by rw [List.length_map, List.length_reverse]
    have lenR : (ts.map V.ref).length = ts.length := List.length_map _
    have fr := full_row he
    by_cases row : Row (ts.map g)
    · obtain ⟨k1, k2⟩ := fr.mp row
      rw [lenL, lenH, if_pos (by rw [k1, k2]; exact decide_eq_true rfl)]
      repeat array_get_dec
      refine ⟨p, _, rfl, .inl (SqL.of (s1 _ _ hl.at_)), ?_⟩
      repeat array_get_dec
      repeat array_get_dec
      refine q _ _ _ s1 nl el ?_ fun u m => stA_sub _ _ _ _ _ _ _ (List.mem_reverse.mp m)
      rw [hb.1 row, stA_row (row_ts.mp row) fun a m => (row_iff he.so he.h0 he.hq).mp row _ (List.mem_map_of_mem m), List.reverse_reverse]
    · have out1 : (joinA g 0 p0 q0 ts).map g = out := by rw [hb.2 row]; exact joinA_bord
      rw [lenL, lenH]
      by_cases c1 : (stA g tn 0 p0 q0 ts).length = (stA g tm 0 p0 q0 ts).length
      · rw [if_pos (by rw [c1]; exact decide_eq_true rfl)]
        repeat array_get_dec
        refine ⟨p, _, rfl, .inl (SqL.of (s1 _ _ hl.at_)), ?_⟩
        repeat array_get_dec
        have c2 : (stA g tm 0 p0 q0 ts).length ≠ ts.length := fun z => row (fr.mpr ⟨c1.trans z, z⟩)
        rw [lenR]
        refine w_itf (p := V.int ((stA g tm 0 p0 q0 ts).length : Nat) = V.int (ts.length : Nat)) (fun z => c2 (by injection z with this; omega)) ?_
        repeat array_get_dec
        refine ⟨h, _, rfl, SqL.of eh, fun a2 H2 s2 n2 e2 => ?_⟩
        refine ⟨l, a2, _, _, rfl, rfl, s2 _ _ el, e2, Nat.le_trans (Nat.add_le_add (by rw [lenL]; exact stA_len _ _ _ _ _ _) (Nat.le_trans (picks_inner.len _) (by rw [lenH]; exact stA_len _ _ _ _ _ _))) (Nat.le_trans (Nat.add_le_add (Nat.le_of_lt hl.few) (Nat.le_of_lt hl.few)) (by decide)), fun b H3 s3 n3 e3 => ?_⟩
        have e4 : H3 b = some (.lst ((joinA g 0 p0 q0 ts).map V.ref)) := by rw [e3, ← inner_map, ← List.map_append]; rfl
        exact q _ _ _ (s1.trans (s2.trans s3)) (s1.free (s2.free n3)) e4 out1 joinA_mem
      · rw [if_neg fun z => c1 (by have := of_decide_eq_true z; injection this with this; omega)]
        repeat array_get_dec
        refine ⟨h, _, rfl, SqL.of eh, fun a2 H2 s2 n2 e2 => ?_⟩
        refine ⟨l, a2, _, _, rfl, rfl, s2 _ _ el, e2, Nat.le_trans (Nat.add_le_add (by rw [lenL]; exact stA_len _ _ _ _ _ _) (Nat.le_trans (picks_inner.len _) (by rw [lenH]; exact stA_len _ _ _ _ _ _))) (Nat.le_trans (Nat.add_le_add (Nat.le_of_lt hl.few) (Nat.le_of_lt hl.few)) (by decide)), fun b H3 s3 n3 e3 => ?_⟩
        have e4 : H3 b = some (.lst ((joinA g 0 p0 q0 ts).map V.ref)) := by rw [e3, ← inner_map, ← List.map_append]; rfl
        exact q _ _ _ (s1.trans (s2.trans s3)) (s1.free (s2.free n3)) e4 out1 joinA_mem
abbrev s_corners_of : Stmt := topS 26
abbrev n_corners_of : List Str := ["rows", "low", "high"]
theorem c_corners_of : FnScope n_corners_of ["rows"] (defScope s_corners_of) := ⟨rfl, rfl, rfl, by decide +kernel, rfl, by decide +kernel, by decide +kernel⟩
def p_corners_of : Sp := fun vs H Q _ => ∃ (p : Addr) (ts : List Addr) (f : Addr → Int × Int) (p0 q : Pt), vs = [.ref p] ∧ Lot f H p ts ∧ Ends2 (ts.map f) p0 q ∧ Tells f ts (cornN p0 q (ts.map f)) H Q
set_option pp.maxSteps 300 in
theorem ok_corners_of  (D : Df K mg "corners_of" s_corners_of ["rows"]) (C_chains_of : Cl P w K mg base CX0 "chains_of" 1 ["rows", "least"] (p_chains_of)) : Cl P w K mg base CX0 "corners_of" 2 ["rows"] (p_corners_of) := by
  refine D.cl fun f fd F => F.ok c_corners_of (fun vs H Q E h => ?_) (fun cdv A outer s H vs Q E hr h => ?_)
  · obtain ⟨p, ts, g, p0, q0, rfl, hl, he, q⟩ := h
    rfl
  · obtain ⟨p, ts, g, p0, q0, rfl, hl, he, q⟩ := h
    have nd := c_corners_of.nd
    have hu : _ := hu_of hr
    refine ⟨_, (pss_cons (ps_asg (pe_cl C_chains_of (hr.mono (by decide)) (by rfl) pass0 (pa_cons (pv 0) (pa_cons pe_int pa_nil))) (pg_tup (by rfl) (pgs_cons (pg_name (i := 1) nd rfl (.inl rfl)) (pgs_cons (pg_name (i := 2) nd rfl (.inl rfl)) pgs_nil)))) (pss_one (ps_ret (pe_op op_catG (pv 1) (pe_slB picks_inner (pv 2) (po_some pe_neg) (fun _ _ _ h => ⟨_, rfl, h⟩) (po_some pe_int) (fun _ _ _ h => ⟨_, rfl, h⟩)))))), ?_⟩
    repeat array_get_dec
    refine ⟨p, 1, ts, g, p0, q0, rfl, hl, by decide, he.h0, he.hq, fun T l h H1 s1 eT nl nh lh el eh => ?_⟩
    repeat array_get_dec
    have lenL : ((stA g tn 1 p0 q0 ts).reverse.map V.ref).length = (stA g tn 1 p0 q0 ts).length := by rw [List.length_map, List.length_reverse]
    have lenH : ((stA g tm 1 p0 q0 ts).reverse.map V.ref).length = (stA g tm 1 p0 q0 ts).length := by rw [List.length_map, List.length_reverse]
    repeat array_get_dec
    refine ⟨h, _, rfl, SqL.of eh, fun a2 H2 s2 n2 e2 => ?_⟩
    refine ⟨l, a2, _, _, rfl, rfl, s2 _ _ el, e2, Nat.le_trans (Nat.add_le_add (by rw [lenL]; exact stA_len _ _ _ _ _ _) (Nat.le_trans (picks_inner.len _) (by rw [lenH]; exact stA_len _ _ _ _ _ _))) (Nat.le_trans (Nat.add_le_add (Nat.le_of_lt hl.few) (Nat.le_of_lt hl.few)) (by decide)), fun b H3 s3 n3 e3 => ?_⟩
    have e4 : H3 b = some (.lst ((joinA g 1 p0 q0 ts).map V.ref)) := by rw [e3, ← inner_map, ← List.map_append]; rfl
    exact q _ _ _ (s1.trans (s2.trans s3)) (s1.free (s2.free n3)) e4 joinA_corn joinA_mem
end
/-! ### areas, rows, places -/
section
variable {P : Program} {w : World} {K : PySem.W.Frag} {mg : Str → Option Value} {base : Heap}
/-- a list of sites, one at least -/
structure Pts (f : Addr → Pt) (H : Hp) (p : Addr) (us : List Addr) : Prop where
  at_ : H p = some (.lst (us.map V.ref))
  pos : 0 < us.length
  few : us.length < 200
  sit : SitF f H us
theorem Pts.same {f : Addr → Int × Int} {H H' : Hp} {p : Addr} {ts : List Addr} (h : Pts f H p ts) (s : Same H H') : Pts f H' p ts := ⟨s _ _ h.at_, h.pos, h.few, h.sit.same s⟩
theorem cut_from {xs : List V} {n : Nat} (h : n ≤ xs.length) : cutV xs (some (n : Int)) none = xs.drop n := by
  unfold cutV
  rw [HT.sIx_nat, HT.sIx_none, Nat.min_eq_left h]
  exact List.take_of_length_le (by rw [List.length_drop]; omega)
theorem cut_to {xs : List V} {n : Nat} (h : n ≤ xs.length) : cutV xs none (some (n : Int)) = xs.take n := by
  unfold cutV
  rw [HT.sIx_nat, HT.sIx_none, Nat.min_eq_left h]
  rfl
theorem cut_1 {xs : List V} (h : 1 ≤ xs.length) : cutV xs (some 1) none = xs.drop 1 := cut_from (n := 1) h
/-- both of a pair of neighbours -/
theorem nb_at {us vs : List Addr} {i : Nat} {x z : V} (h1 : (us.map V.ref)[i]? = some x) (h2 : (vs.map V.ref)[i]? = some z) : ∃ a b, us[i]? = some a ∧ vs[i]? = some b ∧ x = .ref a ∧ z = .ref b ∧ a ∈ us ∧ b ∈ vs := by
  obtain ⟨a, ea, rfl, ma⟩ := ref_at h1
  obtain ⟨b, eb, rfl, mb⟩ := ref_at h2
  exact ⟨a, b, ea, eb, rfl, rfl, ma, mb⟩
theorem fan_sum (f : Pt) : ∀ l : List Pt, (List.zipWith (tn f) l (l.drop 1)).sum = fan f l
  | [] => rfl
  | [_] => rfl
  | a :: b :: r => by
    have := fan_sum f (b :: r)
    show (tn f a b :: List.zipWith (tn f) (b :: r) ((b :: r).drop 1)).sum = tn f a b + fan f (b :: r)
    rw [List.sum_cons, this]
theorem head_ts {f : Addr → Pt} {ts : List Addr} {p0 : Pt} (h0 : (ts.map f).head? = some p0) : ∃ t, ts.head? = some t ∧ f t = p0 ∧ t ∈ ts := by
  rw [List.head?_map] at h0
  obtain ⟨t, e, e2⟩ := Option.map_eq_some_iff.mp h0
  exact ⟨t, e, e2, List.mem_of_head? e⟩
theorem last_ts {f : Addr → Pt} {ts : List Addr} {p0 : Pt} (h0 : (ts.map f).getLast? = some p0) : ∃ t, ts.getLast? = some t ∧ f t = p0 ∧ t ∈ ts := by
  rw [List.getLast?_map] at h0
  obtain ⟨t, e, e2⟩ := Option.map_eq_some_iff.mp h0
  exact ⟨t, e, e2, List.mem_of_getLast? e⟩
abbrev s_double_area_of : Stmt := topS 27
abbrev n_double_area_of : List Str := ["corners", "first", "a", "b"]
theorem c_double_area_of : FnScope n_double_area_of ["corners"] (defScope s_double_area_of) := ⟨rfl, rfl, rfl, by decide +kernel, rfl, by decide +kernel, by decide +kernel⟩
def p_double_area_of : Sp := fun vs H Q _ => ∃ (p : Addr) (us : List Addr) (f : Addr → Int × Int) (p0 : Pt), vs = [.ref p] ∧ Pts f H p us ∧ (us.map f).head? = some p0 ∧ ∀ H', Same H H' → Q (.int (fan p0 (us.map f))) H'
set_option pp.maxSteps 300 in
theorem ok_double_area_of  (D : Df K mg "double_area_of" s_double_area_of ["corners"]) (C_turn : Cl P w K mg base CX0 "turn" 1 ["a", "b", "c"] (p_turn)) (msum : mg "sum" = none) (mzip : mg "zip" = none) : Cl P w K mg base CX0 "double_area_of" 2 ["corners"] (p_double_area_of) := by
  refine D.cl fun f fd F => F.ok c_double_area_of (fun vs H Q E h => ?_) (fun cdv A outer s H vs Q E hr h => ?_)
  · obtain ⟨p, us, g, p0, rfl, hl, h0, q⟩ := h
    rfl
  · obtain ⟨p, us, g, p0, rfl, hl, h0, q⟩ := h
    have nd := c_double_area_of.nd
    have hu : _ := hu_of hr
    refine ⟨_, (pss_cons (ps_set (i := 1) nd rfl (.inr rfl) (pe_ix ix_list (pv 0) pe_int (fun _ _ => rfl))) (pss_one (ps_ret (pe_callB (id := "sum") (r := rSum K) (by exact (cr_sum rfl)) (by rfl) msum (by decide +kernel) (pa_cons (pe_lc (own := [("a", 2), ("b", 3)]) (g := (gTup K 2 (gCons (gName 2) (gCons (gName 3) gNil)))) (tt := tYes)  rfl nd (pi_zip (by rfl) mzip (pa_cons (pv 0) (pa_cons (pe_slice sl_listG (pv 0) (po_some pe_int) po_none) pa_nil))) (blkOk_by (own := [("a", 2), ("b", 3)]) (N := n_double_area_of) (sc := defScope s_double_area_of) (by decide +kernel)) (fun _ _ _ _ _ => by exact (pg_tup (by rfl) (pgs_cons (pg_name (i := 2) nd rfl (.inl rfl)) (pgs_cons (pg_name (i := 3) nd rfl (.inl rfl)) pgs_nil)))) (fun _ _ _ _ _ => by exact pts_nil) (fun _ _ _ _ _ => by exact (pe_cl C_turn (hr.mono (by decide)) (by rfl) pass0 (pa_cons (pv 1) (pa_cons (pv 2) (pa_cons (pv 3) pa_nil)))))) pa_nil))))), ?_⟩
    obtain ⟨t0, e0, rfl, m0⟩ := head_ts h0
    have lus : (us.map V.ref).length = us.length := List.length_map _
    have hpos := hl.pos
    have hfew := hl.few
    repeat array_get_dec
    refine ⟨p, _, 0, _, rfl, rfl, SqL.of hl.at_, headI e0, ?_⟩
    repeat array_get_dec
    refine ⟨p, _, rfl, SqL.of hl.at_, fun q1 H1 s1 n1 e1 => ?_⟩
    rw [cut_1 (by omega), ← List.map_drop] at e1
    have hl1 := hl.same s1
    have hn : us.length - 1 = min (us.map V.ref).length ((us.drop 1).map V.ref).length := by
      rw [List.length_map, List.length_map, List.length_drop]
      omega
    refine ⟨p, q1, us.map V.ref, (us.drop 1).map V.ref, rfl, SqL.of hl1.at_, SqL.of e1, fun D nD => ?_⟩
    refine lc_val (walk_zip hn) nD (by omega) (fun H2 s2 => ⟨SqL.of (s2 _ _ hl1.at_), SqL.of (s2 _ _ e1)⟩) ((List.zipWith (tn (g t0)) (us.map g) ((us.map g).drop 1)).map V.int) (by rw [List.length_map, List.length_zipWith, List.length_drop, List.length_map]; omega) (fun i x y H2 H3 Kp hy s2 eD yi fin => ?_) fun H2 s2 eD => ?_
    · obtain ⟨T, x1, x2, rfl, nT, rfl, h1, h2⟩ := yi
      obtain ⟨a, b, ea, eb, rfl, rfl, ma, mb⟩ := nb_at h1 h2
      have hl3 := (hl1.same s2).same (Same.upd nT (o := .tup [V.ref a, V.ref b]))
      have mb := List.mem_of_mem_drop mb
      have z1 := hl3.sit t0 m0
      have z2 := hl3.sit a ma
      have z3 := hl3.sit b mb
      refine ⟨T, _, rfl, SqT.of upd_same, rfl, ?_⟩
      repeat array_get_dec
      refine ⟨t0, a, b, g t0, g a, g b, rfl, z1.1, z2.1, z3.1, z1.2, z2.2, z3.2, ?_⟩
      have ey : y = .int (tn (g t0) (g a) (g b)) := by
        rw [List.getElem?_map, List.getElem?_zipWith, List.getElem?_map, List.getElem?_drop, List.getElem?_map, ea] at hy
        rw [List.getElem?_drop] at eb
        rw [eb] at hy
        exact (Option.some.inj hy).symm
      rw [← ey]
      exact fin _ (Same.upd nT)
    · repeat array_get_dec
      refine ⟨D, _, rfl, SqL.of eD, ?_⟩
      rw [fan_sum]
      exact q _ (s1.trans s2)
abbrev s_is_row : Stmt := topS 23
abbrev n_is_row : List Str := ["rows", "site"]
theorem c_is_row : FnScope n_is_row ["rows"] (defScope s_is_row) := ⟨rfl, rfl, rfl, by decide +kernel, rfl, by decide +kernel, by decide +kernel⟩
def p_is_row : Sp := fun vs H Q _ => ∃ (p : Addr) (ts : List Addr) (f : Addr → Int × Int) (p0 q : Pt), vs = [.ref p] ∧ Lot f H p ts ∧ Ends2 (ts.map f) p0 q ∧ ∀ H' b, Same H H' → (b = true ↔ Row (ts.map f)) → Q (.bl b) H'
set_option pp.maxSteps 300 in
theorem ok_is_row  (D : Df K mg "is_row" s_is_row ["rows"]) (C_turn : Cl P w K mg base CX0 "turn" 1 ["a", "b", "c"] (p_turn)) (mall : mg "all" = none) : Cl P w K mg base CX0 "is_row" 2 ["rows"] (p_is_row) := by
  refine D.cl fun f fd F => F.ok c_is_row (fun vs H Q E h => ?_) (fun cdv A outer s H vs Q E hr h => ?_)
  · obtain ⟨p, ts, g, p0, q0, rfl, hl, he, q⟩ := h
    rfl
  · obtain ⟨p, ts, g, p0, q0, rfl, hl, he, q⟩ := h
    have nd := c_is_row.nd
    have hu : _ := hu_of hr
    refine ⟨_, (pss_one (ps_ret (pe_callB (id := "all") (r := rAll K) (by exact (cr_all rfl)) (by rfl) mall (by decide +kernel) (pa_cons (pe_lc (own := [("site", 1)]) (g := (gName 1)) (tt := tYes)  rfl nd (pi_list (pv 0)) (blkOk_by (own := [("site", 1)]) (N := n_is_row) (sc := defScope s_is_row) (by decide +kernel)) (fun _ _ _ _ _ => by exact (pg_name (i := 1) nd rfl (.inl rfl))) (fun _ _ _ _ _ => by exact pts_nil) (fun _ _ _ _ _ => by exact (pe_cmpR op_eq (pe_cl C_turn (hr.mono (by decide)) (by rfl) pass0 (pa_cons (pe_ix (r := rIxL K) (by exact ix_list) (pv 0) pe_int (fun _ _ => rfl)) (pa_cons (pe_ix (r := rIxL K) (by exact ix_list) (pv 0) pe_neg (fun _ _ => rfl)) (pa_cons (pv 1) pa_nil)))) pe_int (nomark _)))) pa_nil)))), ?_⟩
    obtain ⟨t0, e0, rfl, m0⟩ := head_ts he.h0
    obtain ⟨tz, ez, rfl, mz⟩ := last_ts he.hq
    have lus : (ts.map V.ref).length = ts.length := List.length_map _
    have hfew := hl.few
    repeat array_get_dec
    refine ⟨⟨_, SqL.of hl.at_⟩, fun D nD => ?_⟩
    refine lc_val (walk_list (xs := ts.map V.ref)) nD (by omega) (fun H2 s2 => SqL.of (s2 _ _ hl.at_)) ((ts.map fun t => decide (V.int (tn (g t0) (g tz) (g t)) = V.int 0)).map V.bl) (by rw [List.length_map, List.length_map, List.length_map]) (fun i x y H2 H3 Kp hy s2 eD yi fin => ?_) fun H2 s2 eD => ?_
    · obtain ⟨rfl, hx⟩ := yi
      obtain ⟨t, et, rfl, mt⟩ := ref_at hx
      have hl3 := hl.same s2
      have z1 := hl3.sit t0 m0
      have z2 := hl3.sit tz mz
      have z3 := hl3.sit t mt
      repeat array_get_dec
      refine ⟨p, _, 0, _, rfl, rfl, SqL.of hl3.at_, headI e0, ?_⟩
      repeat array_get_dec
      refine ⟨p, _, -1, _, rfl, rfl, SqL.of hl3.at_, lastI ez, ?_⟩
      repeat array_get_dec
      refine ⟨t0, tz, t, g t0, g tz, g t, rfl, z1.1, z2.1, z3.1, z1.2, z2.2, z3.2, ?_⟩
      have ey : y = .bl (decide (V.int (tn (g t0) (g tz) (g t)) = V.int 0)) := by
        rw [List.getElem?_map, List.getElem?_map, et] at hy
        exact (Option.some.inj hy).symm
      repeat array_get_dec
      rw [← ey]
      exact fin _ (Same.refl _)
    · repeat array_get_dec
      refine ⟨D, _, rfl, SqL.of eD, ?_⟩
      refine q _ _ s2 ?_
      rw [row_iff he.so he.h0 he.hq]
      simp
end
/-! ### places -/
section
variable {P : Program} {w : World} {K : PySem.W.Frag} {mg : Str → Option Value} {base : Heap}
/-- a place stands at an address -/
structure PlA (H : Hp) (r : Addr) (p : Plc) : Prop where
  at_ : Pla H r p.x p.y p.d
  ok : PlOk p.x p.y p.d
theorem PlA.same {H H' : Hp} {r : Addr} {p : Plc} (h : PlA H r p) (s : Same H H') : PlA H' r p := ⟨s _ _ h.at_, h.ok⟩
def leP (ux uy vx vy : Int) : Bool := if ux = vx then (if uy = vy then true else decide (uy ≤ vy)) else decide (ux ≤ vx)
theorem leP_is (ux uy vx vy : Int) : Ob.lexAt (fun j => decide ([ux, uy].getD j 0 = [vx, vy].getD j 0)) (fun j => decide ([ux, uy].getD j 0 ≤ [vx, vy].getD j 0)) (decide ([ux, uy].length ≤ [vx, vy].length)) 0 (min [ux, uy].length [vx, vy].length) = leP ux uy vx vy := by
  simp [Ob.lexAt, leP]
theorem leP_iff (ux uy vx vy : Int) : leP ux uy vx vy = true ↔ ux < vx ∨ (ux = vx ∧ uy ≤ vy) := by
  unfold leP
  by_cases h : ux = vx
  · by_cases h2 : uy = vy
    · simp [h, h2]
    · simp [h, h2]
  · rw [if_neg h, decide_eq_true_eq]
    omega
theorem prod_iff {u w : Int} (h : w < u) : u * w ≤ 0 ↔ w ≤ 0 ∧ 0 ≤ u := by
  constructor
  · intro k
    by_cases a : 0 < w
    · have := Int.mul_pos (show 0 < u by omega) a
      omega
    · by_cases b : u < 0
      · have := Int.mul_pos_of_neg_of_neg b (show w < 0 by omega)
        omega
      · omega
  · intro ⟨a, b⟩
    have := Int.mul_nonneg b (show 0 ≤ -w by omega)
    rw [Int.mul_neg] at this
    omega
theorem pos_iff {a b m n : Int} (hm : 0 < m) (hn : 0 < n) (e : a * m = b * n) : a ≤ 0 ↔ b ≤ 0 := by
  constructor
  · intro k
    by_cases c : 0 < b
    · have h1 := Int.mul_pos c hn
      have h2 := Int.mul_nonneg (show 0 ≤ -a by omega) (Int.le_of_lt hm)
      rw [Int.neg_mul] at h2
      omega
    · omega
  · intro k
    by_cases c : 0 < a
    · have h1 := Int.mul_pos c hm
      have h2 := Int.mul_nonneg (show 0 ≤ -b by omega) (Int.le_of_lt hn)
      rw [Int.neg_mul] at h2
      omega
    · omega
theorem way_core {u1 u2 e1 e2 d : Int} (hd : 0 < d) (o : (e1 = 0 ∧ e2 = 0) ∨ 0 < e1 ∨ (e1 = 0 ∧ 0 < e2)) (z : e1 * u2 - e2 * u1 = 0) : ((0 < u1 ∨ (0 = u1 ∧ 0 ≤ u2)) ∧ (u1 < e1 * d ∨ (u1 = e1 * d ∧ u2 ≤ e2 * d))) ↔ u1 * (u1 - e1 * d) + u2 * (u2 - e2 * d) ≤ 0 := by
  rcases o with ⟨rfl, rfl⟩ | o | ⟨rfl, o⟩
  · have h1 : 0 ≤ u1 * u1 := sq_nn u1
    have h2 : 0 ≤ u2 * u2 := sq_nn u2
    simp only [Int.zero_mul, Int.sub_zero]
    constructor
    · intro ⟨a, b⟩
      have e1 : u1 = 0 := by omega
      have e2 : u2 = 0 := by omega
      subst e1 e2
      decide
    · intro h
      have e1 : u1 * u1 = 0 := by omega
      have e2 : u2 * u2 = 0 := by omega
      have e1 : u1 = 0 := by
        rcases Int.mul_eq_zero.mp e1 with h | h <;> exact h
      have e2 : u2 = 0 := by
        rcases Int.mul_eq_zero.mp e2 with h | h <;> exact h
      omega
  · have ed := Int.mul_pos o hd
    have k : (u1 * (u1 - e1 * d) + u2 * (u2 - e2 * d)) * (e1 * e1) = (u1 * (u1 - e1 * d)) * (e1 * e1 + e2 * e2) := by
      have z2 : e1 * u2 = e2 * u1 := by omega
      have : (u1 * (u1 - e1 * d) + u2 * (u2 - e2 * d)) * (e1 * e1) = (u1 * (u1 - e1 * d)) * (e1 * e1) + (e1 * u2) * (e1 * u2 - e1 * e2 * d) := by grind
      rw [this, z2]
      grind
    have p1 := Int.mul_pos o o
    have p2 := sq_nn e2
    rw [pos_iff p1 (show 0 < e1 * e1 + e2 * e2 by omega) k, prod_iff (by omega)]
    constructor
    · intro ⟨a, b⟩
      omega
    · intro ⟨a, b⟩
      refine ⟨?_, ?_⟩
      · by_cases c : 0 < u1
        · exact .inl c
        · have c : u1 = 0 := by omega
          subst c
          have : e1 * u2 = 0 := by omega
          rcases Int.mul_eq_zero.mp this with h | h <;> omega
      · by_cases c : u1 < e1 * d
        · exact .inl c
        · have c : u1 = e1 * d := by omega
          refine .inr ⟨c, ?_⟩
          have : e1 * (u2 - e2 * d) = 0 := by
            rw [c] at z
            grind
          rcases Int.mul_eq_zero.mp this with h | h <;> omega
  · have ed := Int.mul_pos o hd
    have u0 : u1 = 0 := by
      have : e2 * u1 = 0 := by omega
      rcases Int.mul_eq_zero.mp this with h | h <;> omega
    subst u0
    rw [show (0 : Int) * (0 - 0 * d) + u2 * (u2 - e2 * d) = u2 * (u2 - e2 * d) by omega, prod_iff (by omega)]
    omega
/-- on the stretch, for ends in order -/
theorem way_iff {a b : Pt} {p : Plc} (hd : 0 < p.d) (o : a = b ∨ lt2 a b) (z : po a b p = 0) : (leP (a.1 * p.d) (a.2 * p.d) p.x p.y = true ∧ leP p.x p.y (b.1 * p.d) (b.2 * p.d) = true) ↔ dots a b p ≤ 0 := by
  rw [leP_iff, leP_iff]
  have w := way_core (u1 := p.x - a.1 * p.d) (u2 := p.y - a.2 * p.d) (e1 := b.1 - a.1) (e2 := b.2 - a.2) hd (by
    rcases o with rfl | o
    · left; omega
    · unfold lt2 at o; omega) z
  rw [Int.sub_mul, Int.sub_mul, show p.x - a.1 * p.d - (b.1 * p.d - a.1 * p.d) = p.x - b.1 * p.d by omega, show p.y - a.2 * p.d - (b.2 * p.d - a.2 * p.d) = p.y - b.2 * p.d by omega] at w
  have w2 : _ ↔ dots a b p ≤ 0 := w
  rw [← w2]
  omega
/-- the places of the sides -/
def sidesL (p : Plc) (cs : List Pt) : List Int := List.zipWith (fun a b => po a b p) cs (cs.drop 1 ++ cs.take 1)
theorem pr_sides {p : Plc} {R : Int → Prop} (p0 : Pt) (mid : List Pt) : Pr (fun a b => R (po a b p)) (p0 :: (mid ++ [p0])) ↔ ∀ y ∈ sidesL p (p0 :: mid), R y := by
  have go : ∀ (l : List Pt) (a : Pt), Pr (fun a b => R (po a b p)) (a :: (l ++ [p0])) ↔ ∀ y ∈ List.zipWith (fun a b => po a b p) (a :: l) (l ++ [p0]), R y := by
    intro l
    induction l with
    | nil => intro a; simp [Pr]
    | cons b l ih =>
      intro a
      rw [List.cons_append, List.zipWith_cons_cons, List.forall_mem_cons, ← ih b]
      exact Iff.rfl
  exact go mid p0
theorem cut_to1 {xs : List V} (h : 1 ≤ xs.length) : cutV xs none (some 1) = xs.take 1 := cut_to (n := 1) h
abbrev s_turn_to_place : Stmt := topS 20
abbrev n_turn_to_place : List Str := ["a", "b", "place", "x", "y", "d"]
theorem c_turn_to_place : FnScope n_turn_to_place ["a", "b", "place"] (defScope s_turn_to_place) := ⟨rfl, rfl, rfl, by decide +kernel, rfl, by decide +kernel, by decide +kernel⟩
def p_turn_to_place : Sp := fun vs H Q _ => ∃ (a b r : Addr) (A B : Pt) (p : Plc), vs = [.ref a, .ref b, .ref r] ∧ Sit H a A.1 A.2 ∧ Sit H b B.1 B.2 ∧ Bd 1000000 A.1 A.2 ∧ Bd 1000000 B.1 B.2 ∧ PlA H r p ∧ Q (.int (po A B p)) H
set_option pp.maxSteps 300 in
theorem ok_turn_to_place  (D : Df K mg "turn_to_place" s_turn_to_place ["a", "b", "place"]) : Cl P w K mg base CX0 "turn_to_place" 1 ["a", "b", "place"] (p_turn_to_place) := by
  refine D.cl fun f fd F => F.ok c_turn_to_place (fun vs H Q E h => ?_) (fun cdv A outer s H vs Q E hr h => ?_)
  · obtain ⟨a, b, r, A, B, p, rfl, ha, hb, ⟨a1, a2, a3, a4⟩, ⟨b1, b2, b3, b4⟩, hr2, q⟩ := h
    rfl
  · obtain ⟨a, b, r, A, B, p, rfl, ha, hb, ⟨a1, a2, a3, a4⟩, ⟨b1, b2, b3, b4⟩, hr2, q⟩ := h
    have nd := c_turn_to_place.nd
    have hu : _ := hu_of hr
    refine ⟨_, (pss_cons (ps_asg (pv 2) (pg_tup (by rfl) (pgs_cons (pg_name (i := 3) nd rfl (.inl rfl)) (pgs_cons (pg_name (i := 4) nd rfl (.inl rfl)) (pgs_cons (pg_name (i := 5) nd rfl (.inl rfl)) pgs_nil))))) (pss_one (ps_ret (pe_op op_sub (pe_op op_mulW (pe_op op_sub (pe_ix ix_tup (pv 1) pe_int (fun _ _ => rfl)) (pe_ix ix_tup (pv 0) pe_int (fun _ _ => rfl))) (pe_op op_sub (pv 4) (pe_op op_mulW (pv 5) (pe_ix ix_tup (pv 0) pe_int (fun _ _ => rfl))))) (pe_op op_mulW (pe_op op_sub (pe_ix ix_tup (pv 1) pe_int (fun _ _ => rfl)) (pe_ix ix_tup (pv 0) pe_int (fun _ _ => rfl))) (pe_op op_sub (pv 3) (pe_op op_mulW (pv 5) (pe_ix ix_tup (pv 0) pe_int (fun _ _ => rfl))))))))), ?_⟩
    obtain ⟨x1, x2, x3⟩ := hr2.ok.bits
    have hp := hr2.at_
    unfold Pla at hp
    have e : po A B p = (B.1 - A.1) * (p.y - p.d * A.2) - (B.2 - A.2) * (p.x - p.d * A.1) := by
      unfold po
      rw [Int.mul_comm A.2, Int.mul_comm A.1]
    rw [e] at q
    repeat array_get_dec
    exact q
abbrev s_is_on_way : Stmt := topS 21
abbrev n_is_on_way : List Str := ["a", "b", "place", "x", "y", "d"]
theorem c_is_on_way : FnScope n_is_on_way ["a", "b", "place"] (defScope s_is_on_way) := ⟨rfl, rfl, rfl, by decide +kernel, rfl, by decide +kernel, by decide +kernel⟩
def p_is_on_way : Sp := fun vs H Q _ => ∃ (a b r : Addr) (A B : Pt) (p : Plc), vs = [.ref a, .ref b, .ref r] ∧ Sit H a A.1 A.2 ∧ Sit H b B.1 B.2 ∧ Bd 1000000 A.1 A.2 ∧ Bd 1000000 B.1 B.2 ∧ PlA H r p ∧ (A = B ∨ lt2 A B) ∧ ∀ v H', Same H H' → (v = true ↔ po A B p = 0 ∧ dots A B p ≤ 0) → Q (.bl v) H'
set_option pp.maxSteps 300 in
theorem ok_is_on_way  (D : Df K mg "is_on_way" s_is_on_way ["a", "b", "place"]) (C_turn_to_place : Cl P w K mg base CX0 "turn_to_place" 1 ["a", "b", "place"] (p_turn_to_place)) : Cl P w K mg base CX0 "is_on_way" 2 ["a", "b", "place"] (p_is_on_way) := by
  refine D.cl fun f fd F => F.ok c_is_on_way (fun vs H Q E h => ?_) (fun cdv A outer s H vs Q E hr h => ?_)
  · obtain ⟨a, b, r, A, B, p, rfl, ha, hb, ba, bb, hr2, ho, q⟩ := h
    rfl
  · obtain ⟨a, b, r, A, B, p, rfl, ha, hb, ba, bb, hr2, ho, q⟩ := h
    have nd := c_is_on_way.nd
    have hu : _ := hu_of hr
    refine ⟨_, (pss_cons (ps_asg (pv 2) (pg_tup (by rfl) (pgs_cons (pg_name (i := 3) nd rfl (.inl rfl)) (pgs_cons (pg_name (i := 4) nd rfl (.inl rfl)) (pgs_cons (pg_name (i := 5) nd rfl (.inl rfl)) pgs_nil))))) (pss_cons (ps_if (pt_cmpR op_ne (pe_cl C_turn_to_place (hr.mono (by decide)) (by rfl) pass0 (pa_cons (pv 0) (pa_cons (pv 1) (pa_cons (pv 2) pa_nil)))) pe_int (nomark _)) (pss_one (ps_ret pe_bl)) pss_nil) (pss_one (ps_ret (pe_chain (op_leT hr.units0) (op_leT hr.units0) (pe_tupG (pa_cons (pe_op op_mulW (pe_ix ix_tup (pv 0) pe_int (fun _ _ => rfl)) (pv 5)) (pa_cons (pe_op op_mulW (pe_ix ix_tup (pv 0) pe_int (fun _ _ => rfl)) (pv 5)) pa_nil))) (pe_tupG (pa_cons (pv 3) (pa_cons (pv 4) pa_nil))) (pe_tupG (pa_cons (pe_op op_mulW (pe_ix ix_tup (pv 1) pe_int (fun _ _ => rfl)) (pv 5)) (pa_cons (pe_op op_mulW (pe_ix ix_tup (pv 1) pe_int (fun _ _ => rfl)) (pv 5)) pa_nil)))))))), ?_⟩
    obtain ⟨x1, x2, x3⟩ := hr2.ok.bits
    have hp := hr2.at_
    unfold Pla at hp
    repeat array_get_dec
    refine ⟨a, b, r, A, B, p, rfl, ha, hb, ba, bb, hr2, ?_⟩
    obtain ⟨a1, a2, a3, a4⟩ := ba
    obtain ⟨b1, b2, b3, b4⟩ := bb
    repeat array_get_dec
    by_cases z : po A B p = 0
    · refine w_ntt (congrArg V.int z) ?_
      repeat array_get_dec
      refine fun p1 H1 s1 n1 e1 => ?_
      repeat array_get_dec
      refine fun p2 H2 s2 n2 e2 => ?_
      refine ⟨p1, p2, [_, _], [_, _], rfl, rfl, SqT.of (s2 _ _ e1), SqT.of e2, ?_⟩
      rw [leP_is]
      refine ⟨_, rfl, ?_⟩
      have wi := way_iff (p := p) (Int.lt_of_lt_of_le (by decide) hr2.ok.d1) ho z
      refine w_if (fun c => ?_) fun c => ?_
      · repeat array_get_dec
        refine fun p3 H3 s3 n3 e3 => ?_
        refine ⟨p2, p3, [_, _], [_, _], rfl, rfl, SqT.of (s3 _ _ e2), SqT.of e3, ?_⟩
        rw [leP_is]
        refine q _ _ (s1.trans (s2.trans s3)) ?_
        rw [← wi, c]
        simp [z]
      · refine q _ _ (s1.trans s2) ?_
        rw [← wi, c]
        simp
    · refine w_ntf (fun e => z (V.int.inj e)) ?_
      repeat array_get_dec
      exact q _ _ (Same.refl _) (by simp [z])
abbrev s_side_of_polygon : Stmt := topS 29
abbrev n_side_of_polygon : List Str := ["corners", "place", "turns", "a", "b"]
theorem c_side_of_polygon : FnScope n_side_of_polygon ["corners", "place"] (defScope s_side_of_polygon) := ⟨rfl, rfl, rfl, by decide +kernel, rfl, by decide +kernel, by decide +kernel⟩
def p_side_of_polygon : Sp := fun vs H Q _ => ∃ (c r : Addr) (us : List Addr) (f : Addr → Pt) (p : Plc), vs = [.ref c, .ref r] ∧ Pts f H c us ∧ PlA H r p ∧ ∀ H' m, Same H H' → m ∈ sidesL p (us.map f) → (∀ y ∈ sidesL p (us.map f), m ≤ y) → Q (.int (sg m)) H'
set_option pp.maxSteps 300 in
theorem ok_side_of_polygon  (D : Df K mg "side_of_polygon" s_side_of_polygon ["corners", "place"]) (C_sign : Cl P w K mg base CX0 "sign" 2 ["number"] (spSign)) (C_turn_to_place : Cl P w K mg base CX0 "turn_to_place" 1 ["a", "b", "place"] (p_turn_to_place)) (mmin : mg "min" = none) (mzip : mg "zip" = none) : Cl P w K mg base CX0 "side_of_polygon" 3 ["corners", "place"] (p_side_of_polygon) := by
  refine D.cl fun f fd F => F.ok c_side_of_polygon (fun vs H Q E h => ?_) (fun cdv A outer s H vs Q E hr h => ?_)
  · obtain ⟨c, r, us, g, p, rfl, hl, hp, q⟩ := h
    rfl
  · obtain ⟨c, r, us, g, p, rfl, hl, hp, q⟩ := h
    have nd := c_side_of_polygon.nd
    have hu : _ := hu_of hr
    refine ⟨_, (pss_cons (ps_setLc (i := 2) (own := [("a", 3), ("b", 4)]) (g := (gTup K 2 (gCons (gName 3) (gCons (gName 4) gNil)))) (tt := tYes)  rfl nd rfl rfl (sw_true rfl rfl rfl (by decide +kernel)) (pi_zip (by rfl) mzip (pa_cons (pv 0) (pa_cons (pe_op op_catG (pe_slice sl_listG (pv 0) (po_some pe_int) po_none) (pe_slice sl_listG (pv 0) po_none (po_some pe_int))) pa_nil))) (blkOk_by (own := [("a", 3), ("b", 4)]) (N := n_side_of_polygon) (sc := defScope s_side_of_polygon) (by decide +kernel)) (fun _ _ _ _ _ => by exact (pg_tup (by rfl) (pgs_cons (pg_name (i := 3) nd rfl (.inl rfl)) (pgs_cons (pg_name (i := 4) nd rfl (.inl rfl)) pgs_nil)))) (fun _ _ _ _ _ => by exact pts_nil) (fun _ _ _ _ _ => by exact (pe_cl C_turn_to_place (hr.mono (by decide)) (by rfl) pass0 (pa_cons (pv 3) (pa_cons (pv 4) (pa_cons (pv 1) pa_nil)))))) (pss_one (ps_ret (pe_cl C_sign (hr.mono (by decide)) (by rfl) pass0 (pa_cons (pe_callB (id := "min") (r := rMin K) (by exact (cr_min rfl)) (by rfl) mmin (by decide +kernel) (pa_cons (pv 2) pa_nil)) pa_nil))))), ?_⟩
    have lus : (us.map V.ref).length = us.length := List.length_map _
    have hpos := hl.pos
    have hfew := hl.few
    repeat array_get_dec
    refine ⟨c, _, rfl, SqL.of hl.at_, fun q1 H1 s1 n1 e1 => ?_⟩
    rw [cut_1 (by omega), ← List.map_drop] at e1
    have hl1 := hl.same s1
    repeat array_get_dec
    refine ⟨c, _, rfl, SqL.of hl1.at_, fun q2 H2 s2 n2 e2 => ?_⟩
    rw [cut_to1 (by omega), ← List.map_take] at e2
    have hl2 := hl1.same s2
    have lA : ((us.drop 1).map V.ref).length = us.length - 1 := by rw [List.length_map, List.length_drop]
    have lB : ((us.take 1).map V.ref).length = 1 := by rw [List.length_map, List.length_take]; omega
    refine ⟨q1, q2, _, _, rfl, rfl, s2 _ _ e1, e2, by rw [lA, lB]; exact Nat.le_trans (m := 200) (by omega) (by decide), fun q3 H3 s3 n3 e3 => ?_⟩
    rw [← List.map_append] at e3
    have hl3 := hl2.same s3
    have S3 := s1.trans (s2.trans s3)
    have lR : (us.drop 1 ++ us.take 1).length = us.length := by rw [List.length_append, List.length_drop, List.length_take]; omega
    have hn : us.length = min (us.map V.ref).length ((us.drop 1 ++ us.take 1).map V.ref).length := by
      rw [List.length_map, List.length_map, lR]
      omega
    have hp3 := hp.same S3
    refine ⟨c, q3, us.map V.ref, (us.drop 1 ++ us.take 1).map V.ref, rfl, SqL.of hl3.at_, SqL.of e3, fun D nD => ?_⟩
    have ls : (sidesL p (us.map g)).length = us.length := by
      unfold sidesL
      rw [List.length_zipWith, List.length_append, List.length_drop, List.length_take, List.length_map]
      omega
    have eS : (us.map g).drop 1 ++ (us.map g).take 1 = (us.drop 1 ++ us.take 1).map g := by rw [List.map_append, List.map_drop, List.map_take]
    refine lc_val (walk_zip hn) nD (by omega) (fun H2 s2 => ⟨SqL.of (s2 _ _ hl3.at_), SqL.of (s2 _ _ e3)⟩) ((sidesL p (us.map g)).map V.int) (by rw [List.length_map, ls]) (fun i x y H4 H5 Kp hy s4 eD yi fin => ?_) fun H4 s4 eD => ?_
    · obtain ⟨T, x1, x2, rfl, nT, rfl, h1, h2⟩ := yi
      obtain ⟨a, b, ea, eb, rfl, rfl, ma, mb⟩ := nb_at h1 h2
      have hl5 := (hl3.same s4).same (Same.upd nT (o := .tup [V.ref a, V.ref b]))
      have hp5 := (hp3.same s4).same (Same.upd nT (o := .tup [V.ref a, V.ref b]))
      have mb : b ∈ us := by
        rcases List.mem_append.mp mb with m | m
        · exact List.mem_of_mem_drop m
        · exact List.mem_of_mem_take m
      have z2 := hl5.sit a ma
      have z3 := hl5.sit b mb
      refine ⟨T, _, rfl, SqT.of upd_same, rfl, ?_⟩
      repeat array_get_dec
      refine ⟨a, b, r, g a, g b, p, rfl, z2.1, z3.1, z2.2, z3.2, hp5, ?_⟩
      have ey : y = .int (po (g a) (g b) p) := by
        unfold sidesL at hy
        rw [eS, List.getElem?_map, List.getElem?_zipWith, List.getElem?_map, List.getElem?_map, ea, eb] at hy
        exact (Option.some.inj hy).symm
      rw [← ey]
      exact fin _ (Same.upd nT)
    · repeat array_get_dec
      refine ⟨D, _, rfl, SqL.of eD, by rw [ls]; exact hpos, fun m hm hle => ?_⟩
      repeat array_get_dec
      exact q _ _ (S3.trans s4) hm hle
end
/-! ### what the program tells of hulls -/
section
variable {P : Program} {w : World} {K : PySem.W.Frag} {mg : Str → Option Value} {base : Heap}
/-- where a place is, as the program tells -/
def Whr (p0 q : Pt) (rows : List Pt) (p : Plc) (v : Int) : Prop := (Row rows → v = if po p0 q p = 0 ∧ dots p0 q p ≤ 0 then 0 else -1) ∧ (¬ Row rows → ∃ m ∈ sidesL p (cornN p0 q rows), (∀ y ∈ sidesL p (cornN p0 q rows), m ≤ y) ∧ v = sg m)
theorem Ends2.ord {rows : List Pt} {p0 q : Pt} (e : Ends2 rows p0 q) : p0 = q ∨ lt2 p0 q := by
  rcases first_is e.so e.h0 q (List.mem_of_getLast? e.hq) with h | h
  · exact .inl h.symm
  · exact .inr h
theorem cornN_head {rows : List Pt} {p0 q : Pt} (e : Ends2 rows p0 q) : (cornN p0 q rows).head? = some p0 := by
  by_cases n2 : p0 = q
  · subst n2
    rw [one_of e.so e.h0 e.hq, one_cornN]
    rfl
  · obtain ⟨mid, h, _⟩ := ringCN e.so e.h0 e.hq n2
    rw [h]
    rfl
theorem joinA_pos {f : Addr → Pt} {p0 q : Pt} {ts us : List Addr} (e : Ends2 (ts.map f) p0 q) (h : us.map f = cornN p0 q (ts.map f)) : 0 < us.length := by
  have := cornN_head e
  rw [← h] at this
  cases us with
  | nil => cases this
  | cons _ _ => simp
theorem corn_few {f : Addr → Pt} {p0 q : Pt} {ts us : List Addr} (h : us.map f = cornN p0 q (ts.map f)) : us.length ≤ 2 * ts.length := by
  rw [← joinA_corn] at h
  have := congrArg List.length h
  rw [List.length_map, List.length_map] at this
  rw [this]
  exact joinA_len
theorem bordN_head {rows : List Pt} {p0 q : Pt} (e : Ends2 rows p0 q) (nr : ¬ Row rows) : (bordN p0 q rows).head? = some p0 := by
  by_cases n2 : p0 = q
  · subst n2
    refine absurd ((row_iff e.so e.h0 e.hq).mpr fun p hp => ?_) nr
    unfold tn
    simp
  · obtain ⟨mid, h, _⟩ := ringN e.so e.h0 e.hq n2
    rw [h]
    rfl
abbrev s_side_of_hull : Stmt := topS 28
abbrev n_side_of_hull : List Str := ["rows", "place"]
theorem c_side_of_hull : FnScope n_side_of_hull ["rows", "place"] (defScope s_side_of_hull) := ⟨rfl, rfl, rfl, by decide +kernel, rfl, by decide +kernel, by decide +kernel⟩
def p_side_of_hull : Sp := fun vs H Q _ => ∃ (a r : Addr) (ts : List Addr) (f : Addr → Pt) (p0 q : Pt) (p : Plc), vs = [.ref a, .ref r] ∧ Lot f H a ts ∧ Ends2 (ts.map f) p0 q ∧ PlA H r p ∧ ∀ H' v, Same H H' → Whr p0 q (ts.map f) p v → Q (.int v) H'
set_option pp.maxSteps 300 in
theorem ok_side_of_hull  (D : Df K mg "side_of_hull" s_side_of_hull ["rows", "place"]) (C_corners_of : Cl P w K mg base CX0 "corners_of" 2 ["rows"] (p_corners_of)) (C_is_row : Cl P w K mg base CX0 "is_row" 2 ["rows"] (p_is_row)) (C_is_on_way : Cl P w K mg base CX0 "is_on_way" 2 ["a", "b", "place"] (p_is_on_way)) (C_side_of_polygon : Cl P w K mg base CX0 "side_of_polygon" 3 ["corners", "place"] (p_side_of_polygon)) : Cl P w K mg base CX0 "side_of_hull" 4 ["rows", "place"] (p_side_of_hull) := by
  refine D.cl fun f fd F => F.ok c_side_of_hull (fun vs H Q E h => ?_) (fun cdv A outer s H vs Q E hr h => ?_)
  · obtain ⟨a, r, ts, g, p0, q0, p, rfl, hl, he, hp, q⟩ := h
    rfl
  · obtain ⟨a, r, ts, g, p0, q0, p, rfl, hl, he, hp, q⟩ := h
    have nd := c_side_of_hull.nd
    have hu : _ := hu_of hr
    refine ⟨_, (pss_cons (ps_if (pt_val (pe_cl C_is_row (hr.mono (by decide)) (by rfl) pass0 (pa_cons (pv 0) pa_nil))) (pss_one (ps_ret (pe_ifExp (pt_val (pe_cl C_is_on_way (hr.mono (by decide)) (by rfl) pass0 (pa_cons (pe_ix ix_list (pv 0) pe_int (fun _ _ => rfl)) (pa_cons (pe_ix ix_list (pv 0) pe_neg (fun _ _ => rfl)) (pa_cons (pv 1) pa_nil))))) pe_int pe_neg))) pss_nil) (pss_one (ps_ret (pe_cl C_side_of_polygon (hr.mono (by decide)) (by rfl) pass0 (pa_cons (pe_cl C_corners_of (hr.mono (by decide)) (by rfl) pass0 (pa_cons (pv 0) pa_nil)) (pa_cons (pv 1) pa_nil)))))), ?_⟩
    obtain ⟨t0, e0, rfl, m0⟩ := head_ts he.h0
    obtain ⟨tz, ez, rfl, mz⟩ := last_ts he.hq
    repeat array_get_dec
    refine ⟨a, ts, g, _, _, rfl, hl, he, fun H1 b s1 hb => ?_⟩
    have hl1 := hl.same s1
    have hp1 := hp.same s1
    have z1 := hl1.sit t0 m0
    have z2 := hl1.sit tz mz
    cases b
    · have nr : ¬ Row (ts.map g) := fun z => Bool.noConfusion (hb.mpr z)
      repeat array_get_dec
      refine ⟨a, ts, g, _, _, rfl, hl1, he, fun us c H2 s2 n2 e2 eo sub => ?_⟩
      repeat array_get_dec
      have hfew := hl.few
      refine ⟨c, r, us, g, p, rfl, ⟨e2, joinA_pos he eo, ?_, (hl1.same s2).sit.sub sub⟩, hp1.same s2, fun H3 m s3 hm hle => ?_⟩
      · have := corn_few eo
        omega
      · rw [eo] at hm hle
        exact q _ _ (s1.trans (s2.trans s3)) ⟨fun z => absurd z nr, fun _ => ⟨m, hm, hle, rfl⟩⟩
    · have row := hb.mp rfl
      repeat array_get_dec
      refine ⟨a, _, 0, _, rfl, rfl, SqL.of hl1.at_, headI e0, ?_⟩
      repeat array_get_dec
      refine ⟨a, _, -1, _, rfl, rfl, SqL.of hl1.at_, lastI ez, ?_⟩
      repeat array_get_dec
      refine ⟨t0, tz, r, g t0, g tz, p, rfl, z1.1, z2.1, z1.2, z2.2, hp1, he.ord, fun v H2 s2 hv => ?_⟩
      cases v
      · repeat array_get_dec
        exact q _ _ (s1.trans s2) ⟨fun _ => (if_neg fun z => Bool.noConfusion (hv.mpr z)).symm, fun z => absurd row z⟩
      · repeat array_get_dec
        exact q _ _ (s1.trans s2) ⟨fun _ => (if_pos (hv.mp rfl)).symm, fun z => absurd row z⟩
theorem ends_of {ts : List Addr} {f : Addr → Pt} (h : 0 < ts.length) (so : (ts.map f).Pairwise lt2) : ∃ p0 q, Ends2 (ts.map f) p0 q := by
  cases ts with
  | nil => simp at h
  | cons t ts =>
    refine ⟨f t, ((t :: ts).map f).getLast (by simp), so, rfl, List.getLast?_eq_some_getLast _⟩
abbrev s_hull : Stmt := topS 31
abbrev n_hull : List Str := ["sites"]
theorem c_hull : FnScope n_hull ["sites"] (defScope s_hull) := ⟨rfl, rfl, rfl, by decide +kernel, rfl, by decide +kernel, by decide +kernel⟩
theorem srt_uniq2 : ∀ {l1 l2 : List Pt}, l1.Perm l2 → l1.Pairwise lt2 → l2.Pairwise lt2 → l1 = l2 := fun pm h1 h2 => by
  refine pm.eq_of_pairwise (le := lt2) (fun a b _ _ h k => ?_) h1 h2
  exfalso
  unfold lt2 at h k
  omega
theorem perm_map_eq {f : Addr → Pt} {ts rs us : List Addr} (h1 : rs.Perm ts) (h2 : us.Perm ts) (s1 : (rs.map f).Pairwise lt2) (s2 : (us.map f).Pairwise lt2) : us.map f = rs.map f := srt_uniq2 ((h2.trans h1.symm).map f) s2 s1
def p_hull : Sp := fun vs H Q _ => ∃ (p : Addr) (ts rs : List Addr) (f : Addr → Int × Int) (p0 q : Pt), vs = [.ref p] ∧ Lot f H p ts ∧ rs.Perm ts ∧ Ends2 (rs.map f) p0 q ∧ Tells f ts (cornN p0 q (rs.map f)) H Q
set_option pp.maxSteps 300 in
theorem ok_hull  {f : Addr} {fd : FuncData} (F : Fun K "hull" "hull" s_hull f fd) (C_ascending : Cl P w K mg base CX0 "ascending" 2 ["sites"] (p_ascending)) (C_corners_of : Cl P w K mg base CX0 "corners_of" 2 ["rows"] (p_corners_of)) : FnOk P w K mg base CX0 3 f fd ["sites"] (p_hull) := by
  refine F.ok c_hull (fun vs H Q E h => ?_) (fun cdv A outer s H vs Q E hr h => ?_)
  · obtain ⟨p, ts, rs, g, p0, q0, rfl, hl, pm, he, q⟩ := h
    rfl
  · obtain ⟨p, ts, rs, g, p0, q0, rfl, hl, pm, he, q⟩ := h
    have nd := c_hull.nd
    have hu : _ := hu_of hr
    refine ⟨_, (pss_one (ps_ret (pe_cl C_corners_of (hr.mono (by decide)) (by rfl) pass0 (pa_cons (pe_cl C_ascending (hr.mono (by decide)) (by rfl) pass0 (pa_cons (pv 0) pa_nil)) pa_nil)))), ?_⟩
    repeat array_get_dec
    refine ⟨p, ts, g, rfl, hl, fun us p' H1 pm1 so1 s1 n1 hl1 => ?_⟩
    have e := perm_map_eq pm pm1 he.so so1
    have he1 : Ends2 (us.map g) p0 q0 := by rw [e]; exact he
    repeat array_get_dec
    refine ⟨p', us, g, p0, q0, rfl, hl1, he1, fun vs b H2 s2 n2 e2 eo sub => ?_⟩
    rw [e] at eo
    exact q vs b H2 (s1.trans s2) (s1.free n2) e2 eo fun u m => pm1.mem_iff.mp (sub u m)
abbrev s_border : Stmt := topS 32
abbrev n_border : List Str := ["sites"]
theorem c_border : FnScope n_border ["sites"] (defScope s_border) := ⟨rfl, rfl, rfl, by decide +kernel, rfl, by decide +kernel, by decide +kernel⟩
def p_border : Sp := fun vs H Q _ => ∃ out, ∃ (p : Addr) (ts rs : List Addr) (f : Addr → Int × Int) (p0 q : Pt), vs = [.ref p] ∧ Lot f H p ts ∧ rs.Perm ts ∧ Ends2 (rs.map f) p0 q ∧ Brd p0 q (rs.map f) out ∧ Tells f ts out H Q
set_option pp.maxSteps 300 in
theorem ok_border  {f : Addr} {fd : FuncData} (F : Fun K "border" "border" s_border f fd) (C_ascending : Cl P w K mg base CX0 "ascending" 2 ["sites"] (p_ascending)) (C_border_of : Cl P w K mg base CX0 "border_of" 2 ["rows"] (p_border_of)) : FnOk P w K mg base CX0 3 f fd ["sites"] (p_border) := by
  refine F.ok c_border (fun vs H Q E h => ?_) (fun cdv A outer s H vs Q E hr h => ?_)
  · obtain ⟨out, p, ts, rs, g, p0, q0, rfl, hl, pm, he, hb, q⟩ := h
    rfl
  · obtain ⟨out, p, ts, rs, g, p0, q0, rfl, hl, pm, he, hb, q⟩ := h
    have nd := c_border.nd
    have hu : _ := hu_of hr
    refine ⟨_, (pss_one (ps_ret (pe_cl C_border_of (hr.mono (by decide)) (by rfl) pass0 (pa_cons (pe_cl C_ascending (hr.mono (by decide)) (by rfl) pass0 (pa_cons (pv 0) pa_nil)) pa_nil)))), ?_⟩
    repeat array_get_dec
    refine ⟨p, ts, g, rfl, hl, fun us p' H1 pm1 so1 s1 n1 hl1 => ?_⟩
    have e := perm_map_eq pm pm1 he.so so1
    have he1 : Ends2 (us.map g) p0 q0 := by rw [e]; exact he
    repeat array_get_dec
    refine ⟨p', us, g, p0, q0, out, rfl, hl1, he1, by rw [e]; exact hb, fun vs b H2 s2 n2 e2 eo sub => ?_⟩
    exact q vs b H2 (s1.trans s2) (s1.free n2) e2 eo fun u m => pm1.mem_iff.mp (sub u m)
abbrev s_double_hull : Stmt := topS 33
abbrev n_double_hull : List Str := ["sites"]
theorem c_double_hull : FnScope n_double_hull ["sites"] (defScope s_double_hull) := ⟨rfl, rfl, rfl, by decide +kernel, rfl, by decide +kernel, by decide +kernel⟩
def p_double_hull : Sp := fun vs H Q _ => ∃ (p : Addr) (ts rs : List Addr) (f : Addr → Int × Int) (p0 q : Pt), vs = [.ref p] ∧ Lot f H p ts ∧ rs.Perm ts ∧ Ends2 (rs.map f) p0 q ∧ ∀ H', Same H H' → Q (.int (fan p0 (cornN p0 q (rs.map f)))) H'
set_option pp.maxSteps 300 in
theorem ok_double_hull  (D : Df K mg "double_hull" s_double_hull ["sites"]) (C_ascending : Cl P w K mg base CX0 "ascending" 2 ["sites"] (p_ascending)) (C_corners_of : Cl P w K mg base CX0 "corners_of" 2 ["rows"] (p_corners_of)) (C_double_area_of : Cl P w K mg base CX0 "double_area_of" 2 ["corners"] (p_double_area_of)) : Cl P w K mg base CX0 "double_hull" 3 ["sites"] (p_double_hull) := by
  refine D.cl fun f fd F => F.ok c_double_hull (fun vs H Q E h => ?_) (fun cdv A outer s H vs Q E hr h => ?_)
  · obtain ⟨p, ts, rs, g, p0, q0, rfl, hl, pm, he, q⟩ := h
    rfl
  · obtain ⟨p, ts, rs, g, p0, q0, rfl, hl, pm, he, q⟩ := h
    have nd := c_double_hull.nd
    have hu : _ := hu_of hr
    refine ⟨_, (pss_one (ps_ret (pe_cl C_double_area_of (hr.mono (by decide)) (by rfl) pass0 (pa_cons (pe_cl C_corners_of (hr.mono (by decide)) (by rfl) pass0 (pa_cons (pe_cl C_ascending (hr.mono (by decide)) (by rfl) pass0 (pa_cons (pv 0) pa_nil)) pa_nil)) pa_nil)))), ?_⟩
    repeat array_get_dec
    refine ⟨p, ts, g, rfl, hl, fun us p' H1 pm1 so1 s1 n1 hl1 => ?_⟩
    have e := perm_map_eq pm pm1 he.so so1
    have he1 : Ends2 (us.map g) p0 q0 := by rw [e]; exact he
    repeat array_get_dec
    refine ⟨p', us, g, p0, q0, rfl, hl1, he1, fun vs b H2 s2 n2 e2 eo sub => ?_⟩
    repeat array_get_dec
    refine ⟨b, vs, g, p0, rfl, ⟨e2, joinA_pos he1 eo, ?_, (hl1.same s2).sit.sub sub⟩, by rw [eo]; exact cornN_head he1, fun H3 s3 => ?_⟩
    · have := corn_few eo
      have := hl1.few
      omega
    · rw [eo, e]
      exact q _ (s1.trans (s2.trans s3))
abbrev s_where : Stmt := topS 34
abbrev n_where : List Str := ["sites", "place", "rows"]
theorem c_where : FnScope n_where ["sites", "place"] (defScope s_where) := ⟨rfl, rfl, rfl, by decide +kernel, rfl, by decide +kernel, by decide +kernel⟩
def p_where : Sp := fun vs H Q _ => ∃ (p r : Addr) (ts rs : List Addr) (f : Addr → Int × Int) (p0 q : Pt) (pl : Plc), vs = [.ref p, .ref r] ∧ Lot f H p ts ∧ rs.Perm ts ∧ Ends2 (rs.map f) p0 q ∧ PlA H r pl ∧ ∀ H' v, Same H H' → Whr p0 q (rs.map f) pl v → Q (.int v) H'
set_option pp.maxSteps 300 in
theorem ok_where  (D : Df K mg "where" s_where ["sites", "place"]) (C_ascending : Cl P w K mg base CX0 "ascending" 2 ["sites"] (p_ascending)) (C_check_place : Cl P w K mg base CX0 "check_place" 2 ["value", "name"] (spCheckP)) (C_side_of_hull : Cl P w K mg base CX0 "side_of_hull" 4 ["rows", "place"] (p_side_of_hull)) : Cl P w K mg base CX0 "where" 5 ["sites", "place"] (p_where) := by
  refine D.cl fun f fd F => F.ok c_where (fun vs H Q E h => ?_) (fun cdv A outer s H vs Q E hr h => ?_)
  · obtain ⟨p, r, ts, rs, g, p0, q0, pl, rfl, hl, pm, he, hp, q⟩ := h
    rfl
  · obtain ⟨p, r, ts, rs, g, p0, q0, pl, rfl, hl, pm, he, hp, q⟩ := h
    have nd := c_where.nd
    have hu : _ := hu_of hr
    refine ⟨_, (pss_cons (ps_set (i := 2) nd rfl (.inl rfl) (pe_cl C_ascending (hr.mono (by decide)) (by rfl) pass0 (pa_cons (pv 0) pa_nil))) (pss_cons (ps_expr (pe_cl C_check_place (hr.mono (by decide)) (by rfl) pass0 (pa_cons (pv 1) (pa_cons pe_str pa_nil)))) (pss_one (ps_ret (pe_cl C_side_of_hull (hr.mono (by decide)) (by rfl) pass0 (pa_cons (pv 2) (pa_cons (pv 1) pa_nil))))))), ?_⟩
    repeat array_get_dec
    refine ⟨p, ts, g, rfl, hl, fun us p' H1 pm1 so1 s1 n1 hl1 => ?_⟩
    have e := perm_map_eq pm pm1 he.so so1
    have he1 : Ends2 (us.map g) p0 q0 := by rw [e]; exact he
    have hp1 := hp.same s1
    repeat array_get_dec
    refine ⟨r, pl.x, pl.y, pl.d, _, rfl, hp1.at_, hp1.ok, ?_⟩
    repeat array_get_dec
    refine ⟨p', r, us, g, p0, q0, pl, rfl, hl1, he1, hp1, fun H2 v s2 hv => ?_⟩
    rw [e] at hv
    exact q _ _ (s1.trans s2) hv
end
/-! ### extreme -/
section
variable {P : Program} {w : World} {K : PySem.W.Frag} {mg : Str → Option Value} {base : Heap}
abbrev s_is_integer : Stmt := topS 6
abbrev n_is_integer : List Str := ["value"]
theorem c_is_integer : FnScope n_is_integer ["value"] (defScope s_is_integer) := ⟨rfl, rfl, rfl, by decide +kernel, rfl, by decide +kernel, by decide +kernel⟩
def p_is_integer : Sp := fun vs H Q _ => ∃ n : Int, vs = [.int n] ∧ Q (.bl true) H
set_option pp.maxSteps 300 in
theorem ok_is_integer  (D : Df K mg "is_integer" s_is_integer ["value"]) (mbool : mg "bool" = none) (mint : mg "int" = none) (misinstance : mg "isinstance" = none) : Cl P w K mg base CX0 "is_integer" 1 ["value"] (p_is_integer) := by
  refine D.cl fun f fd F => F.ok c_is_integer (fun vs H Q E h => ?_) (fun cdv A outer s H vs Q E hr h => ?_)
  · obtain ⟨n, rfl, q⟩ := h
    rfl
  · obtain ⟨n, rfl, q⟩ := h
    have nd := c_is_integer.nd
    have hu : _ := hu_of hr
    refine ⟨_, (pss_one (ps_ret (pe_and (pe_callB call_isi (by rfl) misinstance (by decide +kernel) (pa_cons (pv 0) (pa_cons (pe_bltn (v := .ty "int") (by rfl) mint (by decide +kernel) rfl) pa_nil))) (pe_one (pe_not (pe_callB call_isi (by rfl) misinstance (by decide +kernel) (pa_cons (pv 0) (pa_cons (pe_bltn (v := .ty "bool") (by rfl) mbool (by decide +kernel) rfl) pa_nil)))))))), ?_⟩
    repeat array_get_dec
    exact q
abbrev s_is_short : Stmt := topS 12
abbrev n_is_short : List Str := ["value"]
theorem c_is_short : FnScope n_is_short ["value"] (defScope s_is_short) := ⟨rfl, rfl, rfl, by decide +kernel, rfl, by decide +kernel, by decide +kernel⟩
structure Shrt (n : Int) : Prop where
  lt : n.natAbs < 10 ^ 30
def p_is_short : Sp := fun vs H Q _ => ∃ n : Int, vs = [.int n] ∧ Shrt n ∧ Q (.bl true) H
set_option pp.maxSteps 300 in
theorem ok_is_short  (D : Df K mg "is_short" s_is_short ["value"]) (C_is_integer : Cl P w K mg base CX0 "is_integer" 1 ["value"] (p_is_integer)) : Cl P w K mg base CX0 "is_short" 2 ["value"] (p_is_short) := by
  refine D.cl fun f fd F => F.ok c_is_short (fun vs H Q E h => ?_) (fun cdv A outer s H vs Q E hr h => ?_)
  · obtain ⟨n, rfl, hn, q⟩ := h
    rfl
  · obtain ⟨n, rfl, hn, q⟩ := h
    have nd := c_is_short.nd
    have hu : _ := hu_of hr
    refine ⟨_, (pss_one (ps_ret (pe_and (pe_cl C_is_integer (hr.mono (by decide)) (by rfl) pass0 (pa_cons (pv 0) pa_nil)) (pe_one (pe_chain op_lt op_lt (pe_un un_neg (pe_op op_pow pe_int pe_int)) (pv 0) (pe_op op_pow pe_int pe_int)))))), ?_⟩
    repeat array_get_dec
    have h1 := hn.lt
    refine w_itt (show -(10 : Int) ^ 30 < n by omega) ?_
    repeat array_get_dec
    show Q (.bl (decide (n < (10 : Int) ^ 30))) H
    rw [decide_eq_true (show n < (10 : Int) ^ 30 by omega)]
    exact q
abbrev s_check_direction : Stmt := topS 14
abbrev n_check_direction : List Str := ["value", "name"]
theorem c_check_direction : FnScope n_check_direction ["value", "name"] (defScope s_check_direction) := ⟨rfl, rfl, rfl, by decide +kernel, rfl, by decide +kernel, by decide +kernel⟩
/-- a direction stands at an address -/
structure DirA (H : Hp) (t : Addr) (u v : Int) : Prop where
  at_ : H t = some (.tup [.int u, .int v])
  bu : Shrt u
  bv : Shrt v
  ne : ¬ (u = 0 ∧ v = 0)
theorem DirA.same {H H' : Hp} {t : Addr} {u v : Int} (h : DirA H t u v) (s : Same H H') : DirA H' t u v := ⟨s _ _ h.at_, h.bu, h.bv, h.ne⟩
def p_check_direction : Sp := fun vs H Q _ => ∃ (t : Addr) (u v : Int) (z : Str), vs = [.ref t, .str z] ∧ DirA H t u v ∧ ∀ H', Same H H' → Q .non H'
set_option pp.maxSteps 300 in
theorem ok_check_direction  (D : Df K mg "check_direction" s_check_direction ["value", "name"]) (C_is_short : Cl P w K mg base CX0 "is_short" 2 ["value"] (p_is_short)) (misinstance : mg "isinstance" = none) (mlen : mg "len" = none) (mtuple : mg "tuple" = none) : Cl P w K mg base CX0 "check_direction" 3 ["value", "name"] (p_check_direction) := by
  refine D.cl fun f fd F => F.ok c_check_direction (fun vs H Q E h => ?_) (fun cdv A outer s H vs Q E hr h => ?_)
  · obtain ⟨t, u, v, z, rfl, hd, q⟩ := h
    rfl
  · obtain ⟨t, u, v, z, rfl, hd, q⟩ := h
    have nd := c_check_direction.nd
    have hu : _ := hu_of hr
    refine ⟨_, (pss_cons (ps_if (PW.pt (pw_or (pt_not (pt_val (pe_callB call_isi (by rfl) misinstance (by decide +kernel) (pa_cons (pv 0) (pa_cons (pe_bltn (v := .ty "tuple") (by rfl) mtuple (by decide +kernel) rfl) pa_nil))))) (pw_or1 (pt_cmpR op_ne (pe_callB call_len_seq (by rfl) mlen (by decide +kernel) (pa_cons (pv 0) pa_nil)) pe_int (nomark _))))) (pss_one ps_never) pss_nil) (pss_one (ps_if (PW.pt (pw_or (pt_not (pt_val (pe_cl C_is_short (hr.mono (by decide)) (by rfl) pass0 (pa_cons (pe_ix ix_tup (pv 0) pe_int (fun _ _ => rfl)) pa_nil)))) (pw_or (pt_not (pt_val (pe_cl C_is_short (hr.mono (by decide)) (by rfl) pass0 (pa_cons (pe_ix ix_tup (pv 0) pe_int (fun _ _ => rfl)) pa_nil)))) (pw_or1 (pt_cmpR (op_eqD hr.units) (pv 0) (pe_tupG (pa_cons pe_int (pa_cons pe_int pa_nil))) (nomark _)))))) (pss_one ps_never) pss_nil))), ?_⟩
    have hd1 := hd.at_
    repeat array_get_dec
    refine ⟨hd.bu, ?_⟩
    repeat array_get_dec
    refine ⟨hd.bv, ?_⟩
    repeat array_get_dec
    refine fun p1 H1 s1 n1 e1 => ?_
    refine w_eqT (ns := [u, v]) (s1 _ _ hd1) (ms := [0, 0]) e1 ?_
    rw [decide_eq_false fun h => hd.ne ⟨(List.cons.inj h).1, (List.cons.inj (List.cons.inj h).2).1⟩]
    repeat array_get_dec
    exact q _ s1
abbrev s_extreme : Stmt := topS 35
abbrev n_extreme : List Str := ["sites", "direction", "rows", "u", "v", "far", "x", "y"]
theorem c_extreme : FnScope n_extreme ["sites", "direction"] (defScope s_extreme) := ⟨rfl, rfl, rfl, by decide +kernel, rfl, by decide +kernel, by decide +kernel⟩
theorem range_getD {α : Type} (l : List α) (d : α) : (List.range l.length).map (fun i => l.getD i d) = l := by
  apply List.ext_getElem?
  intro j
  rw [List.getElem?_map]
  by_cases c : j < l.length
  · rw [List.getElem?_range c, Option.map_some, List.getD_eq_getElem?_getD, List.getElem?_eq_getElem c]
    rfl
  · rw [List.getElem?_eq_none (by rw [List.length_range]; omega), List.getElem?_eq_none (by omega)]
    rfl
theorem range_filter {α : Type} (l : List α) (d : α) (c : α → Bool) : ((List.range l.length).filter (fun i => c (l.getD i d))).map (fun i => l.getD i d) = l.filter c := by
  have := List.filter_map (f := fun i => l.getD i d) (p := c) (l := List.range l.length)
  rw [range_getD] at this
  exact this.symm
theorem getD_at {α : Type} {l : List α} {i : Nat} {x d : α} (h : l[i]? = some x) : l.getD i d = x := by
  rw [List.getD_eq_getElem?_getD, h]
  rfl
/-- none of the rows is farther -/
def farB (u v : Int) (rows : List Pt) (r : Pt) : Bool := rows.all fun s => decide (u * s.1 + v * s.2 ≤ u * r.1 + v * r.2)
def p_extreme : Sp := fun vs H Q _ => ∃ (p t : Addr) (ts rs : List Addr) (f : Addr → Int × Int) (p0 q : Pt) (u v : Int), vs = [.ref p, .ref t] ∧ Lot f H p ts ∧ rs.Perm ts ∧ Ends2 (rs.map f) p0 q ∧ DirA H t u v ∧
  ∀ (H' : Hp) (b : Addr) (ks : List Addr), Same H H' → H' b = some (.lst (ks.map V.ref)) → (∀ k ∈ ks, Sit H' k (hv H' k).1 (hv H' k).2) → ks.map (hv H') = (rs.map f).filter (farB u v (rs.map f)) → Q (.ref b) H'
set_option pp.maxSteps 300 in
theorem ok_extreme  (D : Df K mg "extreme" s_extreme ["sites", "direction"]) (C_ascending : Cl P w K mg base CX0 "ascending" 2 ["sites"] (p_ascending)) (C_check_direction : Cl P w K mg base CX0 "check_direction" 3 ["value", "name"] (p_check_direction)) (mmax : mg "max" = none) : Cl P w K mg base CX0 "extreme" 4 ["sites", "direction"] (p_extreme) := by
  refine D.cl fun f fd F => F.ok c_extreme (fun vs H Q E h => ?_) (fun cdv A outer s H vs Q E hr h => ?_)
  · obtain ⟨p, t, ts, rs, g, p0, q0, u, v, rfl, hl, pm, he, hd, q⟩ := h
    rfl
  · obtain ⟨p, t, ts, rs, g, p0, q0, u, v, rfl, hl, pm, he, hd, q⟩ := h
    have nd := c_extreme.nd
    have hu : _ := hu_of hr
    refine ⟨_, (pss_cons (ps_set (i := 2) nd rfl (.inl rfl) (pe_cl C_ascending (hr.mono (by decide)) (by rfl) pass0 (pa_cons (pv 0) pa_nil))) (pss_cons (ps_expr (pe_cl C_check_direction (hr.mono (by decide)) (by rfl) pass0 (pa_cons (pv 1) (pa_cons pe_str pa_nil)))) (pss_cons (ps_asg (pv 1) (pg_tup (by rfl) (pgs_cons (pg_name (i := 3) nd rfl (.inr rfl)) (pgs_cons (pg_name (i := 4) nd rfl (.inr rfl)) pgs_nil)))) (pss_cons (ps_set (i := 5) nd rfl (.inr rfl) (pe_callB (id := "max") (r := rMax K) (by exact (cr_max rfl)) (by rfl) mmax (by decide +kernel) (pa_cons (pe_lc (own := [("x", 6), ("y", 7)]) (g := (gTup K 2 (gCons (gName 6) (gCons (gName 7) gNil)))) (tt := tYes)  rfl nd (pi_list (pv 2)) (blkOk_by (own := [("x", 6), ("y", 7)]) (N := n_extreme) (sc := defScope s_extreme) (by decide +kernel)) (fun _ _ _ _ _ => by exact (pg_tup (by rfl) (pgs_cons (pg_name (i := 6) nd rfl (.inl rfl)) (pgs_cons (pg_name (i := 7) nd rfl (.inl rfl)) pgs_nil)))) (fun _ _ _ _ _ => by exact pts_nil) (fun _ _ _ _ _ => by exact (pe_op op_add (pe_op op_mulW (pv 3) (pv 6)) (pe_op op_mulW (pv 4) (pv 7))))) pa_nil))) (pss_one (ps_ret (pe_lc (own := [("x", 6), ("y", 7)]) (g := (gTup K 2 (gCons (gName 6) (gCons (gName 7) gNil))))  rfl nd (pi_list (pv 2)) (blkOk_by (own := [("x", 6), ("y", 7)]) (N := n_extreme) (sc := defScope s_extreme) (by decide +kernel)) (fun _ _ _ _ _ => by exact (pg_tup (by rfl) (pgs_cons (pg_name (i := 6) nd rfl (.inl rfl)) (pgs_cons (pg_name (i := 7) nd rfl (.inl rfl)) pgs_nil)))) (fun _ _ _ _ _ => by exact (pts_one (pt_cmpR op_eq (pe_op op_add (pe_op op_mulW (pv 3) (pv 6)) (pe_op op_mulW (pv 4) (pv 7))) (pv 5) (nomark _)))) (fun _ _ _ _ _ => by exact (pe_tupG (pa_cons (pv 6) (pa_cons (pv 7) pa_nil))))))))))), ?_⟩
    repeat array_get_dec
    refine ⟨p, ts, g, rfl, hl, fun us p' H1 pm1 so1 s1 n1 hl1 => ?_⟩
    have e := perm_map_eq pm pm1 he.so so1
    have hd1 := hd.same s1
    repeat array_get_dec
    refine ⟨t, u, v, _, rfl, hd1, fun H2 s2 => ?_⟩
    have hl2 := hl1.same s2
    have hd2 := (hd1.same s2).at_
    have lus : (us.map V.ref).length = us.length := List.length_map _
    have lpt : (us.map g).length = us.length := List.length_map _
    have hfew := hl1.few
    have hu1 := hd.bu.lt
    have hv1 := hd.bv.lt
    have hu2 : u.natAbs < 2 ^ 100 := by omega
    have hv2 : v.natAbs < 2 ^ 100 := by omega
    repeat array_get_dec
    refine ⟨⟨_, SqL.of hl2.at_⟩, fun D nD => ?_⟩
    refine lc_val (walk_list (xs := us.map V.ref)) nD (by omega) (fun H3 s3 => SqL.of (s3 _ _ hl2.at_)) ((us.map fun k => u * (g k).1 + v * (g k).2).map V.int) (by simp) (fun i x y H3 H4 Kp hy s3 eD yi fin => ?_) fun H3 s3 eD => ?_
    · obtain ⟨rfl, hx⟩ := yi
      obtain ⟨k, ek, rfl, mk⟩ := ref_at hx
      have zk := (hl2.same s3).sit k mk
      obtain ⟨b1, b2, b3, b4⟩ := zk.2
      refine ⟨k, _, rfl, SqT.of zk.1, rfl, ?_⟩
      repeat array_get_dec
      have ey : y = .int (u * (g k).1 + v * (g k).2) := by
        rw [List.getElem?_map, List.getElem?_map, ek] at hy
        exact (Option.some.inj hy).symm
      show Kp (.int (u * (g k).1 + v * (g k).2)) H4
      rw [← ey]
      exact fin _ (Same.refl _)
    · repeat array_get_dec
      refine ⟨D, us.map fun k => u * (g k).1 + v * (g k).2, rfl, SqL.of eD, by rw [List.length_map]; exact hl1.pos, fun m hm hle => ?_⟩
      repeat array_get_dec
      have hl3 := hl2.same s3
      refine ⟨⟨_, SqL.of hl3.at_⟩, fun D2 nD2 => ?_⟩
      refine lc_new (walk_list (xs := us.map V.ref)) nD2 (by omega) (fun H4 s4 => SqL.of (s4 _ _ hl3.at_)) (fun i => decide (V.int (u * ((us.map g).getD i (0, 0)).1 + v * ((us.map g).getD i (0, 0)).2) = V.int m)) (fun i => .tup [.int ((us.map g).getD i (0, 0)).1, .int ((us.map g).getD i (0, 0)).2]) (fun i x H4 H5 Kp Kn hi s4 eD2 yi fin finN => ?_) fun H4 ks s4 eD2 nw => ?_
      · obtain ⟨rfl, hx⟩ := yi
        obtain ⟨k, ek, rfl, mk⟩ := ref_at hx
        have zk := (hl3.same s4).sit k mk
        obtain ⟨b1, b2, b3, b4⟩ := zk.2
        have eg : (us.map g).getD i (0, 0) = g k := getD_at (by rw [List.getElem?_map, ek]; rfl)
        rw [eg] at fin finN
        refine ⟨k, _, rfl, SqT.of zk.1, rfl, ?_⟩
        repeat array_get_dec
        refine w_ifd (fun c => ?_) fun c => ?_
        · repeat array_get_dec
          exact fun t2 H6 s6 n6 e6 => fin t2 H6 (decide_eq_true c) s6 n6 e6
        · exact finN _ (decide_eq_false c) (Same.refl _)
      · rw [lus, ← lpt] at nw
        refine q _ _ _ (((s1.trans s2).trans s3).trans s4) eD2 (fun k mk => (nw.at_ k mk).2.1) ?_
        rw [nw.map, range_filter (us.map g) (0, 0) fun r => decide (V.int (u * r.1 + v * r.2) = V.int m), e]
        refine List.filter_congr fun r hr => ?_
        rw [← e] at hr ⊢
        obtain ⟨k, mk, rfl⟩ := List.mem_map.mp hr
        have hle' : ∀ s ∈ us.map g, u * s.1 + v * s.2 ≤ m := fun s hs => by
          obtain ⟨k2, mk2, rfl⟩ := List.mem_map.mp hs
          exact hle _ (List.mem_map.mpr ⟨k2, mk2, rfl⟩)
        obtain ⟨k0, mk0, rfl⟩ := List.mem_map.mp hm
        have hk := hle' _ hr
        have h0 : g k0 ∈ us.map g := List.mem_map_of_mem mk0
        rw [Bool.eq_iff_iff]
        unfold farB
        rw [decide_eq_true_eq, List.all_eq_true]
        constructor
        · intro z s hs
          injection z with z
          rw [decide_eq_true_eq, z]
          exact hle' s hs
        · intro z
          have := of_decide_eq_true (z _ h0)
          exact congrArg V.int (Int.le_antisymm hk this)
end
/-! ### a purse of draws -/
section
variable {P : Program} {w : World} {K : PySem.W.Frag} {mg : Str → Option Value} {base : Heap}
/-- a source whose count of draws is at most N -/
def SrcB (N : Nat) (H : Hp) (s : Addr) : Prop := ∃ a b c : Int, H s = some (.lst [.int a, .int b, .int c]) ∧ b.natAbs < 2 ^ 31 ∧ c.natAbs ≤ N
theorem SrcB.src {N : Nat} {H : Hp} {s : Addr} (h : SrcB N H s) : Src H s := by
  obtain ⟨a, b, c, e, _⟩ := h
  exact ⟨a, b, c, e⟩
theorem SrcB.up {N M : Nat} {H : Hp} {s : Addr} (h : SrcB N H s) (le : N ≤ M) : SrcB M H s := by
  obtain ⟨a, b, c, e, k, l⟩ := h
  exact ⟨a, b, c, e, k, Nat.le_trans l le⟩
theorem SrcB.same {N : Nat} {H H' : Hp} {s : Addr} (h : SrcB N H s) (k : Same H H') : SrcB N H' s := by
  obtain ⟨a, b, c, e, r⟩ := h
  exact ⟨a, b, c, k _ _ e, r⟩
abbrev s__law_purse : Stmt := topS 37
abbrev n__law_purse : List Str := ["_law_figure"]
theorem c__law_purse : FnScope n__law_purse ["_law_figure"] (defScope s__law_purse) := ⟨rfl, rfl, rfl, by decide +kernel, rfl, by decide +kernel, by decide +kernel⟩
def p__law_purse : Sp := fun vs H Q _ => ∃ n : Int, vs = [.int n] ∧ ∀ p H', Same H H' → H p = none → SrcB 3 H' p → Q (.ref p) H'
set_option pp.maxSteps 300 in
theorem ok__law_purse  (D : Df K mg "_law_purse" s__law_purse ["_law_figure"]) (mabs : mg "abs" = none) (mint : mg "int" = none) : Cl P w K mg base CX0 "_law_purse" 1 ["_law_figure"] (p__law_purse) := by
  refine D.cl fun f fd F => F.ok c__law_purse (fun vs H Q E h => ?_) (fun cdv A outer s H vs Q E hr h => ?_)
  · obtain ⟨n, rfl, q⟩ := h
    rfl
  · obtain ⟨n, rfl, q⟩ := h
    have nd := c__law_purse.nd
    have hu : _ := hu_of hr
    refine ⟨_, (pss_one (ps_ret (pe_lstG (pa_cons (pe_op op_mul (pe_callB call_abs (by rfl) mabs (by decide +kernel) (pa_cons (pv 0) pa_nil)) (pe_callTy call_int1 (by rfl) mint (by decide +kernel) (pa_cons (pe_cmpR op_ge (pe_callB call_abs (by rfl) mabs (by decide +kernel) (pa_cons (pv 0) pa_nil)) (pe_op op_pow pe_int pe_int) (nomark _)) pa_nil))) (pa_cons (pe_op op_mod (pe_callTy call_int1 (by rfl) mint (by decide +kernel) (pa_cons (pv 0) pa_nil)) pe_int) (pa_cons pe_int pa_nil)))))), ?_⟩
    refine ⟨_, rfl, _, rfl, _, rfl, _, rfl, _, _, rfl, rfl, ⟨by decide, by decide, by decide⟩, _, _, rfl, rfl, .inr ⟨_, rfl, _, _, rfl, rfl, .inr (b2i_small _), ?_⟩⟩
    refine ⟨_, rfl, .inl ⟨_, rfl, _, _, rfl, rfl, (by decide : (0 : Int) < 2147483563), by show 3 ≤ sizeLine; decide, fun p H' sm np e => q p H' sm np ⟨_, _, _, e, ?_, by decide⟩⟩⟩
    have h1 : 0 ≤ n % 2147483563 := Int.emod_nonneg _ (by decide)
    have h2 : n % 2147483563 < 2147483563 := Int.emod_lt_of_pos _ (by decide)
    omega
abbrev s__law_coin : Stmt := topS 38
abbrev n__law_coin : List Str := ["_law_purse_here", "_law_many", "_law_got_so", "_law_hashed"]
theorem c__law_coin : FnScope n__law_coin ["_law_purse_here", "_law_many"] (defScope s__law_coin) := ⟨rfl, rfl, rfl, by decide +kernel, rfl, by decide +kernel, by decide +kernel⟩
def p__law_coin : Sp := fun vs H Q _ => ∃ (s : Addr) (m : Int) (N : Nat), vs = [.ref s, .int m] ∧ SrcB N H s ∧ N < 2 ^ 40 ∧ 0 < m ∧ m.natAbs < 2 ^ 8000 ∧ ∀ (r : Int) H', 0 ≤ r → r < m → Stp s H H' → SrcB (N + 1) H' s → Q (.int r) H'
set_option pp.maxSteps 300 in
theorem ok__law_coin  (D : Df K mg "_law_coin" s__law_coin ["_law_purse_here", "_law_many"]) (mint : mg "int" = none) : Cl P w K mg base CX0 "_law_coin" 1 ["_law_purse_here", "_law_many"] (p__law_coin) := by
  refine D.cl fun f fd F => F.ok c__law_coin (fun vs H Q E h => ?_) (fun cdv A outer s H vs Q E hr h => ?_)
  · obtain ⟨s, m, N, rfl, ⟨a, b, c, hs, hb, hc⟩, hN, hm, hw, q⟩ := h
    rfl
  · obtain ⟨s, m, N, rfl, ⟨a, b, c, hs, hb, hc⟩, hN, hm, hw, q⟩ := h
    have nd := c__law_coin.nd
    have hu : _ := hu_of hr
    refine ⟨_, (pss_cons (ps_if (pt_cmpR op_gt (pe_ix ix_list (pv 0) pe_int (fun _ _ => rfl)) pe_int (nomark _)) (pss_cons (ps_set (i := 2) nd rfl (.inl rfl) (pe_op op_mod (pe_callTy call_int1 (by rfl) mint (by decide +kernel) (pa_cons (pe_ix ix_list (pv 0) pe_int (fun _ _ => rfl)) pa_nil)) (pv 1))) (pss_cons (ps_asg (pe_op op_fdivE (pe_ix ix_list (pv 0) pe_int (fun _ _ => rfl)) (pv 1)) (pg_sub (pv 0) pe_int set_list)) (pss_one (ps_ret (pv 2))))) pss_nil) (pss_cons (ps_asg (pe_op op_add (pe_ix ix_list (pv 0) pe_int (fun _ _ => rfl)) pe_int) (pg_sub (pv 0) pe_int set_list)) (pss_cons (ps_set (i := 3) nd rfl (.inl rfl) (pe_op op_mod (pe_callTy call_int1 (by rfl) mint (by decide +kernel) (pa_cons (pe_op op_pow (pe_op op_add (pe_op op_add (pe_ix ix_list (pv 0) pe_int (fun _ _ => rfl)) (pe_op op_mul pe_int (pe_ix ix_list (pv 0) pe_int (fun _ _ => rfl)))) pe_int) pe_int) pa_nil)) pe_int)) (pss_cons (ps_set (i := 3) nd rfl (.inl rfl) (pe_op op_mod (pe_callTy call_int1 (by rfl) mint (by decide +kernel) (pa_cons (pe_op op_mul (pe_op op_add (pv 3) (pe_op op_mul pe_int (pe_ix ix_list (pv 0) pe_int (fun _ _ => rfl)))) (pe_op op_add (pe_op op_fdiv (pv 3) pe_int) pe_int)) pa_nil)) pe_int)) (pss_one (ps_ret (pe_op op_mod (pe_callTy call_int1 (by rfl) mint (by decide +kernel) (pa_cons (pe_op op_fdiv (pe_op op_mod (pe_callTy call_int1 (by rfl) mint (by decide +kernel) (pa_cons (pe_op op_mul (pv 3) (pe_op op_add (pe_op op_fdiv (pv 3) pe_int) pe_int)) pa_nil)) pe_int) pe_int) pa_nil)) (pv 1)))))))), ?_⟩
    have at0 : ∀ x y z : V, atI [x, y, z] 0 = some x := fun _ _ _ => rfl
    refine ⟨_, rfl, s, _, _, _, rfl, rfl, SqL.of hs, at0 _ _ _, _, _, rfl, rfl, _, rfl, ite2 (fun g => ?_) fun g => ?_⟩
    · refine ⟨_, rfl, s, _, _, _, rfl, rfl, SqL.of hs, at0 _ _ _, .inl ⟨_, rfl, _, rfl, _, _, rfl, rfl, hm, ?_⟩⟩
      refine ⟨_, rfl, s, _, _, _, rfl, rfl, SqL.of hs, at0 _ _ _, _, rfl, _, _, rfl, rfl, ⟨by omega, hw⟩, ?_⟩
      refine ⟨_, rfl, s, _, 0, 0, rfl, rfl, hs, rfl, ?_⟩
      exact ⟨_, rfl, q _ _ (Int.emod_nonneg _ (Int.ne_of_gt hm)) (Int.emod_lt_of_pos _ hm) ((Stp.refl ⟨a, b, c, hs⟩).turn _ _ _) ⟨_, b, c, upd_same, hb, Nat.le_succ_of_le hc⟩⟩
    · refine ⟨_, rfl, s, _, _, _, rfl, rfl, SqL.of hs, rfl, _, _, rfl, rfl, ?_⟩
      refine ⟨_, rfl, s, _, 2, 2, rfl, rfl, hs, rfl, ?_⟩
      have h2 : (upd H s (.lst [.int a, .int b, .int (c + 1)])) s = some (.lst [.int a, .int b, .int (c + 1)]) := upd_same
      have p1 : (0 : Int) < 2147483587 := by decide
      have p2 : (0 : Int) < 2147483549 := by decide
      have p3 : (0 : Int) < 2147483543 := by decide
      have small : (b + 70001 * (c + 1) + 7).natAbs < 2 ^ 64 := by omega
      refine ⟨_, rfl, s, _, _, _, rfl, rfl, SqL.of h2, rfl, _, rfl, s, _, _, _, rfl, rfl, SqL.of h2, rfl, _, _, rfl, rfl, .inl ⟨by decide, by decide⟩, _, _, rfl, rfl, _, _, rfl, rfl, _, _, rfl, rfl, ⟨by decide, by decide, small⟩, .inl ⟨_, rfl, _, _, rfl, rfl, p1, ?_⟩⟩
      have b1 : 0 ≤ (b + 70001 * (c + 1) + 7) ^ (3 : Int).toNat % 2147483587 := Int.emod_nonneg _ (Int.ne_of_gt p1)
      have b2 : (b + 70001 * (c + 1) + 7) ^ (3 : Int).toNat % 2147483587 < 2147483587 := Int.emod_lt_of_pos _ p1
      generalize (b + 70001 * (c + 1) + 7) ^ (3 : Int).toNat % 2147483587 = n1 at b1 b2
      refine ⟨_, rfl, _, rfl, s, _, _, _, rfl, rfl, SqL.of h2, rfl, _, _, rfl, rfl, .inl ⟨by decide, by decide⟩, _, _, rfl, rfl, _, rfl, _, _, rfl, rfl, ⟨by decide, by decide⟩, _, _, rfl, rfl, _, _, rfl, rfl, .inr ⟨by omega, by omega⟩, .inl ⟨_, rfl, _, _, rfl, rfl, p2, ?_⟩⟩
      have c1 : 0 ≤ (n1 + 11 * (c + 1)) * (n1 / 1009 + 48611) % 2147483549 := Int.emod_nonneg _ (Int.ne_of_gt p2)
      have c2 : (n1 + 11 * (c + 1)) * (n1 / 1009 + 48611) % 2147483549 < 2147483549 := Int.emod_lt_of_pos _ p2
      generalize (n1 + 11 * (c + 1)) * (n1 / 1009 + 48611) % 2147483549 = n2 at c1 c2
      refine ⟨_, rfl, _, rfl, _, _, rfl, rfl, ⟨by decide, by decide⟩, _, _, rfl, rfl, _, _, rfl, rfl, .inl ⟨by omega, by omega⟩, .inl ⟨_, rfl, _, _, rfl, rfl, p3, ?_⟩⟩
      refine ⟨_, _, rfl, rfl, ⟨by decide, by decide⟩, .inl ⟨_, rfl, _, rfl, _, _, rfl, rfl, hm, ?_⟩⟩
      exact q _ _ (Int.emod_nonneg _ (Int.ne_of_gt hm)) (Int.emod_lt_of_pos _ hm) ((Stp.refl ⟨a, b, c, hs⟩).turn _ _ _) ⟨a, b, c + 1, upd_same, hb, by omega⟩
abbrev s__law_pick : Stmt := topS 39
abbrev n__law_pick : List Str := ["_law_purse_here", "_law_some"]
theorem c__law_pick : FnScope n__law_pick ["_law_purse_here", "_law_some"] (defScope s__law_pick) := ⟨rfl, rfl, rfl, by decide +kernel, rfl, by decide +kernel, by decide +kernel⟩
/-- one of some, the source at s -/
def p__law_pick : Sp := fun vs H Q _ => ∃ (s l : Addr) (xs : List V) (N : Nat), vs = [.ref s, .ref l] ∧ SrcB N H s ∧ N < 2 ^ 40 ∧ H l = some (.lst xs) ∧ l ≠ s ∧ 0 < xs.length ∧ xs.length ≤ 1000 ∧ ∀ x H', x ∈ xs → Stp s H H' → SrcB (N + 1) H' s → Q x H'
set_option pp.maxSteps 300 in
theorem ok__law_pick  (D : Df K mg "_law_pick" s__law_pick ["_law_purse_here", "_law_some"]) (C__law_coin : Cl P w K mg base CX0 "_law_coin" 1 ["_law_purse_here", "_law_many"] (p__law_coin)) (mlen : mg "len" = none) : Cl P w K mg base CX0 "_law_pick" 2 ["_law_purse_here", "_law_some"] (p__law_pick) := by
  refine D.cl fun f fd F => F.ok c__law_pick (fun vs H Q E h => ?_) (fun cdv A outer s H vs Q E hr h => ?_)
  · obtain ⟨s, l, xs, N, rfl, hs, hN, hl, hne, h0, h1, q⟩ := h
    rfl
  · obtain ⟨s, l, xs, N, rfl, hs, hN, hl, hne, h0, h1, q⟩ := h
    have nd := c__law_pick.nd
    have hu : _ := hu_of hr
    refine ⟨_, (pss_one (ps_ret (pe_ix ix_list (pv 1) (pe_cl C__law_coin (hr.mono (by decide)) (by rfl) pass0 (pa_cons (pv 0) (pa_cons (pe_callB call_len_seq (by rfl) mlen (by decide +kernel) (pa_cons (pv 1) pa_nil)) pa_nil))) (fun _ _ => rfl)))), ?_⟩
    refine ⟨_, rfl, _, rfl, _, rfl, l, xs, rfl, .inl (SqL.of hl), ?_⟩
    have small : ((xs.length : Nat) : Int).natAbs < 2 ^ 8000 := by
      rw [Int.natAbs_natCast]
      exact Nat.lt_of_le_of_lt h1 (Nat.lt_of_lt_of_le (by decide : 1000 < 2 ^ 10) (Nat.pow_le_pow_right (by decide) (by decide)))
    refine ⟨s, xs.length, N, rfl, hs, hN, by omega, small, fun r H' r0 r1 st sb => ?_⟩
    have hl' := st.keep l _ hne hl
    have hr : r.toNat < xs.length := by omega
    have at1 : atI xs r = some xs[r.toNat] := by
      have z := atI_nat (List.getElem?_eq_getElem hr)
      rwa [Int.toNat_of_nonneg r0] at z
    exact ⟨l, xs, r, _, rfl, rfl, SqL.of hl', at1, q _ _ (List.getElem_mem hr) st sb⟩
/-- from H0 all stands but the source, of which at most N were drawn -/
structure SB (s : Addr) (N : Nat) (H0 H : Hp) : Prop where
  st : Stp s H0 H
  sb : SrcB N H s
theorem SB.refl {s : Addr} {N : Nat} {H : Hp} (h : SrcB N H s) : SB s N H H := ⟨Stp.refl h.src, h⟩
theorem SB.same {s : Addr} {N : Nat} {H0 H H' : Hp} (h : SB s N H0 H) (k : Same H H') : SB s N H0 H' := ⟨h.st.same k, h.sb.same k⟩
theorem SB.step {s : Addr} {N M : Nat} {H0 H H' : Hp} (h : SB s N H0 H) (a : Stp s H H') (b : SrcB M H' s) : SB s M H0 H' := ⟨h.st.trans a, b⟩
theorem SrcB.ne {N : Nat} {H : Hp} {s p : Addr} (h : SrcB N H s) (e : H p = none) : p ≠ s := h.src.nen e
theorem i_small {m : Int} (h : m.natAbs < 2 ^ 64) : m.natAbs < 2 ^ 8000 := Nat.lt_of_lt_of_le h (Nat.pow_le_pow_right (by decide) (by decide))
end
/-! ### sites that are drawn -/
section
variable {P : Program} {w : World} {K : PySem.W.Frag} {mg : Str → Option Value} {base : Heap}
/-- a spot: two numbers within bounds -/
def Spot (a b : Int) (H : Hp) (k : Addr) : Prop := ∃ x y : Int, Sit H k x y ∧ a ≤ x ∧ x ≤ b ∧ a ≤ y ∧ y ≤ b
theorem Spot.same {a b : Int} {H H' : Hp} {k : Addr} (h : Spot a b H k) (s : Same H H') : Spot a b H' k := by
  obtain ⟨x, y, e, r⟩ := h
  exact ⟨x, y, s _ _ e, r⟩
theorem Spot.wide {a b c d : Int} {H : Hp} {k : Addr} (h : Spot a b H k) (h1 : c ≤ a) (h2 : b ≤ d) : Spot c d H k := by
  obtain ⟨x, y, e, r1, r2, r3, r4⟩ := h
  exact ⟨x, y, e, by omega, by omega, by omega, by omega⟩
theorem Spot.ne {a b : Int} {H : Hp} {k s : Addr} {N : Nat} (h : Spot a b H k) (hs : SrcB N H s) : k ≠ s := by
  obtain ⟨x, y, e, _⟩ := h
  obtain ⟨_, _, _, e2, _⟩ := hs
  rintro rfl
  unfold Sit at e
  rw [e] at e2
  cases e2
/-- a list of spots -/
structure Spots (a b : Int) (H : Hp) (p : Addr) (ks : List Addr) : Prop where
  at_ : H p = some (.lst (ks.map V.ref))
  each : ∀ k ∈ ks, Spot a b H k
theorem Spots.same {a b : Int} {H H' : Hp} {p : Addr} {ks : List Addr} (h : Spots a b H p ks) (s : Same H H') : Spots a b H' p ks := ⟨s _ _ h.at_, fun k m => (h.each k m).same s⟩
theorem Spots.wide {a b c d : Int} {H : Hp} {p : Addr} {ks : List Addr} (h : Spots a b H p ks) (h1 : c ≤ a) (h2 : b ≤ d) : Spots c d H p ks := ⟨h.at_, fun k m => (h.each k m).wide h1 h2⟩
theorem refs_ne {H : Hp} {p s : Addr} {ks : List Addr} {N : Nat} (h : H p = some (.lst (ks.map V.ref))) (hs : SrcB N H s) : p ≠ s := by
  obtain ⟨_, _, _, e2, _⟩ := hs
  rintro rfl
  rw [h] at e2
  cases ks with
  | nil => cases e2
  | cons k ks => cases e2
theorem Spots.stp {a b : Int} {H H' : Hp} {p s : Addr} {ks : List Addr} {N : Nat} (h : Spots a b H p ks) (hs : SrcB N H s) (st : Stp s H H') : Spots a b H' p ks := by
  refine ⟨st.keep _ _ (refs_ne h.at_ hs) h.at_, fun k m => ?_⟩
  have n := (h.each k m).ne hs
  obtain ⟨x, y, e, r⟩ := h.each k m
  exact ⟨x, y, st.keep _ _ n e, r⟩
theorem News.spots {a b : Int} {H : Hp} {D : Addr} {p : Nat → Int × Int} {L : List Nat} {ks : List Addr} (h : News H D (fun i => .tup [.int (p i).1, .int (p i).2]) L ks) (e : H D = some (.lst (ks.map V.ref))) (r : ∀ i ∈ L, a ≤ (p i).1 ∧ (p i).1 ≤ b ∧ a ≤ (p i).2 ∧ (p i).2 ≤ b) : Spots a b H D ks := by
  refine ⟨e, fun k m => ?_⟩
  obtain ⟨_, e1, i, mi, e2⟩ := h.at_ k m
  have := r i mi
  rw [← e2] at this
  exact ⟨_, _, e1, this⟩
theorem Spot.hv {a b : Int} {H : Hp} {k : Addr} (h : Spot a b H k) : Sit H k (hv H k).1 (hv H k).2 ∧ a ≤ (hv H k).1 ∧ (hv H k).1 ≤ b ∧ a ≤ (hv H k).2 ∧ (hv H k).2 ≤ b := by
  obtain ⟨x, y, e, r⟩ := h
  rw [hv_of e]
  exact ⟨e, r⟩
theorem two_at {a b : Addr} {i : Nat} {x : V} (h : [V.ref a, V.ref b][i]? = some x) : x = .ref a ∨ x = .ref b := by
  match i, h with
  | 0, h => exact .inl (Option.some.inj h).symm
  | 1, h => exact .inr (Option.some.inj h).symm
theorem Spots.cat {a b : Int} {H : Hp} {p q r : Addr} {ks ls : List Addr} (h : Spots a b H p ks) (k : Spots a b H q ls) (e : H r = some (.lst (ks.map V.ref ++ ls.map V.ref))) : Spots a b H r (ks ++ ls) :=
  ⟨by rw [List.map_append]; exact e, fun x m => (List.mem_append.mp m).elim (h.each x) (k.each x)⟩
theorem hv_same {a b : Int} {H H' : Hp} {k : Addr} (h : Spot a b H k) (s : Same H H') : hv H' k = hv H k := by
  obtain ⟨x, y, e, _⟩ := h
  rw [hv_of e, hv_of (s _ _ e)]
theorem st12_free {s p : Addr} {H H1 H2 : Hp} (a : Stp s H H1) (b : Stp s H1 H2) (n : H2 p = none) : H p = none := by
  have ab := a.trans b
  cases e : H p with
  | none => rfl
  | some o =>
    by_cases c : p = s
    · obtain ⟨_, _, _, z⟩ := ab.src
      rw [c, z] at n
      cases n
    · rw [ab.keep _ _ c e] at n
      cases n
abbrev s__law_ring : Stmt := topS 40
abbrev n__law_ring : List Str := ["_law_purse_here", "_law_x", "_law_y", "_law_rows_so", "_law_u", "_law_v"]
theorem c__law_ring : FnScope n__law_ring ["_law_purse_here"] (defScope s__law_ring) := ⟨rfl, rfl, rfl, by decide +kernel, rfl, by decide +kernel, by decide +kernel⟩
def p__law_ring : Sp := fun vs H Q _ => ∃ (s : Addr) (N : Nat), vs = [.ref s] ∧ SrcB N H s ∧ N < 2 ^ 39 ∧ ∀ p ks H', SB s (N + 2) H H' → Spots (-9) 9 H' p ks → ks.length = 12 → H p = none → Q (.ref p) H'
set_option pp.maxSteps 300 in
theorem ok__law_ring  (D : Df K mg "_law_ring" s__law_ring ["_law_purse_here"]) (C__law_coin : Cl P w K mg base CX0 "_law_coin" 1 ["_law_purse_here", "_law_many"] (p__law_coin)) : Cl P w K mg base CX0 "_law_ring" 2 ["_law_purse_here"] (p__law_ring) := by
  refine D.cl fun f fd F => F.ok c__law_ring (fun vs H Q E h => ?_) (fun cdv A outer s H vs Q E hr h => ?_)
  · obtain ⟨s, N, rfl, hs, hN, q⟩ := h
    rfl
  · obtain ⟨s, N, rfl, hs, hN, q⟩ := h
    have nd := c__law_ring.nd
    have hu : _ := hu_of hr
    refine ⟨_, (pss_cons (ps_asg (pe_tupG (pa_cons (pe_op op_sub (pe_cl C__law_coin (hr.mono (by decide)) (by rfl) pass0 (pa_cons (pv 0) (pa_cons pe_int pa_nil))) pe_int) (pa_cons (pe_op op_sub (pe_cl C__law_coin (hr.mono (by decide)) (by rfl) pass0 (pa_cons (pv 0) (pa_cons pe_int pa_nil))) pe_int) pa_nil))) (pg_tup (by rfl) (pgs_cons (pg_name (i := 1) nd rfl (.inr rfl)) (pgs_cons (pg_name (i := 2) nd rfl (.inr rfl)) pgs_nil)))) (pss_cons (ps_set (i := 3) nd rfl (.inl rfl) (pe_lstG (pa_cons (pe_tupG (pa_cons pe_int (pa_cons pe_int pa_nil))) (pa_cons (pe_tupG (pa_cons pe_int (pa_cons pe_int pa_nil))) (pa_cons (pe_tupG (pa_cons pe_neg (pa_cons pe_int pa_nil))) (pa_cons (pe_tupG (pa_cons pe_int (pa_cons pe_neg pa_nil))) pa_nil)))))) (pss_cons (ps_for PassesOwn.never rfl (pi_tup (pe_tupG (pa_cons (pe_tupG (pa_cons pe_int (pa_cons pe_int pa_nil))) (pa_cons (pe_tupG (pa_cons pe_int (pa_cons pe_int pa_nil))) pa_nil)))) (pg_tup (by rfl) (pgs_cons (pg_name (i := 4) nd rfl (.inl rfl)) (pgs_cons (pg_name (i := 5) nd rfl (.inl rfl)) pgs_nil))) (pss_one (ps_set (i := 3) nd rfl (.inl rfl) (pe_op op_catG (pv 3) (pe_lstG (pa_cons (pe_tupG (pa_cons (pv 4) (pa_cons (pv 5) pa_nil))) (pa_cons (pe_tupG (pa_cons (pe_op op_sub pe_int (pv 4)) (pa_cons (pv 5) pa_nil))) (pa_cons (pe_tupG (pa_cons (pv 4) (pa_cons (pe_op op_sub pe_int (pv 5)) pa_nil))) (pa_cons (pe_tupG (pa_cons (pe_op op_sub pe_int (pv 4)) (pa_cons (pe_op op_sub pe_int (pv 5)) pa_nil))) pa_nil))))))))) (pss_one (ps_ret (pe_lc (own := [("_law_u", 4), ("_law_v", 5)]) (g := (gTup K 2 (gCons (gName 4) (gCons (gName 5) gNil)))) (tt := tYes)  rfl nd (pi_list (pv 3)) (blkOk_by (own := [("_law_u", 4), ("_law_v", 5)]) (N := n__law_ring) (sc := defScope s__law_ring) (by decide +kernel)) (fun _ _ _ _ _ => by exact (pg_tup (by rfl) (pgs_cons (pg_name (i := 4) nd rfl (.inl rfl)) (pgs_cons (pg_name (i := 5) nd rfl (.inl rfl)) pgs_nil)))) (fun _ _ _ _ _ => by exact pts_nil) (fun _ _ _ _ _ => by exact (pe_tupG (pa_cons (pe_op op_add (pv 1) (pv 4)) (pa_cons (pe_op op_add (pv 2) (pv 5)) pa_nil)))))))))), ?_⟩
    repeat array_get_dec
    refine ⟨s, 9, N, rfl, hs, by omega, by decide, by decide, fun x H1 x0 x1 st1 sb1 => ?_⟩
    repeat array_get_dec
    refine ⟨s, 9, N + 1, rfl, sb1, by omega, by decide, by decide, fun y H2 y0 y1 st2 sb2 => ?_⟩
    have B2 := ((SB.refl hs).step st1 sb1).step st2 sb2
    repeat array_get_dec
    refine fun p3 H3 s3 n3 e3 => ?_
    repeat array_get_dec
    refine fun p4 H4 s4 n4 e4 => ?_
    repeat array_get_dec
    refine fun p5 H5 s5 n5 e5 => ?_
    repeat array_get_dec
    refine fun p6 H6 s6 n6 e6 => ?_
    repeat array_get_dec
    refine fun p7 H7 s7 n7 e7 => ?_
    repeat array_get_dec
    refine fun p8 H8 s8 n8 e8 => ?_
    repeat array_get_dec
    refine fun p9 H9 s9 n9 e9 => ?_
    repeat array_get_dec
    refine fun p10 H10 s10 n10 e10 => ?_
    repeat array_get_dec
    refine fun p11 H11 s11 n11 e11 => ?_
    repeat array_get_dec
    have S11 : Same H2 H11 := ((((((((s3.trans s4).trans s5).trans s6).trans s7).trans s8).trans s9).trans s10).trans s11)
    have fst4 : Spots (-5) 5 H11 p8 [p4, p5, p6, p7] := ⟨(s11 _ _ (s10 _ _ (s9 _ _ e8))), fun k m => by
      simp only [List.mem_cons, List.not_mem_nil, or_false] at m
      rcases m with rfl | rfl | rfl | rfl
      · exact ⟨_, _, (s11 _ _ (s10 _ _ (s9 _ _ (s8 _ _ (s7 _ _ (s6 _ _ (s5 _ _ e4))))))), by decide, by decide, by decide, by decide⟩
      · exact ⟨_, _, (s11 _ _ (s10 _ _ (s9 _ _ (s8 _ _ (s7 _ _ (s6 _ _ e5)))))), by decide, by decide, by decide, by decide⟩
      · exact ⟨_, _, (s11 _ _ (s10 _ _ (s9 _ _ (s8 _ _ (s7 _ _ e6))))), by decide, by decide, by decide, by decide⟩
      · exact ⟨_, _, (s11 _ _ (s10 _ _ (s9 _ _ (s8 _ _ e7)))), by decide, by decide, by decide, by decide⟩⟩
    have f9 := (s11 _ _ (s10 _ _ e9))
    have f10 := (s11 _ _ e10)
    refine ⟨⟨_, SqT.of e11⟩, for_tup (K := K) (a := p11) (xs := [V.ref p9, V.ref p10]) (fun i σ' H' => (∃ L' y4 y5, σ' = [some (.ref s), some (.int (x - 4)), some (.int (y - 4)), some (.ref L'), y4, y5] ∧ Same H11 H' ∧ H2 L' = none ∧ ∃ ks, Spots (-5) 5 H' L' ks ∧ ks.length = 4 + 4 * i)) ⟨_, _, _, rfl, Same.refl _, ?_, _, fst4, rfl⟩ (fun i σ' H' _ z => ?_) (fun i x' σ' H' hx z => ?_) fun σ' H' z => ?_⟩
    · exact ((((s3.trans s4).trans s5).trans s6).trans s7).free n8
    · obtain ⟨L', y4, y5, rfl, sH, nL, ks, sp, len⟩ := z
      exact SqT.of (sH _ _ e11)
    · obtain ⟨L', y4, y5, rfl, sH, nL, ks, sp, len⟩ := z
      obtain ⟨t, u, v, rfl, et, u0, u1, v0, v1⟩ : ∃ t u v, x' = .ref t ∧ Sit H' t u v ∧ -5 ≤ u ∧ u ≤ 5 ∧ -5 ≤ v ∧ v ≤ 5 := by
        rcases two_at hx with rfl | rfl
        · exact ⟨_, _, _, rfl, sH _ _ f9, by decide, by decide, by decide, by decide⟩
        · exact ⟨_, _, _, rfl, sH _ _ f10, by decide, by decide, by decide, by decide⟩
      refine ⟨t, _, rfl, SqT.of et, rfl, ?_⟩
      repeat array_get_dec
      refine fun p12 H12 s12 n12 e12 => ?_
      repeat array_get_dec
      refine fun p13 H13 s13 n13 e13 => ?_
      repeat array_get_dec
      refine fun p14 H14 s14 n14 e14 => ?_
      repeat array_get_dec
      refine fun p15 H15 s15 n15 e15 => ?_
      repeat array_get_dec
      refine fun p16 H16 s16 n16 e16 => ?_
      repeat array_get_dec
      have spx := sp.same ((((s12.trans s13).trans s14).trans s15).trans s16)
      have nw4 : Spots (-5) 5 H16 p16 [p12, p13, p14, p15] := ⟨e16, fun k m => by
        simp only [List.mem_cons, List.not_mem_nil, or_false] at m
        rcases m with rfl | rfl | rfl | rfl
        · exact ⟨_, _, (s16 _ _ (s15 _ _ (s14 _ _ (s13 _ _ e12)))), by omega, by omega, by omega, by omega⟩
        · exact ⟨_, _, (s16 _ _ (s15 _ _ (s14 _ _ e13))), by omega, by omega, by omega, by omega⟩
        · exact ⟨_, _, (s16 _ _ (s15 _ _ e14)), by omega, by omega, by omega, by omega⟩
        · exact ⟨_, _, (s16 _ _ e15), by omega, by omega, by omega, by omega⟩⟩
      have hi := (List.getElem?_eq_some_iff.mp hx).1
      have hi : i < 2 := hi
      refine ⟨L', p16, _, _, rfl, rfl, spx.at_, e16, by rw [List.length_map, len]; exact Nat.le_trans (m := 64) (by show 4 + 4 * i + 4 ≤ 64; omega) (by decide), fun p17 H17 s17 n17 e17 => ?_⟩
      refine ⟨p17, _, _, rfl, sH.trans (((((s12.trans s13).trans s14).trans s15).trans s16).trans s17), ?_, _, (spx.same s17).cat (nw4.same s17) (by rw [e17]; rfl), by rw [List.length_append, len]; show 4 + 4 * i + 4 = 4 + 4 * (i + 1); omega⟩
      exact (S11.trans (sH.trans ((((s12.trans s13).trans s14).trans s15).trans s16))).free n17
    · obtain ⟨L', y4, y5, rfl, sH, nL, ks, sp, len⟩ := z
      repeat array_get_dec
      have sp : Spots (-5) 5 H' L' ks := sp
      have len : ks.length = 12 := len
      have lks : (ks.map V.ref).length = ks.length := List.length_map _
      refine ⟨⟨_, SqL.of sp.at_⟩, fun D nD => ?_⟩
      refine lc_newA (walk_list (xs := ks.map V.ref)) nD (by omega) (fun H3 s3 => SqL.of (s3 _ _ sp.at_)) (fun i => .tup [.int (x - 4 + (hv H' (ks.getD i s)).1), .int (y - 4 + (hv H' (ks.getD i s)).2)]) (fun i x' H3 H4 Kp hi s3 eD yi fin => ?_) fun H3 us s3 eD nw => ?_
      · obtain ⟨rfl, hx⟩ := yi
        obtain ⟨k, ek, rfl, mk⟩ := ref_at hx
        have zk := (sp.each k mk).hv
        have ez := s3 _ _ zk.1
        rw [getD_at ek] at fin
        refine ⟨k, _, rfl, SqT.of ez, rfl, ?_⟩
        repeat array_get_dec
        exact fun t H5 s5 n5 e5 => fin t H5 s5 n5 e5
      · have zsp := News.spots (a := -9) (b := 9) (p := fun i => (x - 4 + (hv H' (ks.getD i s)).1, y - 4 + (hv H' (ks.getD i s)).2)) nw eD fun i mi => by
          have hi : i < ks.length := by rw [List.mem_range, lks] at mi; exact mi
          have ek : ks[i]? = some ks[i] := List.getElem?_eq_getElem hi
          rw [getD_at ek]
          have zk := (sp.each ks[i] (List.getElem_mem hi)).hv
          omega
        refine q _ us _ (((B2.same S11).same sH).same s3) zsp ?_ ?_
        · rw [nw.1, List.length_range, lks, len]
        · exact st12_free st1 st2 ((S11.trans sH).free nD)
end
/-! ### places that are drawn -/
section
variable {P : Program} {w : World} {K : PySem.W.Frag} {mg : Str → Option Value} {base : Heap}
/-- new spots, the source goes on -/
theorem lc_spots {J : It} {n : Nat} {G : Hp → Prop} {Y : Nat → Hp → V → Hp → Prop} {g : TG} {te : TE} {vs : List Nat} {σ : L2.St} {H1 : Hp} {D : Addr} {Qd : Hp → Prop} {a b : Int} {s : Addr} {N c : Nat}
    (w : Walk J n G Y) (nD : H1 D = none) (few : n ≤ 100000) (hs0 : SrcB N H1 s) (Gs : ∀ H, Stp s H1 H → G H)
    (hs : ∀ i x H H' (Kp : VK), i < n → SB s (N + c * i) H1 H → Y i H x H' → (∀ t H4, Stp s H H4 → SrcB (N + c * (i + 1)) H4 s → Spot a b H4 t → Kp (.ref t) H4) → g x (wipe σ vs) H' fun σ2 H2 => wipe σ2 vs = wipe σ vs ∧ te σ2 H2 Kp)
    (hd : ∀ H' ks, SB s (N + c * n) H1 H' → Spots a b H' D ks → ks.length = n → Qd H') :
    ∃ W : Nat → Nat → Hp → Prop, (∃ m, W 0 m (upd H1 D (.lst []))) ∧ ∀ i m H, W i m H →
      (J.stop i H ∧ Qd H) ∨ (J.go i H ∧ ∃ Nx : Hp → Prop, (∀ H', Nx H' → ∃ m', m' < m ∧ W (i + 1) m' H') ∧ ∀ x H', J.yld i H x H' → g x (wipe σ vs) H' fun σ2 H2 => wipe σ2 vs = wipe σ vs ∧ tYes σ2 H2 fun b H3 =>
        if b = true then te σ2 H3 fun y H4 => ∃ acc, H4 D = some (.lst acc) ∧ acc.length < sizeLine ∧ Nx (upd H4 D (.lst (acc ++ [y]))) else Nx H3) := by
  have Ds : D ≠ s := hs0.ne nD
  refine lc_it w (tt := tYes) (fun i H => SB s (N + c * i) H1 H ∧ ∃ ks, Spots a b H D ks ∧ ks.length = i) ⟨(SB.refl hs0).same (Same.upd nD), [], ⟨upd_same, fun _ m => nomatch m⟩, rfl⟩ (fun i H _ z => Gs H z.1.st) (fun i x H H' hi z y => ?_) fun H z => ?_
  · obtain ⟨B, ks, sp, len⟩ := z
    refine hs i x H H' _ hi B y fun t H4 st4 sb4 sp4 => ?_
    have sp' := sp.stp B.sb st4
    have tD : t ≠ D := by
      obtain ⟨x, y, e, _⟩ := sp4
      rintro rfl
      have := sp'.at_
      unfold Sit at e
      rw [e] at this
      cases this
    have up : ∀ k, k ≠ D → ∀ o, H4 k = some o → (upd H4 D (.lst (ks.map V.ref ++ [.ref t]))) k = some o := fun k nk o e => by rw [upd_ne nk]; exact e
    have up2 : ∀ k, Spot a b H4 k → Spot a b (upd H4 D (.lst (ks.map V.ref ++ [.ref t]))) k := fun k z => by
      obtain ⟨x, y, e, r⟩ := z
      have nk : k ≠ D := by
        rintro rfl
        have := sp'.at_
        unfold Sit at e
        rw [e] at this
        cases this
      exact ⟨x, y, up k nk _ e, r⟩
    have B4 := B.st.trans st4
    refine ⟨_, sp'.at_, by rw [List.length_map, len]; exact Nat.lt_of_lt_of_le (show i < 100001 by omega) (by decide), ⟨⟨fun k o nk e => up k (ne_of_none e nD) o (B4.keep k o nk e), ?_⟩, ?_⟩, ks ++ [t], ⟨by rw [upd_same, List.map_append]; rfl, fun k m => ?_⟩, by rw [List.length_append, len]; rfl⟩
    · obtain ⟨x, y, z, e⟩ := B4.src
      exact ⟨x, y, z, up s (Ne.symm Ds) _ e⟩
    · obtain ⟨x, y, z, e, r⟩ := sb4
      exact ⟨x, y, z, up s (Ne.symm Ds) _ e, r⟩
    · rcases List.mem_append.mp m with m | m
      · exact up2 k (sp'.each k m)
      · rw [List.mem_singleton.mp m]
        exact up2 t sp4
  · obtain ⟨B, ks, sp, len⟩ := z
    exact hd H ks B sp len
theorem SB.mono {s : Addr} {N M : Nat} {H0 H : Hp} (h : SB s N H0 H) (le : N ≤ M) : SB s M H0 H := ⟨h.st, h.sb.up le⟩
theorem SB.free {s p : Addr} {N : Nat} {H0 H : Hp} (h : SB s N H0 H) (n : H p = none) : H0 p = none := by
  cases e : H0 p with
  | none => rfl
  | some o =>
    by_cases c : p = s
    · obtain ⟨_, _, _, z⟩ := h.st.src
      rw [c, z] at n
      cases n
    · rw [h.st.keep _ _ c e] at n
      cases n
abbrev s__law_places : Stmt := topS 41
abbrev n__law_places : List Str := ["_law_purse_here", "_law_kind_so", "_law_u", "_law_v", "_law_spot", "_law_k", "_law_turn_so"]
theorem c__law_places : FnScope n__law_places ["_law_purse_here"] (defScope s__law_places) := ⟨rfl, rfl, rfl, by decide +kernel, rfl, by decide +kernel, by decide +kernel⟩
def p__law_places : Sp := fun vs H Q _ => ∃ (s : Addr) (N : Nat), vs = [.ref s] ∧ SrcB N H s ∧ N < 2 ^ 38 ∧ ∀ p ks H', SB s (N + 50) H H' → Spots (-9) 24 H' p ks → 0 < ks.length → ks.length ≤ 20 → H p = none → Q (.ref p) H'
set_option pp.maxSteps 300 in
theorem ok__law_places  (D : Df K mg "_law_places" s__law_places ["_law_purse_here"]) (C__law_coin : Cl P w K mg base CX0 "_law_coin" 1 ["_law_purse_here", "_law_many"] (p__law_coin)) (C__law_pick : Cl P w K mg base CX0 "_law_pick" 2 ["_law_purse_here", "_law_some"] (p__law_pick)) (C__law_ring : Cl P w K mg base CX0 "_law_ring" 2 ["_law_purse_here"] (p__law_ring)) (mint : mg "int" = none) (mrange : mg "range" = none) : Cl P w K mg base CX0 "_law_places" 3 ["_law_purse_here"] (p__law_places) := by
  refine D.cl fun f fd F => F.ok c__law_places (fun vs H Q E h => ?_) (fun cdv A outer s H vs Q E hr h => ?_)
  · obtain ⟨s, N, rfl, hs, hN, q⟩ := h
    rfl
  · obtain ⟨s, N, rfl, hs, hN, q⟩ := h
    have nd := c__law_places.nd
    have hu : _ := hu_of hr
    refine ⟨_, (pss_cons (ps_set (i := 1) nd rfl (.inl rfl) (pe_cl C__law_coin (hr.mono (by decide)) (by rfl) pass0 (pa_cons (pv 0) (pa_cons pe_int pa_nil)))) (pss_cons (ps_if (pt_cmpR op_lt (pv 1) pe_int (nomark _)) (pss_one (ps_ret (pe_lc (own := [("_law_spot", 4)]) (g := (gName 4)) (tt := tYes)  rfl nd (pi_range1 (by rfl) mrange (pa_cons pe_int pa_nil)) (blkOk_by (own := [("_law_spot", 4)]) (N := n__law_places) (sc := defScope s__law_places) (by decide +kernel)) (fun _ _ _ _ _ => by exact (pg_name (i := 4) nd rfl (.inl rfl))) (fun _ _ _ _ _ => by exact pts_nil) (fun _ _ _ _ _ => by exact (pe_tupG (pa_cons (pe_op op_mod (pe_callTy call_int1 (by rfl) mint (by decide +kernel) (pa_cons (pv 4) pa_nil)) pe_int) (pa_cons (pe_op op_fdiv (pv 4) pe_int) pa_nil))))))) pss_nil) (pss_cons (ps_if (pt_cmpR op_eq (pv 1) pe_int (nomark _)) (pss_cons (ps_asg (pe_cl C__law_pick (hr.mono (by decide)) (by rfl) pass0 (pa_cons (pv 0) (pa_cons (pe_lstG (pa_cons (pe_tupG (pa_cons pe_int (pa_cons pe_int pa_nil))) (pa_cons (pe_tupG (pa_cons pe_int (pa_cons pe_int pa_nil))) (pa_cons (pe_tupG (pa_cons pe_int (pa_cons pe_int pa_nil))) (pa_cons (pe_tupG (pa_cons pe_neg (pa_cons pe_int pa_nil))) pa_nil))))) pa_nil))) (pg_tup (by rfl) (pgs_cons (pg_name (i := 2) nd rfl (.inr rfl)) (pgs_cons (pg_name (i := 3) nd rfl (.inr rfl)) pgs_nil)))) (pss_one (ps_ret (pe_lc (own := [("_law_k", 5)]) (g := (gName 5)) (tt := tYes)  rfl nd (pi_range1 (by rfl) mrange (pa_cons pe_int pa_nil)) (blkOk_by (own := [("_law_k", 5)]) (N := n__law_places) (sc := defScope s__law_places) (by decide +kernel)) (fun _ _ _ _ _ => by exact (pg_name (i := 5) nd rfl (.inl rfl))) (fun _ _ _ _ _ => by exact pts_nil) (fun _ _ _ _ _ => by exact (pe_tupG (pa_cons (pe_op op_mulW (pv 2) (pv 5)) (pa_cons (pe_op op_mulW (pv 3) (pv 5)) pa_nil)))))))) pss_nil) (pss_cons (ps_if (pt_cmpR op_eq (pv 1) pe_int (nomark _)) (pss_one (ps_ret (pe_op op_catG (pe_cl C__law_ring (hr.mono (by decide)) (by rfl) pass0 (pa_cons (pv 0) pa_nil)) (pe_lstG (pa_cons (pe_tupG (pa_cons pe_int (pa_cons pe_int pa_nil))) (pa_cons (pe_tupG (pa_cons pe_int (pa_cons pe_int pa_nil))) (pa_cons (pe_tupG (pa_cons pe_int (pa_cons pe_neg pa_nil))) pa_nil))))))) pss_nil) (pss_cons (ps_if (pt_cmpR op_eq (pv 1) pe_int (nomark _)) (pss_one (ps_ret (pe_op op_catG (pe_op op_catG (pe_lc (own := [("_law_k", 5)]) (g := (gName 5)) (tt := tYes)  rfl nd (pi_range1 (by rfl) mrange (pa_cons pe_int pa_nil)) (blkOk_by (own := [("_law_k", 5)]) (N := n__law_places) (sc := defScope s__law_places) (by decide +kernel)) (fun _ _ _ _ _ => by exact (pg_name (i := 5) nd rfl (.inl rfl))) (fun _ _ _ _ _ => by exact pts_nil) (fun _ _ _ _ _ => by exact (pe_tupG (pa_cons (pv 5) (pa_cons pe_int pa_nil))))) (pe_lc (own := [("_law_k", 5)]) (g := (gName 5)) (tt := tYes)  rfl nd (pi_range1 (by rfl) mrange (pa_cons pe_int pa_nil)) (blkOk_by (own := [("_law_k", 5)]) (N := n__law_places) (sc := defScope s__law_places) (by decide +kernel)) (fun _ _ _ _ _ => by exact (pg_name (i := 5) nd rfl (.inl rfl))) (fun _ _ _ _ _ => by exact pts_nil) (fun _ _ _ _ _ => by exact (pe_tupG (pa_cons (pv 5) (pa_cons pe_int pa_nil)))))) (pe_lstG (pa_cons (pe_tupG (pa_cons pe_int (pa_cons pe_int pa_nil))) (pa_cons (pe_tupG (pa_cons pe_int (pa_cons pe_int pa_nil))) pa_nil)))))) pss_nil) (pss_one (ps_ret (pe_lc (own := [("_law_turn_so", 6)]) (g := (gName 6)) (tt := tYes)  rfl nd (pi_range1 (by rfl) mrange (pa_cons pe_int pa_nil)) (blkOk_by (own := [("_law_turn_so", 6)]) (N := n__law_places) (sc := defScope s__law_places) (by decide +kernel)) (fun _ _ _ _ _ => by exact (pg_name (i := 6) nd rfl (.inl rfl))) (fun _ _ _ _ _ => by exact pts_nil) (fun _ _ _ _ _ => by exact (pe_tupG (pa_cons (pe_cl C__law_coin (hr.mono (by decide)) (by rfl) pass0 (pa_cons (pv 0) (pa_cons pe_int pa_nil))) (pa_cons (pe_cl C__law_coin (hr.mono (by decide)) (by rfl) pass0 (pa_cons (pv 0) (pa_cons pe_int pa_nil))) pa_nil)))))))))))), ?_⟩
    repeat array_get_dec
    refine ⟨s, 7, N, rfl, hs, by omega, by decide, by decide, fun x H1 x0 x1 st1 sb1 => ?_⟩
    have B1 := (SB.refl hs).step st1 sb1
    repeat array_get_dec
    refine w_ifd (fun c => ?_) fun c => ?_
    · repeat array_get_dec
      refine ⟨by decide, by decide, fun D nD => ?_⟩
      refine lc_newA (walk_range (lo := 0) (n := 16)) nD (by decide) (fun _ _ => trivial) (fun i => .tup [.int ((0 + (i : Nat) : Int) % 4), .int ((0 + (i : Nat) : Int) / 4)]) (fun i x' H3 H4 Kp hi s3 eD yi fin => ?_) fun H3 us s3 eD nw => ?_
      · obtain ⟨rfl, rfl⟩ := yi
        repeat array_get_dec
        refine ⟨(by decide : (0 : Int) < 4), ?_⟩
        repeat array_get_dec
        refine ⟨⟨by decide, by omega⟩, ?_⟩
        repeat array_get_dec
        exact fun t H5 s5 n5 e5 => fin t H5 s5 n5 e5
      · have zsp := News.spots (a := -9) (b := 24) (p := fun i => ((0 + (i : Nat) : Int) % 4, (0 + (i : Nat) : Int) / 4)) nw eD fun i mi => by
          have hi := List.mem_range.mp mi
          show -9 ≤ (0 + (i : Nat) : Int) % 4 ∧ (0 + (i : Nat) : Int) % 4 ≤ 24 ∧ -9 ≤ (0 + (i : Nat) : Int) / 4 ∧ (0 + (i : Nat) : Int) / 4 ≤ 24
          omega
        have ln : us.length = 16 := by rw [nw.1]; rfl
        exact q _ us _ ((B1.same s3).mono (by omega)) zsp (by omega) (by omega) (B1.free nD)
    repeat array_get_dec
    refine w_ifd (fun c => ?_) fun c => ?_
    · repeat array_get_dec
      refine fun p3 H3 s3 n3 e3 => ?_
      repeat array_get_dec
      refine fun p4 H4 s4 n4 e4 => ?_
      repeat array_get_dec
      refine fun p5 H5 s5 n5 e5 => ?_
      repeat array_get_dec
      refine fun p6 H6 s6 n6 e6 => ?_
      repeat array_get_dec
      refine fun p7 H7 s7 n7 e7 => ?_
      repeat array_get_dec
      have B7 := B1.same ((((s3.trans s4).trans s5).trans s6).trans s7)
      refine ⟨s, p7, _, N + 1, rfl, B7.sb, by omega, e7, B1.sb.ne ((((s3.trans s4).trans s5).trans s6).free n7), by simp, by simp, fun x2 H8 hx st8 sb8 => ?_⟩
      have B8 := B7.step st8 sb8
      obtain ⟨t, u, v, rfl, et, huv⟩ : ∃ t u v, x2 = .ref t ∧ Sit H7 t u v ∧ ((u = 1 ∧ v = 0) ∨ (u = 0 ∧ v = 2) ∨ (u = 2 ∧ v = 1) ∨ (u = -1 ∧ v = 3)) := by
        simp only [List.mem_cons, List.not_mem_nil, or_false] at hx
        rcases hx with rfl | rfl | rfl | rfl
        · exact ⟨_, _, _, rfl, (s7 _ _ (s6 _ _ (s5 _ _ (s4 _ _ e3)))), by decide⟩
        · exact ⟨_, _, _, rfl, (s7 _ _ (s6 _ _ (s5 _ _ e4))), by decide⟩
        · exact ⟨_, _, _, rfl, (s7 _ _ (s6 _ _ e5)), by decide⟩
        · exact ⟨_, _, _, rfl, (s7 _ _ e6), by decide⟩
      have et8 := st8.keep _ _ (Spot.ne (a := u + v - 100) (b := u + v + 100) ⟨u, v, et, by omega, by omega, by omega, by omega⟩ B7.sb) et
      refine ⟨t, _, rfl, SqT.of et8, rfl, ?_⟩
      repeat array_get_dec
      refine ⟨by decide, by decide, fun D nD => ?_⟩
      refine lc_newA (walk_range (lo := 0) (n := 9)) nD (by decide) (fun _ _ => trivial) (fun i => .tup [.int (u * (0 + (i : Nat) : Int)), .int (v * (0 + (i : Nat) : Int))]) (fun i x' H9 H4 Kp hi s9 eD yi fin => ?_) fun H9 us s9 eD nw => ?_
      · obtain ⟨rfl, rfl⟩ := yi
        repeat array_get_dec
        exact fun t H5 s5 n5 e5 => fin t H5 s5 n5 e5
      · have zsp := News.spots (a := -9) (b := 24) (p := fun i => (u * (0 + (i : Nat) : Int), v * (0 + (i : Nat) : Int))) nw eD fun i mi => by
          have hi := List.mem_range.mp mi
          show -9 ≤ u * (0 + (i : Nat) : Int) ∧ u * (0 + (i : Nat) : Int) ≤ 24 ∧ -9 ≤ v * (0 + (i : Nat) : Int) ∧ v * (0 + (i : Nat) : Int) ≤ 24
          rcases huv with ⟨rfl, rfl⟩ | ⟨rfl, rfl⟩ | ⟨rfl, rfl⟩ | ⟨rfl, rfl⟩ <;> omega
        have ln : us.length = 9 := by rw [nw.1]; rfl
        exact q _ us _ ((B8.same s9).mono (by omega)) zsp (by omega) (by omega) (B8.free nD)
    repeat array_get_dec
    refine w_ifd (fun c => ?_) fun c => ?_
    · repeat array_get_dec
      refine ⟨s, N + 1, rfl, sb1, by omega, fun p ks H2 B2 sp len np => ?_⟩
      have B2 := B1.step B2.st B2.sb
      repeat array_get_dec
      refine fun p3 H3 s3 n3 e3 => ?_
      repeat array_get_dec
      refine fun p4 H4 s4 n4 e4 => ?_
      repeat array_get_dec
      refine fun p5 H5 s5 n5 e5 => ?_
      repeat array_get_dec
      refine fun p6 H6 s6 n6 e6 => ?_
      repeat array_get_dec
      have sp6 := (sp.wide (c := -9) (d := 24) (by decide) (by decide)).same (((s3.trans s4).trans s5).trans s6)
      have nw3 : Spots (-9) 24 H6 p6 [p3, p4, p5] := ⟨e6, fun k m => by
        simp only [List.mem_cons, List.not_mem_nil, or_false] at m
        rcases m with rfl | rfl | rfl
        · exact ⟨_, _, (s6 _ _ (s5 _ _ (s4 _ _ e3))), by decide, by decide, by decide, by decide⟩
        · exact ⟨_, _, (s6 _ _ (s5 _ _ e4)), by decide, by decide, by decide, by decide⟩
        · exact ⟨_, _, (s6 _ _ e5), by decide, by decide, by decide, by decide⟩⟩
      refine ⟨p, p6, _, _, rfl, rfl, sp6.at_, e6, by rw [List.length_map, len]; exact Nat.le_trans (m := 64) (by simp) (by decide), fun p7 H7 s7 n7 e7 => ?_⟩
      have B7 := (B2.same (((s3.trans s4).trans s5).trans s6)).same s7
      exact q _ _ _ (B7.mono (by omega)) ((sp6.same s7).cat (nw3.same s7) (by rw [e7]; rfl)) (by simp) (by rw [List.length_append, len]; simp) ((B2.same (((s3.trans s4).trans s5).trans s6)).free n7)
    repeat array_get_dec
    refine w_ifd (fun c => ?_) fun c => ?_
    · repeat array_get_dec
      refine ⟨by decide, by decide, fun D nD => ?_⟩
      refine lc_newA (walk_range (lo := 0) (n := 6)) nD (by decide) (fun _ _ => trivial) (fun i => .tup [.int (0 + (i : Nat) : Int), .int 0]) (fun i x' H9 H4 Kp hi s9 eD yi fin => ?_) fun H3 us s3 eD nw => ?_
      · obtain ⟨rfl, rfl⟩ := yi
        repeat array_get_dec
        exact fun t H5 s5 n5 e5 => fin t H5 s5 n5 e5
      have zsp := News.spots (a := -9) (b := 24) (p := fun i => ((0 + (i : Nat) : Int), 0)) nw eD fun i mi => by
        have hi := List.mem_range.mp mi
        show -9 ≤ (0 + (i : Nat) : Int) ∧ (0 + (i : Nat) : Int) ≤ 24 ∧ -9 ≤ (0 : Int) ∧ (0 : Int) ≤ 24
        omega
      have ln : us.length = 6 := by rw [nw.1]; rfl
      repeat array_get_dec
      refine ⟨by decide, by decide, fun D4 nD4 => ?_⟩
      refine lc_newA (walk_range (lo := 0) (n := 6)) nD4 (by decide) (fun _ _ => trivial) (fun i => .tup [.int (0 + (i : Nat) : Int), .int 2]) (fun i x' H9 H4 Kp hi s9 eD yi fin => ?_) fun H4 us4 s4 eD4 nw4 => ?_
      · obtain ⟨rfl, rfl⟩ := yi
        repeat array_get_dec
        exact fun t H5 s5 n5 e5 => fin t H5 s5 n5 e5
      have zsp4 := News.spots (a := -9) (b := 24) (p := fun i => ((0 + (i : Nat) : Int), 2)) nw4 eD4 fun i mi => by
        have hi := List.mem_range.mp mi
        show -9 ≤ (0 + (i : Nat) : Int) ∧ (0 + (i : Nat) : Int) ≤ 24 ∧ -9 ≤ (2 : Int) ∧ (2 : Int) ≤ 24
        omega
      have ln4 : us4.length = 6 := by rw [nw4.1]; rfl
      have z4 := zsp.same s4
      refine ⟨D, D4, _, _, rfl, rfl, z4.at_, eD4, by rw [List.length_map, List.length_map, ln, ln4]; decide, fun p5 H5 s5 n5 e5 => ?_⟩
      have z5 := (z4.same s5).cat (zsp4.same s5) e5
      repeat array_get_dec
      refine fun p6 H6 s6 n6 e6 => ?_
      repeat array_get_dec
      refine fun p7 H7 s7 n7 e7 => ?_
      repeat array_get_dec
      refine fun p8 H8 s8 n8 e8 => ?_
      repeat array_get_dec
      have z8 := z5.same ((s6.trans s7).trans s8)
      have nw2 : Spots (-9) 24 H8 p8 [p6, p7] := ⟨e8, fun k m => by
        simp only [List.mem_cons, List.not_mem_nil, or_false] at m
        rcases m with rfl | rfl
        · exact ⟨_, _, (s8 _ _ (s7 _ _ e6)), by decide, by decide, by decide, by decide⟩
        · exact ⟨_, _, (s8 _ _ e7), by decide, by decide, by decide, by decide⟩⟩
      refine ⟨p5, p8, _, _, rfl, rfl, z8.at_, e8, by rw [List.length_map, List.length_append, ln, ln4]; exact Nat.le_trans (m := 64) (by simp) (by decide), fun p9 H9 s9 n9 e9 => ?_⟩
      have S8 := ((s3.trans s4).trans s5).trans ((s6.trans s7).trans s8)
      exact q _ _ _ (((B1.same S8).same s9).mono (by omega)) ((z8.same s9).cat (nw2.same s9) (by rw [e9]; rfl)) (by rw [List.length_append]; exact Nat.add_pos_right _ (by simp)) (by rw [List.length_append, List.length_append, ln, ln4]; simp) ((B1.same S8).free n9)
    repeat array_get_dec
    refine ⟨by decide, by decide, fun D nD => ?_⟩
    refine lc_spots (a := -9) (b := 24) (c := 2) (walk_range (lo := 0) (n := 20)) nD (by decide) sb1 (fun _ _ => trivial) (fun i x' H3 H4 Kp hi B3 yi fin => ?_) fun H3 us B3 sp len => ?_
    · obtain ⟨rfl, rfl⟩ := yi
      repeat array_get_dec
      refine ⟨s, 12, _, rfl, B3.sb, by omega, by decide, by decide, fun x2 H5 x20 x21 st5 sb5 => ?_⟩
      repeat array_get_dec
      refine ⟨s, 12, _, rfl, sb5, by omega, by decide, by decide, fun y2 H6 y20 y21 st6 sb6 => ?_⟩
      repeat array_get_dec
      refine fun t H7 s7 n7 e7 => fin t H7 ((st5.trans st6).same s7) ((sb6.up (by omega)).same s7) ⟨_, _, e7, by omega, by omega, by omega, by omega⟩
    · exact q _ us _ ((B1.step B3.st B3.sb).mono (by omega)) sp (by omega) (by omega) (B1.free nD)
end
/-! ### sites that are drawn -/
section
variable {P : Program} {w : World} {K : PySem.W.Frag} {mg : Str → Option Value} {base : Heap}
/-! lists of sites, by value -/
def dS (p : Int × Int) : PyData := .tuple [.int p.1, .int p.2]
theorem dS_eqv (p q : Int × Int) : PyData.eqv (dS p) (dS q) = decide (p = q) := by
  unfold dS
  rw [eqv_sit, Bool.eq_iff_iff, decide_eq_true_eq, decide_eq_true_eq]
  exact ⟨fun h => Prod.ext h.1 h.2, fun h => by rw [h]; exact ⟨rfl, rfl⟩⟩
theorem dS_all (ps : List (Int × Int)) : PyData.canLayAll0 (ps.map dS) = true ∧ PyData.depthAll (ps.map dS) ≤ 10 := by
  induction ps with
  | nil => exact ⟨rfl, Nat.zero_le _⟩
  | cons p ps ih =>
    obtain ⟨h1, h2⟩ := ih
    refine ⟨?_, ?_⟩
    · rw [List.map_cons]
      show (PyData.canLay0 (dS p) && _) = true
      rw [h1]
      simp [dS, PyData.canLay0, PyData.canLayAll0]
    · simp only [List.map_cons, PyData.depthAll]
      have : (dS p).depth ≤ 10 := by simp [dS, PyData.depth, PyData.depthAll]
      omega
theorem dS_shaped (ps : List (Int × Int)) : SeqAt.shaped (.list (ps.map dS)) = true := by
  obtain ⟨h1, h2⟩ := dS_all ps
  unfold SeqAt.shaped
  rw [Bool.and_eq_true]
  refine ⟨by simp [PyData.canLay0, h1], decide_eq_true ?_⟩
  simp only [PyData.depth]
  omega
theorem u65 {k : Nat} {A : Around} (r : Room k A) : A.units + 65 < cLine := by
  have := r.un
  omega
theorem dS_shaped1 (p : Int × Int) : SeqAt.shaped (dS p) = true := rfl
theorem dS_eqvA : ∀ ps qs : List (Int × Int), PyData.eqvAll (ps.map dS) (qs.map dS) = decide (ps = qs)
  | [], [] => rfl
  | [], _ :: _ => rfl
  | _ :: _, [] => rfl
  | p :: ps, q :: qs => by
    rw [List.map_cons, List.map_cons, PyData.eqvAll, dS_eqv, dS_eqvA ps qs]
    by_cases h : p = q <;> by_cases k : ps = qs <;> simp [h, k]
theorem dS_eqvL (ps qs : List (Int × Int)) : PyData.eqv (.list (ps.map dS)) (.list (qs.map dS)) = decide (ps = qs) := by
  rw [← dS_eqvA]
  simp only [PyData.eqv]
theorem dS_any (p : Int × Int) (qs : List (Int × Int)) : ((qs.map dS).any fun z => PyData.eqv z (dS p)) = decide (p ∈ qs) := by
  induction qs with
  | nil => rfl
  | cons q qs ih =>
    rw [List.map_cons, List.any_cons, ih, dS_eqv]
    by_cases h : q = p
    · simp [h]
    · have h2 : ¬ p = q := fun e => h e.symm
      by_cases k : p ∈ qs <;> simp [h, h2, k]
theorem dpS {H : Hp} {t : Addr} {p : Int × Int} (h : Sit H t p.1 p.2) : Dp K H (.ref t) (dS p) := dpSit h
theorem dpS_all {H : Hp} {f : Addr → Int × Int} : ∀ {ts : List Addr}, (∀ t ∈ ts, Sit H t (f t).1 (f t).2) → DpAll K H (ts.map V.ref) ((ts.map f).map dS)
  | [], _ => .nil
  | t :: ts, h => .cons (dpS (h t List.mem_cons_self)) (dpS_all fun u m => h u (List.mem_cons_of_mem _ m))
theorem dpS_list {H : Hp} {a : Addr} {f : Addr → Int × Int} {ts : List Addr} (e : H a = some (.lst (ts.map V.ref))) (h : ∀ t ∈ ts, Sit H t (f t).1 (f t).2) : Dp K H (.ref a) (.list ((ts.map f).map dS)) := .lst (SqL.of e) (dpS_all h)
section
variable {H : Hp} {Q : VK} {a b t : Addr} {f g : Addr → Int × Int} {ts us : List Addr} {p q : Int × Int}
theorem w_inS (hp : Sit H t p.1 p.2) (e : H a = some (.lst (ts.map V.ref))) (h : ∀ t ∈ ts, Sit H t (f t).1 (f t).2) (z : Q (.bl (decide (p ∈ ts.map f))) H) : rInD K (.ref t) (.ref a) H Q := ⟨_, _, dpS hp, dpS_list e h, dS_shaped1 _, dS_shaped _, by rw [dS_any]; exact z⟩
theorem w_ninS (hp : Sit H t p.1 p.2) (e : H a = some (.lst (ts.map V.ref))) (h : ∀ t ∈ ts, Sit H t (f t).1 (f t).2) (z : Q (.bl (!decide (p ∈ ts.map f))) H) : rNotInD K (.ref t) (.ref a) H Q := ⟨_, _, dpS hp, dpS_list e h, dS_shaped1 _, dS_shaped _, by rw [dS_any]; exact z⟩
theorem w_eqS (hp : Sit H a p.1 p.2) (hq : Sit H b q.1 q.2) (z : Q (.bl (decide (p = q))) H) : rEqD K (.ref a) (.ref b) H Q := ⟨_, _, dpS hp, dpS hq, dS_shaped1 _, dS_shaped1 _, by rw [dS_eqv]; exact z⟩
theorem w_neS (hp : Sit H a p.1 p.2) (hq : Sit H b q.1 q.2) (z : Q (.bl (!decide (p = q))) H) : rNeD K (.ref a) (.ref b) H Q := ⟨_, _, dpS hp, dpS hq, dS_shaped1 _, dS_shaped1 _, by rw [dS_eqv]; exact z⟩
theorem w_eqSs (e : H a = some (.lst (ts.map V.ref))) (h : ∀ t ∈ ts, Sit H t (f t).1 (f t).2) (e2 : H b = some (.lst (us.map V.ref))) (h2 : ∀ t ∈ us, Sit H t (g t).1 (g t).2) (z : Q (.bl (decide (ts.map f = us.map g))) H) : rEqD K (.ref a) (.ref b) H Q := ⟨_, _, dpS_list e h, dpS_list e2 h2, dS_shaped _, dS_shaped _, by rw [dS_eqvL]; exact z⟩
theorem w_neSs (e : H a = some (.lst (ts.map V.ref))) (h : ∀ t ∈ ts, Sit H t (f t).1 (f t).2) (e2 : H b = some (.lst (us.map V.ref))) (h2 : ∀ t ∈ us, Sit H t (g t).1 (g t).2) (z : Q (.bl (!decide (ts.map f = us.map g))) H) : rNeD K (.ref a) (.ref b) H Q := ⟨_, _, dpS_list e h, dpS_list e2 h2, dS_shaped _, dS_shaped _, by rw [dS_eqvL]; exact z⟩
end
abbrev s__law_sites : Stmt := topS 42
abbrev n__law_sites : List Str := ["_law_purse_here", "_law_least_so", "_law_most_so", "_law_some", "_law_found", "_law_size", "_law_turn_so", "_law_spot", "_law_by", "_law_u", "_law_v", "_law_x", "_law_y"]
theorem c__law_sites : FnScope n__law_sites ["_law_purse_here", "_law_least_so", "_law_most_so"] (defScope s__law_sites) := ⟨rfl, rfl, rfl, by decide +kernel, rfl, by decide +kernel, by decide +kernel⟩
theorem spots_vals {a b : Int} {H H' : Hp} {p s : Addr} {ks : List Addr} {N : Nat} (h : Spots a b H p ks) (hs : SrcB N H s) (st : Stp s H H') : ks.map (hv H') = ks.map (hv H) :=
  List.map_congr_left fun t mt => hv_of (st.keep _ _ ((h.each t mt).ne hs) (h.each t mt).hv.1)
theorem nodup_map {α β : Type} {l : List α} {f : α → β} (n : l.Nodup) (h : ∀ a b, f a = f b → a = b) : (l.map f).Nodup :=
  List.pairwise_map.mpr (List.Pairwise.imp (fun ne e => ne (h _ _ e)) n)
/-- drawn sites: a list of its own, each tuple's value told by hv -/
def p__law_sites : Sp := fun vs H Q _ => ∃ (s : Addr) (l m : Int) (N : Nat), vs = [.ref s, .int l, .int m] ∧ SrcB N H s ∧ N < 2 ^ 38 ∧ 1 ≤ l ∧ l ≤ m ∧ m ≤ 40 ∧ ∀ p ks H', SB s (N + 300) H H' → Lot (hv H') H' p ks → (ks.length : Int) ≤ m → H p = none → Q (.ref p) H'
set_option pp.maxSteps 300 in
theorem ok__law_sites  (D : Df K mg "_law_sites" s__law_sites ["_law_purse_here", "_law_least_so", "_law_most_so"]) (C__law_coin : Cl P w K mg base CX0 "_law_coin" 1 ["_law_purse_here", "_law_many"] (p__law_coin)) (C__law_pick : Cl P w K mg base CX0 "_law_pick" 2 ["_law_purse_here", "_law_some"] (p__law_pick)) (C__law_places : Cl P w K mg base CX0 "_law_places" 3 ["_law_purse_here"] (p__law_places)) (mlen : mg "len" = none) (mrange : mg "range" = none) : Cl P w K mg base CX0 "_law_sites" 4 ["_law_purse_here", "_law_least_so", "_law_most_so"] (p__law_sites) := by
  refine D.cl fun f fd F => F.ok c__law_sites (fun vs H Q E h => ?_) (fun cdv A outer s H vs Q E hr h => ?_)
  · obtain ⟨s, l, m, N, rfl, hs, hN, hl1, hlm, hm, q⟩ := h
    rfl
  · obtain ⟨s, l, m, N, rfl, hs, hN, hl1, hlm, hm, q⟩ := h
    have nd := c__law_sites.nd
    have hu : _ := hu_of hr
    refine ⟨_, (pss_cons (ps_par (i := 3) (j := 4) (by rfl) nd rfl rfl (by decide) rfl rfl (pa_cons (pe_cl C__law_places (hr.mono (by decide)) (by rfl) pass0 (pa_cons (pv 0) pa_nil)) (pa_cons (pe_lstG pa_nil) pa_nil)) (by rfl)) (pss_cons (ps_set (i := 5) nd rfl (.inl rfl) (pe_op op_add (pv 1) (pe_cl C__law_coin (hr.mono (by decide)) (by rfl) pass0 (pa_cons (pv 0) (pa_cons (pe_op op_add (pe_op op_sub (pv 2) (pv 1)) pe_int) pa_nil))))) (pss_cons (ps_for PassesOwn.never rfl (pi_range1 (by rfl) mrange (pa_cons (pe_op op_mulW pe_int (pv 5)) pa_nil)) (pg_name (i := 6) nd rfl (.inl rfl)) (pss_cons (ps_set (i := 7) nd rfl (.inl rfl) (pe_ix ix_list (pv 3) (pe_cl C__law_coin (hr.mono (by decide)) (by rfl) pass0 (pa_cons (pv 0) (pa_cons (pe_callB call_len_seq (by rfl) mlen (by decide +kernel) (pa_cons (pv 3) pa_nil)) pa_nil))) (fun _ _ => rfl))) (pss_one (ps_if (PW.pt (pw_and (pt_cmpR (op_notInD (u65 hr)) (pv 7) (pv 4) rfl) (pw_and1 (pt_cmpR op_lt (pe_callB call_len_seq (by rfl) mlen (by decide +kernel) (pa_cons (pv 4) pa_nil)) (pv 5) (nomark _))))) (pss_one (ps_expr (pe_bm PySem.F.plainAttrs_list PySem.F.slot_list_append PySem.F.type_list_append mt_append (pv 4) (pa_cons (pv 7) pa_nil)))) pss_nil)))) (pss_cons (ps_asg (pe_tupG (pa_cons (pe_cl C__law_pick (hr.mono (by decide)) (by rfl) pass0 (pa_cons (pv 0) (pa_cons (pe_lstG (pa_cons pe_int (pa_cons pe_int (pa_cons pe_int (pa_cons pe_int (pa_cons pe_int pa_nil)))))) pa_nil))) (pa_cons (pe_cl C__law_pick (hr.mono (by decide)) (by rfl) pass0 (pa_cons (pv 0) (pa_cons (pe_lstG (pa_cons (pe_tupG (pa_cons pe_int (pa_cons pe_int pa_nil))) (pa_cons (pe_tupG (pa_cons pe_int (pa_cons pe_int pa_nil))) (pa_cons (pe_tupG (pa_cons pe_neg (pa_cons pe_int pa_nil))) (pa_cons (pe_tupG (pa_cons pe_int (pa_cons pe_int pa_nil))) pa_nil))))) pa_nil))) pa_nil))) (pg_tup (by rfl) (pgs_cons (pg_name (i := 8) nd rfl (.inr rfl)) (pgs_cons (pg_tup (by rfl) (pgs_cons (pg_name (i := 9) nd rfl (.inr rfl)) (pgs_cons (pg_name (i := 10) nd rfl (.inr rfl)) pgs_nil))) pgs_nil)))) (C8.pss_cut (ps_if (pt_cmpR op_eq (pe_cl C__law_coin (hr.mono (by decide)) (by rfl) pass0 (pa_cons (pv 0) (pa_cons pe_int pa_nil))) pe_int (nomark _)) (pss_one (ps_setLc (i := 4) (own := [("_law_x", 11), ("_law_y", 12)]) (g := (gTup K 2 (gCons (gName 11) (gCons (gName 12) gNil)))) (tt := tYes)  rfl nd rfl rfl (sw_true rfl rfl rfl (by decide +kernel)) (pi_list (pv 4)) (blkOk_by (own := [("_law_x", 11), ("_law_y", 12)]) (N := n__law_sites) (sc := defScope s__law_sites) (by decide +kernel)) (fun _ _ _ _ _ => by exact (pg_tup (by rfl) (pgs_cons (pg_name (i := 11) nd rfl (.inl rfl)) (pgs_cons (pg_name (i := 12) nd rfl (.inl rfl)) pgs_nil)))) (fun _ _ _ _ _ => by exact pts_nil) (fun _ _ _ _ _ => by exact (pe_tupG (pa_cons (pv 12) (pa_cons (pv 11) pa_nil)))))) pss_nil) (pss_one (ps_ret (pe_lc (own := [("_law_x", 11), ("_law_y", 12)]) (g := (gTup K 2 (gCons (gName 11) (gCons (gName 12) gNil)))) (tt := tYes)  rfl nd (pi_list (pv 4)) (blkOk_by (own := [("_law_x", 11), ("_law_y", 12)]) (N := n__law_sites) (sc := defScope s__law_sites) (by decide +kernel)) (fun _ _ _ _ _ => by exact (pg_tup (by rfl) (pgs_cons (pg_name (i := 11) nd rfl (.inl rfl)) (pgs_cons (pg_name (i := 12) nd rfl (.inl rfl)) pgs_nil)))) (fun _ _ _ _ _ => by exact pts_nil) (fun _ _ _ _ _ => by exact (pe_tupG (pa_cons (pe_op op_add (pe_op op_mulW (pv 8) (pv 11)) (pv 9)) (pa_cons (pe_op op_add (pe_op op_mulW (pv 8) (pv 12)) (pv 10)) pa_nil)))))))))))), ?_⟩
    repeat array_get_dec
    refine ⟨s, N, rfl, hs, by omega, fun ps ks H1 B1 sp k0 k20 nps => ?_⟩
    repeat array_get_dec
    refine fun pf H2 s2 n2 e2 => ?_
    have B2 := B1.same s2
    have sp2 := sp.same s2
    repeat array_get_dec
    refine ⟨s, m - l + 1, N + 50, rfl, B2.sb, by omega, by omega, i_small (by omega), fun c H3 c0 c1 st3 sb3 => ?_⟩
    have B3 := B2.step st3 sb3
    have sp3 := sp2.stp B2.sb st3
    have pfs : pf ≠ s := B1.sb.ne n2
    have ef3 := st3.keep _ _ pfs e2
    have lks : (ks.map V.ref).length = ks.length := List.length_map _
    repeat array_get_dec
    refine ⟨by omega, by omega, for_range (lo := 0) (n := (3 * (l + c)).toNat) (fun i σ' H' => (∃ y6 y7 y8 y9 y10 y11 y12, σ' = [some (.ref s), some (.int l), some (.int m), some (.ref ps), some (.ref pf), some (.int (l + c)), y6, y7, y8, y9, y10, y11, y12]) ∧ SB s (N + 51 + i) H1 H' ∧ ∃ fs : List Addr, H' pf = some (.lst (fs.map V.ref)) ∧ (∀ t ∈ fs, t ∈ ks) ∧ (fs.map (hv H1)).Nodup ∧ (fs.length : Int) ≤ l + c ∧ (0 < i → 0 < fs.length)) ⟨⟨_, _, _, _, _, _, _, rfl⟩, (SB.refl B1.sb).same s2 |>.step st3 (sb3.up (by omega)), [], ef3, fun _ h => (nomatch h), List.nodup_nil, by show (0 : Int) ≤ _; omega, fun h => absurd h (by decide)⟩ (fun i σ' H' hi z => ?_) fun σ' H' z => ?_⟩
    · obtain ⟨⟨y6, y7, y8, y9, y10, y11, y12, rfl⟩, B, fs, eF, sub, nod, lF, pos⟩ := z
      have spx := sp.stp B1.sb B.st
      have hi : i < 120 := by omega
      repeat array_get_dec
      refine ⟨ps, _, rfl, .inl (SqL.of spx.at_), ?_⟩
      repeat array_get_dec
      rw [lks]
      refine ⟨s, _, N + 51 + i, rfl, B.sb, by omega, by omega, i_small (by omega), fun r H5 r0 r1 st5 sb5 => ?_⟩
      obtain ⟨j, rfl⟩ := Int.eq_ofNat_of_zero_le r0
      have hj : j < ks.length := by omega
      have ek : ks[j]? = some ks[j] := List.getElem?_eq_getElem hj
      have mk : ks[j] ∈ ks := List.getElem_mem hj
      generalize ks[j] = k at ek mk
      have B5 := B.step st5 sb5
      have sp5 := sp.stp B1.sb B5.st
      have eF5 := st5.keep _ _ (refs_ne eF B.sb) eF
      refine ⟨ps, _, (j : Nat), _, rfl, rfl, SqL.of sp5.at_, atI_nat (by rw [List.getElem?_map, ek]; rfl), ?_⟩
      have val : ∀ t ∈ ks, Sit H5 t (hv H1 t).1 (hv H1 t).2 := fun t mt => B5.st.keep _ _ ((sp.each t mt).ne B1.sb) (sp.each t mt).hv.1
      repeat array_get_dec
      refine w_ninS (p := hv H1 k) (val k mk) eF5 (fun t mt => val t (sub t mt)) ?_
      have lfs : (fs.map V.ref).length = fs.length := List.length_map _
      have stay : ∀ (σ6 : L2.St), (0 < fs.length) → (∃ y6 y7 y8 y9 y10 y11 y12, σ6 = [some (.ref s), some (.int l), some (.int m), some (.ref ps), some (.ref pf), some (.int (l + c)), y6, y7, y8, y9, y10, y11, y12]) → (∃ y6 y7 y8 y9 y10 y11 y12, σ6 = [some (.ref s), some (.int l), some (.int m), some (.ref ps), some (.ref pf), some (.int (l + c)), y6, y7, y8, y9, y10, y11, y12]) ∧ SB s (N + 51 + (i + 1)) H1 H5 ∧ ∃ fs : List Addr, H5 pf = some (.lst (fs.map V.ref)) ∧ (∀ t ∈ fs, t ∈ ks) ∧ (fs.map (hv H1)).Nodup ∧ (fs.length : Int) ≤ l + c ∧ (0 < i + 1 → 0 < fs.length) := fun σ6 p0 h => ⟨h, B5.mono (by omega), fs, eF5, sub, nod, lF, fun _ => p0⟩
      refine ⟨_, rfl, ?_⟩
      by_cases inn : hv H1 k ∈ fs.map (hv H1)
      · refine w_ntt inn ?_
        refine stay _ ?_ ⟨_, _, _, _, _, _, _, rfl⟩
        cases fs with
        | nil => cases inn
        | cons _ _ => simp
      refine w_ntf inn ?_
      repeat array_get_dec
      rw [lfs]
      refine w_ifd (fun d => ?_) fun d => ?_
      · refine ⟨_, rfl, .inl ⟨rfl, _, SqL.of eF5⟩, _, rfl, pf, _, .ref k, rfl, rfl, eF5, by rw [lfs]; exact Nat.lt_of_lt_of_le (show fs.length < 64 by omega) (by decide), ?_⟩
        have hup : ∀ b o, b ≠ pf → H5 b = some o → (upd H5 pf (.lst (fs.map V.ref ++ [.ref k]))) b = some o := fun b o nb e => by rw [upd_ne nb]; exact e
        refine ⟨⟨_, _, _, _, _, _, _, rfl⟩, ⟨⟨fun b o nb e => hup b o (ne_of_none e n2) (B5.st.keep b o nb e), ?_⟩, ?_⟩, fs ++ [k], ?_, ?_, ?_, ?_, ?_⟩
        · obtain ⟨x, y, z, e⟩ := B5.st.src
          exact ⟨x, y, z, hup s _ (Ne.symm pfs) e⟩
        · obtain ⟨x, y, z, e, r1, r2⟩ := B5.sb
          exact ⟨x, y, z, hup s _ (Ne.symm pfs) e, r1, by omega⟩
        · rw [upd_same, List.map_append]
          rfl
        · intro t mt
          rcases List.mem_append.mp mt with mt | mt
          · exact sub t mt
          · rw [List.mem_singleton.mp mt]
            exact mk
        · rw [List.map_append]
          refine List.nodup_append.mpr ⟨nod, by simp, ?_⟩
          intro a ha b hb e
          simp only [List.map_cons, List.map_nil, List.mem_singleton] at hb
          rw [e, hb] at ha
          exact inn ha
        · rw [List.length_append]
          show ((fs.length + 1 : Nat) : Int) ≤ l + c
          omega
        · intro _
          simp
      · exact stay _ (by omega) ⟨_, _, _, _, _, _, _, rfl⟩
    · obtain ⟨⟨y6, y7, y8, y9, y10, y11, y12, rfl⟩, B, fs, eF, sub, nod, lF, pos⟩ := z
      have pos := pos (by omega)
      have spF : Spots (-9) 24 H' pf fs := ⟨eF, fun t mt => (sp.stp B1.sb B.st).each t (sub t mt)⟩
      have nodF : (fs.map (hv H')).Nodup := by
        rw [show fs.map (hv H') = fs.map (hv H1) from List.map_congr_left fun t mt => hv_of (B.st.keep _ _ ((sp.each t (sub t mt)).ne B1.sb) (sp.each t (sub t mt)).hv.1)]
        exact nod
      replace B := B1.step B.st (B.sb.up (show N + 51 + (3 * (l + c)).toNat ≤ N + 180 by omega))
      clear nod
      show tSeq _ _ _ _ _
      repeat array_get_dec
      refine fun p6 H6 s6 n6 e6 => ?_
      have B6 := (SB.refl B.sb).same s6
      refine ⟨s, p6, _, N + 180, rfl, B6.sb, by omega, e6, B.sb.ne n6, by simp, by simp, fun x7 H7 hx7 st7 sb7 => ?_⟩
      have B7 := B6.step st7 sb7
      obtain ⟨by', rfl, hby⟩ : ∃ b : Int, x7 = .int b ∧ (b = 1 ∨ b = 7 ∨ b = 20000) := by
        simp only [List.mem_cons, List.not_mem_nil, or_false] at hx7
        rcases hx7 with rfl | rfl | rfl | rfl | rfl <;> exact ⟨_, rfl, by decide⟩
      repeat array_get_dec
      refine fun p8 H8 s8 n8 e8 => ?_
      repeat array_get_dec
      refine fun p9 H9 s9 n9 e9 => ?_
      repeat array_get_dec
      refine fun p10 H10 s10 n10 e10 => ?_
      repeat array_get_dec
      refine fun p11 H11 s11 n11 e11 => ?_
      repeat array_get_dec
      refine fun p12 H12 s12 n12 e12 => ?_
      repeat array_get_dec
      have B12 := B7.same ((((s8.trans s9).trans s10).trans s11).trans s12)
      refine ⟨s, p12, _, N + 181, rfl, B12.sb, by omega, e12, B7.sb.ne ((((s8.trans s9).trans s10).trans s11).free n12), by simp, by simp, fun x13 H13 hx st13 sb13 => ?_⟩
      have B13 := B12.step st13 sb13
      obtain ⟨t, u, v, rfl, et, huv⟩ : ∃ t u v, x13 = .ref t ∧ Sit H12 t u v ∧ ((u = 0 ∧ v = 0) ∨ (u = -600000 ∧ v = 7) ∨ (u = 31 ∧ v = 500000)) := by
        simp only [List.mem_cons, List.not_mem_nil, or_false] at hx
        rcases hx with rfl | rfl | rfl | rfl
        · exact ⟨_, _, _, rfl, (s12 _ _ (s11 _ _ (s10 _ _ (s9 _ _ e8)))), by decide⟩
        · exact ⟨_, _, _, rfl, (s12 _ _ (s11 _ _ (s10 _ _ e9))), by decide⟩
        · exact ⟨_, _, _, rfl, (s12 _ _ (s11 _ _ e10)), by decide⟩
        · exact ⟨_, _, _, rfl, (s12 _ _ e11), by decide⟩
      have et13 := st13.keep _ _ (Spot.ne (a := u + v - 1000000) (b := u + v + 1000000) ⟨u, v, et, by omega, by omega, by omega, by omega⟩ B12.sb) et
      repeat array_get_dec
      refine fun p14 H14 s14 n14 e14 => ?_
      have et14 : H14 t = some (.tup [V.int u, V.int v]) := s14 _ _ et13
      refine ⟨p14, _, rfl, SqT.of e14, rfl, ?_⟩
      repeat array_get_dec
      have B14 := B13.same s14
      have spF14 := spF.stp B.sb B14.st
      have nod14 : (fs.map (hv H14)).Nodup := by rw [spots_vals spF B.sb B14.st]; exact nodF
      have lfs : (fs.map V.ref).length = fs.length := List.length_map _
      refine ⟨fun σ1 Hd => ∃ y6 y7 y11 y12 pg gs, σ1 = [some (.ref s), some (.int l), some (.int m), some (.ref ps), some (.ref pg), some (.int (l + c)), y6, y7, some (.int by'), some (.int u), some (.int v), y11, y12] ∧ SB s (N + 200) H' Hd ∧ Spots (-9) 24 Hd pg gs ∧ (gs.map (hv Hd)).Nodup ∧ gs.length = fs.length, ?_, ?_⟩
      · repeat array_get_dec
        refine ⟨s, 2, _, rfl, B14.sb, by omega, by decide, by decide, fun r H15 r0 r1 st15 sb15 => ?_⟩
        have B15 := B14.step st15 sb15
        have spF15 := spF.stp B.sb B15.st
        have nod15 : (fs.map (hv H15)).Nodup := by rw [spots_vals spF B.sb B15.st]; exact nodF
        repeat array_get_dec
        refine w_ifd (fun d => ?_) fun d => ?_
        · repeat array_get_dec
          refine ⟨⟨_, SqL.of spF15.at_⟩, fun D nD => ?_⟩
          refine lc_newA (walk_list (xs := fs.map V.ref)) nD (by omega) (fun H3 s3 => SqL.of (s3 _ _ spF15.at_)) (fun i => .tup [.int (hv H15 (fs.getD i s)).2, .int (hv H15 (fs.getD i s)).1]) (fun i x' H3 H4 Kp hi s3 eD yi fin => ?_) fun H3 us s3 eD nw => ?_
          · obtain ⟨rfl, hx⟩ := yi
            obtain ⟨k, ek, rfl, mk⟩ := ref_at hx
            have zk := (spF15.each k mk).hv
            have ez := s3 _ _ zk.1
            rw [getD_at ek] at fin
            refine ⟨k, _, rfl, SqT.of ez, rfl, ?_⟩
            repeat array_get_dec
            exact fun t H5 s5 n5 e5 => fin t H5 s5 n5 e5
          · rw [lfs] at nw
            have zsp := News.spots (a := -9) (b := 24) (p := fun i => ((hv H15 (fs.getD i s)).2, (hv H15 (fs.getD i s)).1)) nw eD fun i mi => by
              have hi : i < fs.length := List.mem_range.mp mi
              have ek : fs[i]? = some fs[i] := List.getElem?_eq_getElem hi
              rw [getD_at ek]
              have zk := (spF15.each fs[i] (List.getElem_mem hi)).hv
              omega
            have vals : us.map (hv H3) = (fs.map (hv H15)).map fun q => (q.2, q.1) := by
              rw [News.map (p := fun i => ((hv H15 (fs.getD i s)).2, (hv H15 (fs.getD i s)).1)) nw, List.map_map]
              conv => rhs; rw [← range_getD fs s]
              rw [List.map_map]
              rfl
            refine ⟨_, _, _, _, D, us, rfl, (B15.same s3).mono (by omega), zsp, ?_, by rw [nw.1, List.length_range]⟩
            rw [vals]
            exact nodup_map nod15 fun a b h => Prod.ext (Prod.mk.inj h).2 (Prod.mk.inj h).1
        · exact ⟨_, _, _, _, pf, fs, rfl, B15.mono (by omega), spF15, nod15, rfl⟩
      rintro σ1 Hd ⟨y6, y7, y11, y12, pg, gs, rfl, Bd', spG, nodG, lG⟩
      have lgs : (gs.map V.ref).length = gs.length := List.length_map _
      have hb1 : 1 ≤ by' := by rcases hby with rfl | rfl | rfl <;> decide
      have bby : by'.natAbs < 2 ^ 21 := by rcases hby with rfl | rfl | rfl <;> decide
      repeat array_get_dec
      refine ⟨⟨_, SqL.of spG.at_⟩, fun D nD => ?_⟩
      refine lc_newA (walk_list (xs := gs.map V.ref)) nD (by omega) (fun H3 s3 => SqL.of (s3 _ _ spG.at_)) (fun i => .tup [.int (by' * (hv Hd (gs.getD i s)).1 + u), .int (by' * (hv Hd (gs.getD i s)).2 + v)]) (fun i x' H3 H4 Kp hi s3 eD yi fin => ?_) fun H3 us s3 eD nw => ?_
      · obtain ⟨rfl, hx⟩ := yi
        obtain ⟨k, ek, rfl, mk⟩ := ref_at hx
        have zk := (spG.each k mk).hv
        have ez := s3 _ _ zk.1
        obtain ⟨_, g1, g2, g3, g4⟩ := zk
        rw [getD_at ek] at fin
        refine ⟨k, _, rfl, SqT.of ez, rfl, ?_⟩
        repeat array_get_dec
        exact fun t H5 s5 n5 e5 => fin t H5 s5 n5 e5
      · rw [lgs] at nw
        have bnd : ∀ x : Int, -9 ≤ x → x ≤ 24 → by' * x + u ≤ 1000000 ∧ -1000000 ≤ by' * x + u ∧ by' * x + v ≤ 1000000 ∧ -1000000 ≤ by' * x + v := fun x h1 h2 => by
          rcases hby with rfl | rfl | rfl <;> rcases huv with ⟨rfl, rfl⟩ | ⟨rfl, rfl⟩ | ⟨rfl, rfl⟩ <;> omega
        have vals : us.map (hv H3) = (gs.map (hv Hd)).map fun q => (by' * q.1 + u, by' * q.2 + v) := by
          rw [News.map (p := fun i => (by' * (hv Hd (gs.getD i s)).1 + u, by' * (hv Hd (gs.getD i s)).2 + v)) nw, List.map_map]
          conv => rhs; rw [← range_getD gs s]
          rw [List.map_map]
          rfl
        have lus : us.length = gs.length := by rw [nw.1, List.length_range]
        have hBd : SB s (N + 200) H Hd := B.step Bd'.st Bd'.sb
        refine q D us H3 ((hBd.same s3).mono (by omega)) ⟨eD, by omega, by omega, fun k mk => ?_, ?_⟩ (by omega) (hBd.free nD)
        · obtain ⟨_, e1, i, mi, e2⟩ := News.at_ (p := fun i => (by' * (hv Hd (gs.getD i s)).1 + u, by' * (hv Hd (gs.getD i s)).2 + v)) nw k mk
          have hi : i < gs.length := List.mem_range.mp mi
          have ek : gs[i]? = some gs[i] := List.getElem?_eq_getElem hi
          rw [getD_at ek] at e2
          have zk := (spG.each gs[i] (List.getElem_mem hi)).hv
          have b1 := bnd _ zk.2.1 zk.2.2.1
          have b2 := bnd _ zk.2.2.2.1 zk.2.2.2.2
          refine ⟨e1, ?_⟩
          rw [e2]
          exact ⟨b1.2.1, b1.1, b2.2.2.2, b2.2.2.1⟩
        · rw [vals]
          refine nodup_map nodG fun a b h => ?_
          have h1 : by' * a.1 + u = by' * b.1 + u := (Prod.mk.inj h).1
          have h2 : by' * a.2 + v = by' * b.2 + v := (Prod.mk.inj h).2
          exact Prod.ext (Int.eq_of_mul_eq_mul_left (by omega) (show by' * a.1 = by' * b.1 by omega)) (Int.eq_of_mul_eq_mul_left (by omega) (show by' * a.2 = by' * b.2 by omega))
end
/-! ### flat, border, as the law walks -/
section
variable {P : Program} {w : World} {K : PySem.W.Frag} {mg : Str → Option Value} {base : Heap}
abbrev s__law_lean : Stmt := topS 43
abbrev n__law_lean : List Str := ["_law_a", "_law_b", "_law_c"]
theorem c__law_lean : FnScope n__law_lean ["_law_a", "_law_b", "_law_c"] (defScope s__law_lean) := ⟨rfl, rfl, rfl, by decide +kernel, rfl, by decide +kernel, by decide +kernel⟩
def p__law_lean : Sp := fun vs H Q _ => ∃ (a b c : Addr) (A B C : Pt), vs = [.ref a, .ref b, .ref c] ∧ Sit H a A.1 A.2 ∧ Sit H b B.1 B.2 ∧ Sit H c C.1 C.2 ∧ Bd 1000000 A.1 A.2 ∧ Bd 1000000 B.1 B.2 ∧ Bd 1000000 C.1 C.2 ∧ Q (.int (tn A B C)) H
set_option pp.maxSteps 300 in
theorem ok__law_lean  (D : Df K mg "_law_lean" s__law_lean ["_law_a", "_law_b", "_law_c"]) : Cl P w K mg base CX0 "_law_lean" 1 ["_law_a", "_law_b", "_law_c"] (p__law_lean) := by
  refine D.cl fun f fd F => F.ok c__law_lean (fun vs H Q E h => ?_) (fun cdv A outer s H vs Q E hr h => ?_)
  · obtain ⟨a, b, c, A, B, C, rfl, ha, hb, hc, ⟨a1, a2, a3, a4⟩, ⟨b1, b2, b3, b4⟩, ⟨c1, c2, c3, c4⟩, q⟩ := h
    rfl
  · obtain ⟨a, b, c, A, B, C, rfl, ha, hb, hc, ⟨a1, a2, a3, a4⟩, ⟨b1, b2, b3, b4⟩, ⟨c1, c2, c3, c4⟩, q⟩ := h
    have nd := c__law_lean.nd
    have hu : _ := hu_of hr
    refine ⟨_, (pss_one (ps_ret (pe_op op_sub (pe_op op_mulW (pe_op op_sub (pe_ix ix_tup (pv 1) pe_int (fun _ _ => rfl)) (pe_ix ix_tup (pv 0) pe_int (fun _ _ => rfl))) (pe_op op_sub (pe_ix ix_tup (pv 2) pe_int (fun _ _ => rfl)) (pe_ix ix_tup (pv 0) pe_int (fun _ _ => rfl)))) (pe_op op_mulW (pe_op op_sub (pe_ix ix_tup (pv 1) pe_int (fun _ _ => rfl)) (pe_ix ix_tup (pv 0) pe_int (fun _ _ => rfl))) (pe_op op_sub (pe_ix ix_tup (pv 2) pe_int (fun _ _ => rfl)) (pe_ix ix_tup (pv 0) pe_int (fun _ _ => rfl))))))), ?_⟩
    repeat array_get_dec
    exact q
abbrev s__law_flat : Stmt := topS 45
abbrev n__law_flat : List Str := ["_law_sites_so", "_law_first", "_law_last", "_law_spot"]
theorem c__law_flat : FnScope n__law_flat ["_law_sites_so"] (defScope s__law_flat) := ⟨rfl, rfl, rfl, by decide +kernel, rfl, by decide +kernel, by decide +kernel⟩
/-- all on the line through the least and the greatest: all in a row -/
theorem row_ends {ts : List Addr} {f : Addr → Pt} {t0 tz : Addr} (m0 : t0 ∈ ts) (mz : tz ∈ ts) (lo : ∀ u ∈ ts, lexLe (f t0) (f u)) (hi : ∀ u ∈ ts, lexLe (f u) (f tz)) : Row (ts.map f) ↔ ∀ t ∈ ts, tn (f t0) (f tz) (f t) = 0 := by
  rw [row_ts]
  constructor
  · exact fun h t m => h t0 m0 tz mz t m
  · intro h
    by_cases n2 : f t0 = f tz
    · have all : ∀ t ∈ ts, f t = f t0 := fun t m => ((lo t m).anti (by rw [n2]; exact hi t m)).symm
      intro a ha b hb c hc
      rw [all a ha, all b hb, all c hc]
      exact tn_zero_self _ _
    · exact row_ts.mp (row_of n2 fun p hp => by
        obtain ⟨t, m, rfl⟩ := List.mem_map.mp hp
        exact h t m)
def p__law_flat : Sp := fun vs H Q _ => ∃ (p : Addr) (ts : List Addr) (f : Addr → Int × Int), vs = [.ref p] ∧ Pts f H p ts ∧ ∀ H' b, Same H H' → (b = true ↔ Row (ts.map f)) → Q (.bl b) H'
set_option pp.maxSteps 300 in
theorem ok__law_flat  (D : Df K mg "_law_flat" s__law_flat ["_law_sites_so"]) (C__law_lean : Cl P w K mg base CX0 "_law_lean" 1 ["_law_a", "_law_b", "_law_c"] (p__law_lean)) (mmax : mg "max" = none) (mmin : mg "min" = none) : Cl P w K mg base CX0 "_law_flat" 2 ["_law_sites_so"] (p__law_flat) := by
  refine D.cl fun f fd F => F.ok c__law_flat (fun vs H Q E h => ?_) (fun cdv A outer s H vs Q E hr h => ?_)
  · obtain ⟨p, ts, g, rfl, hl, q⟩ := h
    rfl
  · obtain ⟨p, ts, g, rfl, hl, q⟩ := h
    have nd := c__law_flat.nd
    have hu : _ := hu_of hr
    refine ⟨_, (pss_cons (ps_set (i := 1) nd rfl (.inr rfl) (pe_callB (cr_minS (by rfl) hu) (by rfl) mmin (by decide +kernel) (pa_cons (pv 0) pa_nil))) (pss_cons (ps_set (i := 2) nd rfl (.inr rfl) (pe_callB (cr_maxS (by rfl) hu) (by rfl) mmax (by decide +kernel) (pa_cons (pv 0) pa_nil))) (pss_one (ps_ret (pe_cmpR (op_eqD hr.units) (pe_lc (own := [("_law_spot", 3)]) (g := (gName 3))  rfl nd (pi_list (pv 0)) (blkOk_by (own := [("_law_spot", 3)]) (N := n__law_flat) (sc := defScope s__law_flat) (by decide +kernel)) (fun _ _ _ _ _ => by exact (pg_name (i := 3) nd rfl (.inl rfl))) (fun _ _ _ _ _ => by exact (pts_one (pt_cmpR op_ne (pe_cl C__law_lean (hr.mono (by decide)) (by rfl) pass0 (pa_cons (pv 1) (pa_cons (pv 2) (pa_cons (pv 3) pa_nil)))) pe_int (nomark _)))) (fun _ _ _ _ _ => by exact (pv 3))) (pe_lstG pa_nil) (nomark _)))))), ?_⟩
    have lts : (ts.map V.ref).length = ts.length := List.length_map _
    have hfew := hl.few
    repeat array_get_dec
    refine ⟨p, ts, g, rfl, hl.at_, fun t m => (hl.sit t m).1, hl.pos, fun t0 m0 lo => ?_⟩
    repeat array_get_dec
    refine ⟨p, ts, g, rfl, hl.at_, fun t m => (hl.sit t m).1, hl.pos, fun tz mz hi => ?_⟩
    repeat array_get_dec
    refine ⟨⟨_, SqL.of hl.at_⟩, fun D nD => ?_⟩
    refine lc_fil (walk_list (xs := ts.map V.ref)) nD (by omega) (fun H4 s4 => SqL.of (s4 _ _ hl.at_)) (fun i => decide (tn (g t0) (g tz) (g (ts.getD i p)) ≠ 0)) (fun i => .ref (ts.getD i p)) (fun i x H4 H5 Kp Kn hi s4 eD2 yi fin finN => ?_) fun H4 s4 eD2 => ?_
    · obtain ⟨rfl, hx⟩ := yi
      obtain ⟨k, ek, rfl, mk⟩ := ref_at hx
      have hl4 := hl.same s4
      rw [getD_at ek] at fin finN
      have z1 := hl4.sit t0 m0
      have z2 := hl4.sit tz mz
      have z3 := hl4.sit k mk
      repeat array_get_dec
      refine ⟨t0, tz, k, g t0, g tz, g k, rfl, z1.1, z2.1, z3.1, z1.2, z2.2, z3.2, ?_⟩
      repeat array_get_dec
      refine w_ifnd (fun c => ?_) fun c => ?_
      · injection c with c
        exact finN _ (by simp [c]) (Same.refl _)
      · have c : tn (g t0) (g tz) (g k) ≠ 0 := fun z => c (congrArg V.int z)
        repeat array_get_dec
        exact fin _ (by simp [c]) (Same.refl _)
    · rw [lts] at eD2
      repeat array_get_dec
      refine fun e H5 s5 n5 e5 => ?_
      have eL : ((List.range ts.length).filter fun i => decide (tn (g t0) (g tz) (g (ts.getD i p)) ≠ 0)).map (fun i => V.ref (ts.getD i p)) = (ts.filter fun t => decide (tn (g t0) (g tz) (g t) ≠ 0)).map V.ref := by
        rw [← range_filter ts p, List.map_map]
        rfl
      rw [eL] at eD2
      have hl5 := (hl.same s4).same s5
      refine w_eqSs (ts := ts.filter fun t => decide (tn (g t0) (g tz) (g t) ≠ 0)) (us := []) (f := g) (g := g) (s5 _ _ eD2) (fun t m => (hl5.sit t (List.mem_filter.mp m).1).1) e5 (fun _ m => nomatch m) ?_
      refine q _ _ (s4.trans s5) ?_
      rw [row_ends m0 mz lo hi, decide_eq_true_eq, List.map_nil, List.map_eq_nil_iff, List.filter_eq_nil_iff]
      simp
end
/-! ### the law's border -/
section
variable {P : Program} {w : World} {K : PySem.W.Frag} {mg : Str → Option Value} {base : Heap}
theorem srt_lt2 {us : List Addr} {f : Addr → Pt} (so : us.Pairwise (fun a b => lexLe (f a) (f b))) (nod : (us.map f).Nodup) : (us.map f).Pairwise lt2 := by
  rw [List.pairwise_map]
  have := List.pairwise_map.mp nod
  exact (so.and this).imp fun h => lt2_of h.1 h.2
/-- a number and an address that stand at an address -/
def hw (H : Hp) (k : Addr) : Int × Addr := match H k with
  | some (.tup [.int x, .ref y]) => (x, y)
  | _ => (0, 0)
theorem hw_of {H : Hp} {k : Addr} {x : Int} {y : Addr} (h : H k = some (.tup [.int x, .ref y])) : hw H k = (x, y) := by
  unfold hw
  rw [h]
/-- those with no site on the right of the way to them, h not among them -/
def supB (rows : List Pt) (h s : Pt) : Bool := decide (s ≠ h) && rows.all fun p => decide (0 ≤ tn h s p)
theorem supB_iff {rows : List Pt} {h s : Pt} (mh : h ∈ rows) (ms : s ∈ rows) : supB rows h s = true ↔ Sup rows h s := by
  unfold supB Sup
  rw [Bool.and_eq_true, decide_eq_true_eq, List.all_eq_true]
  constructor
  · intro ⟨a, b⟩
    exact ⟨mh, ms, fun e => a e.symm, fun p hp => of_decide_eq_true (b p hp)⟩
  · intro ⟨_, _, a, b⟩
    exact ⟨fun e => a e.symm, fun p hp => decide_eq_true (b p hp)⟩
def dst (a b : Pt) : Int := (b.1 - a.1) * (b.1 - a.1) + (b.2 - a.2) * (b.2 - a.2)
theorem dst_is (a b : Pt) : dst a b = dist2 a b := by
  unfold dst dist2
  rw [Int.pow_succ, Int.pow_succ, Int.pow_zero, Int.one_mul, Int.pow_succ, Int.pow_succ, Int.pow_zero, Int.one_mul]
abbrev s__law_border : Stmt := topS 46
abbrev n__law_border : List Str := ["_law_sites_so", "_law_order", "_law_found", "_law_turn_so", "_law_here", "_law_some", "_law_spot", "_law_one"]
theorem c__law_border : FnScope n__law_border ["_law_sites_so"] (defScope s__law_border) := ⟨rfl, rfl, rfl, by decide +kernel, rfl, by decide +kernel, by decide +kernel⟩
def p__law_border : Sp := fun vs H Q _ => ∃ (p : Addr) (ts rs : List Addr) (f : Addr → Int × Int) (p0 q : Pt) (out : List Pt), vs = [.ref p] ∧ Lot f H p ts ∧ rs.Perm ts ∧ Ends2 (rs.map f) p0 q ∧ Brd p0 q (rs.map f) out ∧ Tells f ts out H Q
set_option pp.maxSteps 300 in
theorem ok__law_border  (D : Df K mg "_law_border" s__law_border ["_law_sites_so"]) (C__law_lean : Cl P w K mg base CX0 "_law_lean" 1 ["_law_a", "_law_b", "_law_c"] (p__law_lean)) (C__law_flat : Cl P w K mg base CX0 "_law_flat" 2 ["_law_sites_so"] (p__law_flat)) (mlen : mg "len" = none) (mmin : mg "min" = none) (mrange : mg "range" = none) (msorted : mg "sorted" = none) : Cl P w K mg base CX0 "_law_border" 3 ["_law_sites_so"] (p__law_border) := by
  refine D.cl fun f fd F => F.ok c__law_border (fun vs H Q E h => ?_) (fun cdv A outer s H vs Q E hr h => ?_)
  · obtain ⟨p, ts, rs, g, p0, q0, out, rfl, hl, pm, he, hb, q⟩ := h
    rfl
  · obtain ⟨p, ts, rs, g, p0, q0, out, rfl, hl, pm, he, hb, q⟩ := h
    have nd := c__law_border.nd
    have hu : _ := hu_of hr
    refine ⟨_, (pss_cons (ps_set (i := 1) nd rfl (.inr rfl) (pe_callB cr_sortS (by rfl) msorted (by decide +kernel) (pa_cons (pv 0) pa_nil))) (pss_cons (ps_if (pt_val (pe_cl C__law_flat (hr.mono (by decide)) (by rfl) pass0 (pa_cons (pv 1) pa_nil))) (pss_one (ps_ret (pv 1))) pss_nil) (pss_cons (ps_set (i := 2) nd rfl (.inl rfl) (pe_lstG (pa_cons (pe_ix ix_list (pv 1) pe_int (fun _ _ => rfl)) pa_nil))) (pss_cons (ps_for PassesOwn.never rfl (pi_range1 (by rfl) mrange (pa_cons (pe_callB call_len_seq (by rfl) mlen (by decide +kernel) (pa_cons (pv 1) pa_nil)) pa_nil)) (pg_name (i := 3) nd rfl (.inl rfl)) (pss_cons (ps_set (i := 4) nd rfl (.inr rfl) (pe_ix ix_list (pv 2) pe_neg (fun _ _ => rfl))) (pss_cons (ps_setLc (i := 5) (own := [("_law_spot", 6)]) (g := (gName 6))  rfl nd rfl rfl (sw_true rfl rfl rfl (by decide +kernel)) (pi_list (pv 1)) (blkOk_by (own := [("_law_spot", 6)]) (N := n__law_border) (sc := defScope s__law_border) (by decide +kernel)) (fun _ _ _ _ _ => by exact (pg_name (i := 6) nd rfl (.inr rfl))) (fun _ _ _ _ _ => by exact (pts_one (PW.pt (pw_and (by exact (pt_cmpR (r := rNeD K) (by exact (op_neD hr.units)) (pv 6) (pv 4) (nomark _))) (pw_and1 (by exact (pt_cmpR op_eq (pe_callB (id := "min") (r := rMin K) (by exact (cr_min rfl)) (by rfl) mmin (by decide +kernel) (pa_cons (by exact (pe_lc (own := [("_law_one", 7)]) (g := (gName 7)) (tt := tYes) (wi := iList K (tVar 1)) (te := tCall p__law_lean [] E0 (tCons (tVar 4) (tCons (tVar 6) (tCons (tVar 7) tNil))))  rfl nd (pi_list (pv 1)) (blkOk_by (own := [("_law_one", 7)]) (N := n__law_border) (sc := _) (by first | rfl | with_unfolding_all rfl)) (fun _ _ _ _ _ => by exact (pg_name (i := 7) nd rfl (.inl rfl))) (fun _ _ _ _ _ => by exact pts_nil) (fun _ _ _ _ _ => by exact (pe_cl C__law_lean (hr.mono (by decide)) (by rfl) pass0 (pa_cons (pv 4) (pa_cons (pv 6) (pa_cons (pv 7) pa_nil))))))) pa_nil)) pe_int (nomark _)))))))) (fun _ _ _ _ _ => by exact (pv 6))) (pss_cons (ps_set (i := 5) nd rfl (.inl rfl) (pe_callB (cr_sort3 hr.units) (by rfl) msorted (by decide +kernel) (pa_cons (pe_lc (own := [("_law_spot", 6)]) (g := (gName 6)) (tt := tYes)  rfl nd (pi_list (pv 5)) (blkOk_by (own := [("_law_spot", 6)]) (N := n__law_border) (sc := defScope s__law_border) (by decide +kernel)) (fun _ _ _ _ _ => by exact (pg_name (i := 6) nd rfl (.inl rfl))) (fun _ _ _ _ _ => by exact pts_nil) (fun _ _ _ _ _ => by exact (pe_tupG (pa_cons (pe_op op_add (pe_op op_sq (pe_op op_sub (pe_ix (r := rIxT K) (by exact ix_tup) (pv 6) pe_int (fun _ _ => rfl)) (pe_ix (r := rIxT K) (by exact ix_tup) (pv 4) pe_int (fun _ _ => rfl))) pe_int) (pe_op op_sq (pe_op op_sub (pe_ix (r := rIxT K) (by exact ix_tup) (pv 6) pe_int (fun _ _ => rfl)) (pe_ix (r := rIxT K) (by exact ix_tup) (pv 4) pe_int (fun _ _ => rfl))) pe_int)) (pa_cons (pv 6) pa_nil))))) pa_nil))) (pss_cons (ps_if (pt_cmpR (op_eqD hr.units) (pe_ix ix_tup (pe_ix ix_list (pv 5) pe_int (fun _ _ => rfl)) pe_int (fun _ _ => rfl)) (pe_ix ix_list (pv 1) pe_int (fun _ _ => rfl)) (nomark _)) (pss_one (ps_ret (pv 2))) pss_nil) (pss_one (ps_expr (pe_bm PySem.F.plainAttrs_list PySem.F.slot_list_append PySem.F.type_list_append mt_append (pv 2) (pa_cons (pe_ix ix_tup (pe_ix ix_list (pv 5) pe_int (fun _ _ => rfl)) pe_int (fun _ _ => rfl)) pa_nil))))))))) (pss_one (ps_ret (pv 2))))))), ?_⟩
    have hfew := hl.few
    repeat array_get_dec
    refine ⟨p, ts, g, rfl, SqL.of hl.at_, fun t m => (hl.sit t m).1, fun us p1 H1 pm1 so1 s1 n1 e1 => ?_⟩
    have nodU : (us.map g).Nodup := (pm1.map g).nodup_iff.mpr hl.nod
    have e := perm_map_eq pm pm1 he.so (srt_lt2 so1 nodU)
    have hl1 : Lot g H1 p1 us := ⟨e1, by rw [pm1.length_eq]; exact hl.pos, by rw [pm1.length_eq]; exact hl.few, (hl.sit.same s1).sub fun u m => pm1.mem_iff.mp m, nodU⟩
    have lus : (us.map V.ref).length = us.length := List.length_map _
    have fewU := hl1.few
    have posU := hl1.pos
    repeat array_get_dec
    refine ⟨p1, us, g, rfl, ⟨e1, hl1.pos, by omega, hl1.sit⟩, fun H2 b s2 hbr => ?_⟩
    rw [e] at hbr
    have hl2 := hl1.same s2
    cases b
    · have nr : ¬ Row (rs.map g) := fun z => Bool.noConfusion (hbr.mpr z)
      obtain ⟨mid, eB, ring⟩ := ringB_of he.so he.h0 he.hq nr
      have eout : out = p0 :: mid := (hb.2 nr).trans eB
      have rfew := ring.few
      rw [← e] at ring rfew
      rw [List.length_map] at rfew
      obtain ⟨u0, eu0, gu0, mu0⟩ := head_ts (f := g) (ts := us) (p0 := p0) (by rw [e]; exact he.h0)
      repeat array_get_dec
      refine ⟨p1, _, 0, _, rfl, rfl, SqL.of hl2.at_, headI eu0, ?_⟩
      repeat array_get_dec
      refine fun pf H3 s3 n3 e3 => ?_
      repeat array_get_dec
      have pfn : H pf = none := s1.free (s2.free n3)
      rw [lus]
      refine ⟨by omega, by omega, for_range (lo := 0) (n := us.length) (fun i σ' H' => (∃ y3 y4 y5 y6 y7, σ' = [some (.ref p), some (.ref p1), some (.ref pf), y3, y4, y5, y6, y7]) ∧ Same H2 H' ∧ ∃ fs : List Addr, H' pf = some (.lst (fs.map V.ref)) ∧ (∀ t ∈ fs, t ∈ us) ∧ fs.map g = (p0 :: mid).take (i + 1) ∧ i ≤ mid.length) ⟨⟨_, _, _, _, _, rfl⟩, s3, [u0], e3, fun t m => by rw [List.mem_singleton.mp m]; exact mu0, by rw [List.map_cons, gu0]; rfl, Nat.zero_le _⟩ (fun i σ' H' hi z => ?_) fun σ' H' z => ?_⟩
      · obtain ⟨⟨y3, y4, y5, y6, y7, rfl⟩, sH, fs, eF, sub, efs, im⟩ := z
        have hlH := hl2.same sH
        obtain ⟨h, x, eh, nx, x0, x1⟩ := ring.step im
        have lfs : fs.length = i + 1 := by
          have := congrArg List.length efs
          rw [List.length_map, List.length_take, List.length_cons] at this
          omega
        obtain ⟨th, eth⟩ : ∃ th, fs.getLast? = some th := by
          cases fs with
          | nil => cases lfs
          | cons a l => exact ⟨_, List.getLast?_eq_some_getLast (by simp)⟩
        have mth := List.mem_of_getLast? eth
        have gth : g th = h := by
          have a1 : (fs.map g).getLast? = some (g th) := by rw [List.getLast?_map, eth]; rfl
          rw [efs, List.getLast?_eq_getElem?, List.length_take, List.length_cons, show min (i + 1) (mid.length + 1) - 1 = i by omega, List.getElem?_take, if_pos (Nat.lt_succ_self i), eh] at a1
          exact (Option.some.inj a1).symm
        subst gth
        have mhr : g th ∈ us.map g := List.mem_map_of_mem (sub th mth)
        repeat array_get_dec
        refine ⟨pf, _, -1, _, rfl, rfl, SqL.of eF, lastI eth, ?_⟩
        repeat array_get_dec
        refine ⟨⟨_, SqL.of hlH.at_⟩, fun D1 nD1 => ?_⟩
        refine lc_fil (walk_list (xs := us.map V.ref)) nD1 (by omega) (fun H4 s4 => SqL.of (s4 _ _ hlH.at_)) (fun j => supB (us.map g) (g th) (g (us.getD j p))) (fun j => .ref (us.getD j p)) (fun j v H4 H5 Kp Kn hj s4 eD yi fin finN => ?_) fun H4 s4 eD1 => ?_
        · obtain ⟨rfl, hx⟩ := yi
          obtain ⟨k, ek, rfl, mk⟩ := ref_at hx
          have hl5 := hlH.same s4
          rw [getD_at ek] at fin finN
          have zh := hl5.sit th (sub th mth)
          have zk := hl5.sit k mk
          have mkr : g k ∈ us.map g := List.mem_map_of_mem mk
          repeat array_get_dec
          refine w_neS zk.1 zh.1 ?_
          refine ⟨_, rfl, ?_⟩
          by_cases same : g k = g th
          · refine w_ntt same ?_
            refine finN _ ?_ (Same.refl _)
            unfold supB
            rw [decide_eq_false (fun z => z same)]
            rfl
          refine w_ntf same ?_
          repeat array_get_dec
          refine ⟨⟨_, SqL.of hl5.at_⟩, fun D2 nD2 => ?_⟩
          refine lc_val (walk_list (xs := us.map V.ref)) nD2 (by omega) (fun H6 s6 => SqL.of (s6 _ _ hl5.at_)) ((us.map fun o => tn (g th) (g k) (g o)).map V.int) (by simp) (fun o y v H6 H7 Kp' hy s6 eD2 yi fin' => ?_) fun H6 s6 eD2 => ?_
          · obtain ⟨rfl, hx⟩ := yi
            obtain ⟨t, et, rfl, mt⟩ := ref_at hx
            have hl6 := hl5.same s6
            have z1 := hl6.sit th (sub th mth)
            have z2 := hl6.sit k mk
            have z3 := hl6.sit t mt
            repeat array_get_dec
            refine ⟨th, k, t, g th, g k, g t, rfl, z1.1, z2.1, z3.1, z1.2, z2.2, z3.2, ?_⟩
            have ey : v = .int (tn (g th) (g k) (g t)) := by
              rw [List.getElem?_map, List.getElem?_map, et] at hy
              exact (Option.some.inj hy).symm
            rw [← ey]
            exact fin' _ (Same.refl _)
          · repeat array_get_dec
            refine ⟨D2, _, rfl, SqL.of eD2, by rw [List.length_map]; exact posU, fun m hm hle => ?_⟩
            repeat array_get_dec
            refine w_ifd (fun c => ?_) fun c => ?_
            · injection c with c
              repeat array_get_dec
              refine fin _ ?_ s6
              unfold supB
              rw [decide_eq_true same, Bool.true_and, List.all_eq_true]
              intro q hq
              obtain ⟨t, mt, rfl⟩ := List.mem_map.mp hq
              have := hle _ (List.mem_map.mpr ⟨t, mt, rfl⟩)
              exact decide_eq_true (by omega)
            · refine finN _ ?_ s6
              have c : m ≠ 0 := fun z => c (congrArg V.int z)
              have m0 := hle _ (List.mem_map.mpr ⟨th, sub th mth, rfl⟩)
              have t0 : tn (g th) (g k) (g th) = 0 := tn_zero_self _ _
              obtain ⟨t, mt, em⟩ := List.mem_map.mp hm
              unfold supB
              rw [Bool.and_eq_false_iff]
              right
              rw [List.all_eq_false]
              exact ⟨g t, List.mem_map_of_mem mt, by rw [decide_eq_true_eq]; omega⟩
        · rw [lus] at eD1
          have eL : ((List.range us.length).filter fun j => supB (us.map g) (g th) (g (us.getD j p))).map (fun j => V.ref (us.getD j p)) = (us.filter fun t => supB (us.map g) (g th) (g t)).map V.ref := by
            rw [← range_filter us p, List.map_map]
            rfl
          rw [eL] at eD1
          have hl4 := hlH.same s4
          have subS : ∀ t ∈ us.filter fun t => supB (us.map g) (g th) (g t), t ∈ us ∧ Sup (us.map g) (g th) (g t) := fun t mt => by
            obtain ⟨a, b⟩ := List.mem_filter.mp mt
            exact ⟨a, (supB_iff mhr (List.mem_map_of_mem a)).mp b⟩
          obtain ⟨tx, mtx, gtx⟩ : ∃ t ∈ us.filter fun t => supB (us.map g) (g th) (g t), g t = x := by
            obtain ⟨t, mt, rfl⟩ := List.mem_map.mp nx.1.2.1
            exact ⟨t, List.mem_filter.mpr ⟨mt, (supB_iff mhr (List.mem_map_of_mem mt)).mpr nx.1⟩, rfl⟩
          generalize hss : (us.filter fun t => supB (us.map g) (g th) (g t)) = ss at eD1 subS mtx
          have lss : (ss.map V.ref).length = ss.length := List.length_map _
          have fss : ss.length < 64 := by
            have := List.length_filter_le (fun t => supB (us.map g) (g th) (g t)) us
            rw [hss] at this
            omega
          clear hss eL
          have zh4 := hl4.sit th (sub th mth)
          obtain ⟨h1, h2, h3, h4⟩ := zh4.2
          repeat array_get_dec
          refine ⟨⟨_, SqL.of eD1⟩, fun D2 nD2 => ?_⟩
          refine lc_newA (walk_list (xs := ss.map V.ref)) nD2 (by omega) (fun H5 s5 => SqL.of (s5 _ _ eD1)) (fun j => .tup [.int (dst (g th) (g (ss.getD j p))), .ref (ss.getD j p)]) (fun j v H5 H6 Kp hj s5 eD2 yi fin => ?_) fun H5 ks s5 eD2 nw => ?_
          · obtain ⟨rfl, hx⟩ := yi
            obtain ⟨k, ek, rfl, mk⟩ := ref_at hx
            have hl6 := hl4.same s5
            rw [getD_at ek] at fin
            have z1 := hl6.sit th (sub th mth)
            have z2 := hl6.sit k (subS k mk).1
            obtain ⟨k1, k2, k3, k4⟩ := z2.2
            have z11 := z1.1
            have z21 := z2.1
            unfold Sit at z11 z21
            repeat array_get_dec
            refine ⟨⟨rfl, Nat.lt_of_lt_of_le (show _ < 2 ^ 23 by omega) (Nat.pow_le_pow_right (by decide) (by decide))⟩, ?_⟩
            repeat array_get_dec
            refine ⟨⟨rfl, Nat.lt_of_lt_of_le (show _ < 2 ^ 23 by omega) (Nat.pow_le_pow_right (by decide) (by decide))⟩, ?_⟩
            repeat array_get_dec
            exact fun t H5 s5 n5 e5 => fin t H5 s5 n5 e5
          · rw [lss] at nw
            have hl5 := hl4.same s5
            have kat : ∀ k ∈ ks, ∃ j < ss.length, H5 k = some (.tup [.int (dst (g th) (g (ss.getD j p))), .ref (ss.getD j p)]) := fun k mk => by
              obtain ⟨j, hj, rfl⟩ := List.getElem_of_mem mk
              have c2 : j < (List.range ss.length).length := by rw [← nw.1]; exact hj
              have z := nw.2 j _ ks[j] (List.getElem?_eq_getElem c2) (List.getElem?_eq_getElem hj)
              rw [List.getElem_range] at z
              rw [List.length_range] at c2
              exact ⟨j, c2, z.2⟩
            have katS : ∀ k ∈ ks, ∃ t ∈ ss, H5 k = some (.tup [.int (dst (g th) (g t)), .ref t]) := fun k mk => by
              obtain ⟨j, hj, z⟩ := kat k mk
              have ej : ss[j]? = some ss[j] := List.getElem?_eq_getElem hj
              rw [getD_at ej] at z
              exact ⟨_, List.getElem_mem hj, z⟩
            have valK : ∀ k ∈ ks, ∃ u, H5 k = some (.tup [.int (hw H5 k).1, .ref u]) ∧ H5 u = some (.tup [.int (g (hw H5 k).2).1, .int (g (hw H5 k).2).2]) := fun k mk => by
              obtain ⟨t, mt, z⟩ := katS k mk
              rw [hw_of z]
              exact ⟨t, z, (hl5.sit t (subS t mt).1).1⟩
            repeat array_get_dec
            refine ⟨D2, ks, fun k => (hw H5 k).1, fun k => g (hw H5 k).2, rfl, eD2, valK, fun ls D3 H6 pmL soL s6 n6 e6 => ?_⟩
            obtain ⟨kx, mkx, ekx⟩ : ∃ k ∈ ks, H5 k = some (.tup [.int (dst (g th) (g tx)), .ref tx]) := by
              obtain ⟨j, hj, ej⟩ := List.getElem_of_mem mtx
              have c2 : j < (List.range ss.length).length := by rw [List.length_range]; exact hj
              have c3 : j < ks.length := by rw [nw.1]; exact c2
              have z := nw.2 j _ ks[j] (List.getElem?_eq_getElem c2) (List.getElem?_eq_getElem c3)
              rw [List.getElem_range] at z
              have e3 : ss.getD j p = tx := getD_at (by rw [List.getElem?_eq_getElem hj, ej])
              have z2 : H5 ks[j] = some (.tup [.int (dst (g th) (g (ss.getD j p))), .ref (ss.getD j p)]) := z.2
              rw [e3] at z2
              exact ⟨_, List.getElem_mem c3, z2⟩
            obtain ⟨k0, ls', rfl⟩ : ∃ k0 ls', ls = k0 :: ls' := by
              cases ls with
              | nil => exact absurd (pmL.mem_iff.mpr mkx) (by simp)
              | cons a l => exact ⟨a, l, rfl⟩
            have mk0 : k0 ∈ ks := pmL.mem_iff.mp List.mem_cons_self
            obtain ⟨t1, mt1, e0⟩ := katS k0 mk0
            have least : dst (g th) (g t1) ≤ dst (g th) (g tx) := by
              have z : k0 = kx ∨ le3 (hw H5 k0).1 (g (hw H5 k0).2) (hw H5 kx).1 (g (hw H5 kx).2) := by
                rcases List.mem_cons.mp (pmL.mem_iff.mpr mkx) with e | m
                · exact .inl e.symm
                · exact .inr ((List.pairwise_cons.mp soL).1 kx m)
              rcases z with rfl | z
              · rw [ekx] at e0
                injection e0 with e0
                injection e0 with e0
                injection e0 with e0
                injection e0 with e0
                omega
              · rw [hw_of e0, hw_of ekx] at z
                unfold le3 at z
                omega
            have g1 : g t1 = x := by
              rcases nxt_near ring.nr nx (subS t1 mt1).2 with h | h
              · exact h
              · rw [dst_is, dst_is, gtx] at least
                omega
            have hl6 := hl5.same s6
            have e06 := s6 _ _ e0
            have sHx := sH.trans (s4.trans (s5.trans s6))
            have eF6 := (s4.trans (s5.trans s6)) _ _ eF
            repeat array_get_dec
            refine ⟨D3, _, 0, _, rfl, rfl, SqL.of e6, headI rfl, ?_⟩
            repeat array_get_dec
            refine ⟨p1, _, 0, _, rfl, rfl, SqL.of hl6.at_, headI eu0, ?_⟩
            have zt1 := hl6.sit t1 (subS t1 mt1).1
            have zu0 := hl6.sit u0 mu0
            refine w_eqS zt1.1 zu0.1 ?_
            refine ⟨_, rfl, ?_⟩
            rw [g1, gu0]
            refine w_ifd (fun c => ?_) fun c => ?_
            · repeat array_get_dec
              refine q fs pf H6 ((s1.trans s2).trans sHx) pfn eF6 ?_ fun u m => pm1.mem_iff.mp (sub u m)
              rw [efs, eout, x0 c]
              exact List.take_of_length_le (by rw [List.length_cons]; omega)
            · obtain ⟨im2, ex⟩ := x1 c
              repeat array_get_dec
              refine ⟨.inl ⟨rfl, _, SqL.of eF6⟩, ?_⟩
              repeat array_get_dec
              refine ⟨D3, _, 0, _, rfl, rfl, SqL.of e6, headI rfl, ?_⟩
              repeat array_get_dec
              refine ⟨pf, _, .ref t1, rfl, rfl, eF6, by rw [List.length_map, lfs]; exact Nat.lt_of_lt_of_le (show i + 1 < 64 by omega) (by decide), ?_⟩
              have sP : Same H2 (upd H6 pf (.lst (fs.map V.ref ++ [.ref t1]))) := fun b o eb => by
                rw [upd_ne (ne_of_none eb n3)]
                exact sHx b o eb
              refine ⟨⟨_, _, _, _, _, rfl⟩, sP, fs ++ [t1], ?_, ?_, ?_, by omega⟩
              · rw [upd_same, List.map_append]
                rfl
              · intro t mt
                rcases List.mem_append.mp mt with mt | mt
                · exact sub t mt
                · rw [List.mem_singleton.mp mt]
                  exact (subS t1 mt1).1
              · rw [List.map_append, efs, List.take_add_one (i := i + 1), ex, List.map_cons, List.map_nil, g1]
                rfl
      · obtain ⟨_, _, fs, _, _, _, im⟩ := z
        omega
    · have row := hbr.mp rfl
      repeat array_get_dec
      exact q us p1 H2 (s1.trans s2) n1 hl2.at_ ((e.trans (hb.1 row).symm)) fun u m => pm1.mem_iff.mp m
end
/-! ### places, as the law makes and asks them -/
section
variable {P : Program} {w : World} {K : PySem.W.Frag} {mg : Str → Option Value} {base : Heap}
theorem gcd_step (a b : Int) : Nat.gcd b.natAbs (a.fmod b).natAbs = Nat.gcd a.natAbs b.natAbs := by
  have e := Int.fmod_def a b
  have e2 := Int.fmod_add_mul_fdiv a b
  apply Nat.dvd_antisymm
  · refine Nat.dvd_gcd ?_ (Nat.gcd_dvd_left _ _)
    have h1 := Int.ofNat_dvd_left.mpr (Nat.gcd_dvd_left b.natAbs (a.fmod b).natAbs)
    have h2 := Int.ofNat_dvd_left.mpr (Nat.gcd_dvd_right b.natAbs (a.fmod b).natAbs)
    rw [← Int.ofNat_dvd_left]
    exact (congrArg (((Nat.gcd b.natAbs (a.fmod b).natAbs : Nat) : Int) ∣ ·) e2).mp (Int.dvd_add h2 (Int.dvd_mul_of_dvd_left h1))
  · refine Nat.dvd_gcd (Nat.gcd_dvd_right _ _) ?_
    have h1 := Int.ofNat_dvd_left.mpr (Nat.gcd_dvd_left a.natAbs b.natAbs)
    have h2 := Int.ofNat_dvd_left.mpr (Nat.gcd_dvd_right a.natAbs b.natAbs)
    rw [← Int.ofNat_dvd_left, e]
    exact Int.dvd_sub h1 (Int.dvd_mul_of_dvd_left h2)
theorem fmod_less (a : Int) {b : Int} (h : b ≠ 0) : (a.fmod b).natAbs < b.natAbs := by
  by_cases c : 0 < b
  · have h1 := Int.fmod_nonneg_of_pos a c
    have h2 := Int.fmod_lt_of_pos a c
    omega
  · have h1 := Int.fmod_nonneg_of_pos (-a) (b := -b) (by omega)
    have h2 := Int.fmod_lt_of_pos (-a) (b := -b) (by omega)
    rw [Int.neg_fmod_neg] at h1 h2
    omega
abbrev s__law_common : Stmt := topS 47
abbrev n__law_common : List Str := ["_law_first", "_law_last"]
theorem c__law_common : FnScope n__law_common ["_law_first", "_law_last"] (defScope s__law_common) := ⟨rfl, rfl, rfl, by decide +kernel, rfl, by decide +kernel, by decide +kernel⟩
def p__law_common : Sp := fun vs H Q _ => ∃ (m n : Int), vs = [.int m, .int n] ∧ ∀ H', Same H H' → Q (.int (Nat.gcd m.natAbs n.natAbs : Nat)) H'
set_option pp.maxSteps 300 in
theorem ok__law_common  (D : Df K mg "_law_common" s__law_common ["_law_first", "_law_last"]) (mabs : mg "abs" = none) (mint : mg "int" = none) : Cl P w K mg base CX0 "_law_common" 1 ["_law_first", "_law_last"] (p__law_common) := by
  refine D.cl fun f fd F => F.ok c__law_common (fun vs H Q E h => ?_) (fun cdv A outer s H vs Q E hr h => ?_)
  · obtain ⟨m, n, rfl, q⟩ := h
    rfl
  · obtain ⟨m, n, rfl, q⟩ := h
    have nd := c__law_common.nd
    have hu : _ := hu_of hr
    refine ⟨_, (pss_cons (ps_while PassesOwn.never (pt_cmpR op_ne (pv 1) pe_int (nomark _)) (pss_one (ps_par (i := 0) (j := 1) (by rfl) nd rfl rfl (by decide) rfl rfl (pa_cons (pv 1) (pa_cons (pe_op op_modN (pe_callTy call_int1 (by rfl) mint (by decide +kernel) (pa_cons (pv 0) pa_nil)) (pv 1)) pa_nil)) (by rfl)))) (pss_one (ps_ret (pe_callB call_abs (by rfl) mabs (by decide +kernel) (pa_cons (pv 0) pa_nil))))), ?_⟩
    refine ⟨fun k σ' H' => ∃ a b : Int, k = b.natAbs ∧ σ' = [some (.int a), some (.int b)] ∧ Same H H' ∧ Nat.gcd a.natAbs b.natAbs = Nat.gcd m.natAbs n.natAbs, ⟨_, m, n, rfl, rfl, Same.refl _, rfl⟩, ?_⟩
    rintro k σ' H' ⟨a, b, rfl, rfl, sH, eg⟩
    repeat array_get_dec
    refine w_ifnd (fun c => ?_) fun c => ?_
    · injection c with c
      subst c
      repeat array_get_dec
      have e : (if a < 0 then -a else a) = ((Nat.gcd m.natAbs n.natAbs : Nat) : Int) := by
        rw [← eg, Int.natAbs_zero, Nat.gcd_zero_right]
        split <;> omega
      show Q (.int (if a < 0 then -a else a)) H'
      rw [e]
      exact q _ sH
    · have c : b ≠ 0 := fun z => c (congrArg V.int z)
      refine ⟨fun σ5 H5 => σ5 = [some (.int b), some (.int (a.fmod b))] ∧ H5 = H', ?_, ?_⟩
      · rintro σ5 H5 ⟨rfl, rfl⟩
        exact ⟨_, fmod_less a c, b, a.fmod b, rfl, rfl, sH, by rw [gcd_step]; exact eg⟩
      repeat array_get_dec
      refine ⟨c, ?_⟩
      exact ⟨_, _, rfl, rfl, rfl⟩
abbrev s__law_point : Stmt := topS 48
abbrev n__law_point : List Str := ["_law_x", "_law_y", "_law_d", "_law_by"]
theorem c__law_point : FnScope n__law_point ["_law_x", "_law_y", "_law_d"] (defScope s__law_point) := ⟨rfl, rfl, rfl, by decide +kernel, rfl, by decide +kernel, by decide +kernel⟩
/-- a place of its own -/
def p__law_point : Sp := fun vs H Q _ => ∃ (x y d : Int), vs = [.int x, .int y, .int d] ∧ 1 ≤ d ∧ x.natAbs < 10 ^ 30 ∧ y.natAbs < 10 ^ 30 ∧ d.natAbs < 10 ^ 30 ∧ ∀ p r H', Same H H' → H r = none → PlA H' r p → Q (.ref r) H'
set_option pp.maxSteps 300 in
theorem ok__law_point  (D : Df K mg "_law_point" s__law_point ["_law_x", "_law_y", "_law_d"]) (C__law_common : Cl P w K mg base CX0 "_law_common" 1 ["_law_first", "_law_last"] (p__law_common)) : Cl P w K mg base CX0 "_law_point" 2 ["_law_x", "_law_y", "_law_d"] (p__law_point) := by
  refine D.cl fun f fd F => F.ok c__law_point (fun vs H Q E h => ?_) (fun cdv A outer s H vs Q E hr h => ?_)
  · obtain ⟨x, y, d, rfl, d1, hx, hy, hd, q⟩ := h
    rfl
  · obtain ⟨x, y, d, rfl, d1, hx, hy, hd, q⟩ := h
    have nd := c__law_point.nd
    have hu : _ := hu_of hr
    refine ⟨_, (pss_cons (ps_set (i := 3) nd rfl (.inl rfl) (pe_cl C__law_common (hr.mono (by decide)) (by rfl) pass0 (pa_cons (pe_cl C__law_common (hr.mono (by decide)) (by rfl) pass0 (pa_cons (pv 0) (pa_cons (pv 1) pa_nil))) (pa_cons (pv 2) pa_nil)))) (pss_one (ps_ret (pe_tupG (pa_cons (pe_op op_fdivE (pv 0) (pv 3)) (pa_cons (pe_op op_fdivE (pv 1) (pv 3)) (pa_cons (pe_op op_fdivE (pv 2) (pv 3)) pa_nil))))))), ?_⟩
    repeat array_get_dec
    refine fun H1 s1 => ?_
    repeat array_get_dec
    refine fun H2 s2 => ?_
    have eg : Nat.gcd (((Nat.gcd x.natAbs y.natAbs : Nat) : Int)).natAbs d.natAbs = g3 x y d := g3_is x y d
    rw [eg]
    have gp : 0 < g3 x y d := by
      unfold g3
      exact Nat.gcd_pos_of_pos_right _ (by omega)
    have gl : g3 x y d ≤ d.natAbs := Nat.le_of_dvd (by omega) (Nat.gcd_dvd_right _ _)
    have ce : ∀ z : Int, CDivE z (g3 x y d : Nat) := fun z => ⟨by omega, Nat.lt_of_lt_of_le (show ((g3 x y d : Nat) : Int).natAbs < 2 ^ 100 by omega) (Nat.pow_le_pow_right (by decide) (by decide))⟩
    repeat array_get_dec
    refine ⟨ce _, ?_⟩
    repeat array_get_dec
    refine ⟨ce _, ?_⟩
    repeat array_get_dec
    refine ⟨ce _, ?_⟩
    repeat array_get_dec
    have pk := place_ok (x := x) (y := y) (d := d) (by omega) hx hy hd
    have egs : gs x y d = (g3 x y d : Nat) := by
      unfold gs
      rw [if_neg (by omega)]
    rw [egs] at pk
    exact fun r H3 s3 n3 e3 => q ⟨_, _, _⟩ r H3 ((s1.trans s2).trans s3) ((s1.trans s2).free n3) ⟨e3, pk⟩
abbrev s__law_off : Stmt := topS 49
abbrev n__law_off : List Str := ["_law_a", "_law_b", "_law_spot", "_law_u", "_law_v"]
theorem c__law_off : FnScope n__law_off ["_law_a", "_law_b", "_law_spot"] (defScope s__law_off) := ⟨rfl, rfl, rfl, by decide +kernel, rfl, by decide +kernel, by decide +kernel⟩
def p__law_off : Sp := fun vs H Q _ => ∃ (a b r : Addr) (A B : Pt) (p : Plc), vs = [.ref a, .ref b, .ref r] ∧ Sit H a A.1 A.2 ∧ Sit H b B.1 B.2 ∧ Bd 1000000 A.1 A.2 ∧ Bd 1000000 B.1 B.2 ∧ PlA H r p ∧ ∀ H', Same H H' → Q (.int (po A B p)) H'
set_option pp.maxSteps 300 in
theorem ok__law_off  (D : Df K mg "_law_off" s__law_off ["_law_a", "_law_b", "_law_spot"]) : Cl P w K mg base CX0 "_law_off" 1 ["_law_a", "_law_b", "_law_spot"] (p__law_off) := by
  refine D.cl fun f fd F => F.ok c__law_off (fun vs H Q E h => ?_) (fun cdv A outer s H vs Q E hr h => ?_)
  · obtain ⟨a, b, r, A, B, p, rfl, ha, hb, ⟨a1, a2, a3, a4⟩, ⟨b1, b2, b3, b4⟩, hr2, q⟩ := h
    rfl
  · obtain ⟨a, b, r, A, B, p, rfl, ha, hb, ⟨a1, a2, a3, a4⟩, ⟨b1, b2, b3, b4⟩, hr2, q⟩ := h
    have nd := c__law_off.nd
    have hu : _ := hu_of hr
    refine ⟨_, (pss_cons (ps_par (i := 3) (j := 4) (by rfl) nd rfl rfl (by decide) rfl rfl (pa_cons (pe_op op_sub (pe_ix ix_tup (pv 2) pe_int (fun _ _ => rfl)) (pe_op op_mulW (pe_ix ix_tup (pv 0) pe_int (fun _ _ => rfl)) (pe_ix ix_tup (pv 2) pe_int (fun _ _ => rfl)))) (pa_cons (pe_op op_sub (pe_ix ix_tup (pv 2) pe_int (fun _ _ => rfl)) (pe_op op_mulW (pe_ix ix_tup (pv 0) pe_int (fun _ _ => rfl)) (pe_ix ix_tup (pv 2) pe_int (fun _ _ => rfl)))) pa_nil)) (by rfl)) (pss_one (ps_ret (pe_op op_sub (pe_op op_mulW (pe_op op_sub (pe_ix ix_tup (pv 1) pe_int (fun _ _ => rfl)) (pe_ix ix_tup (pv 0) pe_int (fun _ _ => rfl))) (pv 4)) (pe_op op_mulW (pe_op op_sub (pe_ix ix_tup (pv 1) pe_int (fun _ _ => rfl)) (pe_ix ix_tup (pv 0) pe_int (fun _ _ => rfl))) (pv 3)))))), ?_⟩
    obtain ⟨x1, x2, x3⟩ := hr2.ok.bits
    have hp := hr2.at_
    unfold Pla at hp
    repeat array_get_dec
    exact q _ (Same.refl _)
abbrev s__law_between : Stmt := topS 50
abbrev n__law_between : List Str := ["_law_a", "_law_b", "_law_spot", "_law_x", "_law_y", "_law_d", "_law_dots"]
theorem c__law_between : FnScope n__law_between ["_law_a", "_law_b", "_law_spot"] (defScope s__law_between) := ⟨rfl, rfl, rfl, by decide +kernel, rfl, by decide +kernel, by decide +kernel⟩
def p__law_between : Sp := fun vs H Q _ => ∃ (a b r : Addr) (A B : Pt) (p : Plc), vs = [.ref a, .ref b, .ref r] ∧ Sit H a A.1 A.2 ∧ Sit H b B.1 B.2 ∧ Bd 1000000 A.1 A.2 ∧ Bd 1000000 B.1 B.2 ∧ PlA H r p ∧ ∀ H' v, Same H H' → (v = true ↔ po A B p = 0 ∧ dots A B p ≤ 0) → Q (.bl v) H'
set_option pp.maxSteps 300 in
theorem ok__law_between  (D : Df K mg "_law_between" s__law_between ["_law_a", "_law_b", "_law_spot"]) (C__law_off : Cl P w K mg base CX0 "_law_off" 1 ["_law_a", "_law_b", "_law_spot"] (p__law_off)) : Cl P w K mg base CX0 "_law_between" 2 ["_law_a", "_law_b", "_law_spot"] (p__law_between) := by
  refine D.cl fun f fd F => F.ok c__law_between (fun vs H Q E h => ?_) (fun cdv A outer s H vs Q E hr h => ?_)
  · obtain ⟨a, b, r, A, B, p, rfl, ha, hb, ba, bb, hr2, q⟩ := h
    rfl
  · obtain ⟨a, b, r, A, B, p, rfl, ha, hb, ba, bb, hr2, q⟩ := h
    have nd := c__law_between.nd
    have hu : _ := hu_of hr
    refine ⟨_, (pss_cons (ps_asg (pv 2) (pg_tup (by rfl) (pgs_cons (pg_name (i := 3) nd rfl (.inl rfl)) (pgs_cons (pg_name (i := 4) nd rfl (.inl rfl)) (pgs_cons (pg_name (i := 5) nd rfl (.inl rfl)) pgs_nil))))) (pss_cons (ps_set (i := 6) nd rfl (.inl rfl) (pe_op op_add (pe_op op_mulW (pe_op op_sub (pv 3) (pe_op op_mulW (pe_ix ix_tup (pv 0) pe_int (fun _ _ => rfl)) (pv 5))) (pe_op op_sub (pv 3) (pe_op op_mulW (pe_ix ix_tup (pv 1) pe_int (fun _ _ => rfl)) (pv 5)))) (pe_op op_mulW (pe_op op_sub (pv 4) (pe_op op_mulW (pe_ix ix_tup (pv 0) pe_int (fun _ _ => rfl)) (pv 5))) (pe_op op_sub (pv 4) (pe_op op_mulW (pe_ix ix_tup (pv 1) pe_int (fun _ _ => rfl)) (pv 5)))))) (pss_one (ps_ret (pe_and (pe_cmpR op_eq (pe_cl C__law_off (hr.mono (by decide)) (by rfl) pass0 (pa_cons (pv 0) (pa_cons (pv 1) (pa_cons (pv 2) pa_nil)))) pe_int (nomark _)) (pe_one (pe_cmpR op_le (pv 6) pe_int (nomark _)))))))), ?_⟩
    obtain ⟨x1, x2, x3⟩ := hr2.ok.bits
    have hp := hr2.at_
    unfold Pla at hp
    have ⟨a1, a2, a3, a4⟩ := ba
    have ⟨b1, b2, b3, b4⟩ := bb
    repeat array_get_dec
    refine ⟨a, b, r, A, B, p, rfl, ha, hb, ba, bb, hr2, fun H1 s1 => ?_⟩
    repeat array_get_dec
    by_cases z : po A B p = 0
    · refine w_itt (congrArg V.int z) ?_
      repeat array_get_dec
      refine q _ _ s1 ?_
      rw [decide_eq_true_eq]
      exact ⟨fun h => ⟨z, h⟩, fun h => h.2⟩
    · refine w_itf (fun e => z (V.int.inj e)) ?_
      refine q _ _ s1 ?_
      simp [z]
end
/-! ### a drawn place -/
section
variable {P : Program} {w : World} {K : PySem.W.Frag} {mg : Str → Option Value} {base : Heap}
theorem Lot.ne {f : Addr → Int × Int} {H : Hp} {p s : Addr} {ts : List Addr} {N : Nat} (h : Lot f H p ts) (hs : SrcB N H s) : ∀ t ∈ ts, t ≠ s := by
  intro t m
  have e := (h.sit t m).1
  obtain ⟨_, _, _, e2, _⟩ := hs
  rintro rfl
  unfold Sit at e
  rw [e] at e2
  cases e2
theorem Lot.stp {f : Addr → Int × Int} {H H' : Hp} {p s : Addr} {ts : List Addr} {N : Nat} (h : Lot f H p ts) (hs : SrcB N H s) (st : Stp s H H') : Lot f H' p ts :=
  ⟨st.keep _ _ (refs_ne h.at_ hs) h.at_, h.pos, h.few, fun t m => ⟨st.keep _ _ (h.ne hs t m) (h.sit t m).1, (h.sit t m).2⟩, h.nod⟩
theorem bnd_mul {x y : Int} (h1 : -1000000 ≤ x) (h2 : x ≤ 1000000) (hy : 0 ≤ y) : -(1000000 * y) ≤ x * y ∧ x * y ≤ 1000000 * y := by
  have a := Int.mul_le_mul_of_nonneg_right h2 hy
  have b := Int.mul_le_mul_of_nonneg_right h1 hy
  rw [Int.neg_mul] at b
  exact ⟨b, a⟩
theorem plOk_1 {x y : Int} (h1 : -1000000 ≤ x) (h2 : x ≤ 1000000) (h3 : -1000000 ≤ y) (h4 : y ≤ 1000000) : PlOk x y 1 :=
  ⟨by omega, by omega, by omega, by omega, by omega, by omega, by unfold g3; exact Nat.gcd_one_right _⟩
abbrev s__law_some_point : Stmt := topS 51
abbrev n__law_some_point : List Str := ["_law_purse_here", "_law_sites_so", "_law_a", "_law_b", "_law_c", "_law_kind_so", "_law_d", "_law_by", "_law_u", "_law_v", "_law_turn_so"]
theorem c__law_some_point : FnScope n__law_some_point ["_law_purse_here", "_law_sites_so"] (defScope s__law_some_point) := ⟨rfl, rfl, rfl, by decide +kernel, rfl, by decide +kernel, by decide +kernel⟩
def p__law_some_point : Sp := fun vs H Q _ => ∃ (s p : Addr) (ts : List Addr) (f : Addr → Int × Int) (N : Nat), vs = [.ref s, .ref p] ∧ SrcB N H s ∧ N < 2 ^ 38 ∧ Lot f H p ts ∧ ∀ r pl H', SB s (N + 20) H H' → PlA H' r pl → Q (.ref r) H'
set_option pp.maxSteps 300 in
theorem ok__law_some_point  (D : Df K mg "_law_some_point" s__law_some_point ["_law_purse_here", "_law_sites_so"]) (C__law_coin : Cl P w K mg base CX0 "_law_coin" 1 ["_law_purse_here", "_law_many"] (p__law_coin)) (C__law_pick : Cl P w K mg base CX0 "_law_pick" 2 ["_law_purse_here", "_law_some"] (p__law_pick)) (C__law_point : Cl P w K mg base CX0 "_law_point" 2 ["_law_x", "_law_y", "_law_d"] (p__law_point)) (mrange : mg "range" = none) : Cl P w K mg base CX0 "_law_some_point" 3 ["_law_purse_here", "_law_sites_so"] (p__law_some_point) := by
  refine D.cl fun f fd F => F.ok c__law_some_point (fun vs H Q E h => ?_) (fun cdv A outer s H vs Q E hr h => ?_)
  · obtain ⟨s, p, ts, g, N, rfl, hs, hN, hl, q⟩ := h
    rfl
  · obtain ⟨s, p, ts, g, N, rfl, hs, hN, hl, q⟩ := h
    have nd := c__law_some_point.nd
    have hu : _ := hu_of hr
    refine ⟨_, (pss_cons (ps_asg (pe_lc (own := [("_law_turn_so", 10)]) (g := (gName 10)) (tt := tYes)  rfl nd (pi_range1 (by rfl) mrange (pa_cons pe_int pa_nil)) (blkOk_by (own := [("_law_turn_so", 10)]) (N := n__law_some_point) (sc := defScope s__law_some_point) (by decide +kernel)) (fun _ _ _ _ _ => by exact (pg_name (i := 10) nd rfl (.inl rfl))) (fun _ _ _ _ _ => by exact pts_nil) (fun _ _ _ _ _ => by exact (pe_cl C__law_pick (hr.mono (by decide)) (by rfl) pass0 (pa_cons (pv 0) (pa_cons (pv 1) pa_nil))))) (pg_unl (by rfl) (pgs_cons (pg_name (i := 2) nd rfl (.inl rfl)) (pgs_cons (pg_name (i := 3) nd rfl (.inl rfl)) (pgs_cons (pg_name (i := 4) nd rfl (.inl rfl)) pgs_nil))))) (pss_cons (ps_par (i := 5) (j := 6) (by rfl) nd rfl rfl (by decide) rfl rfl (pa_cons (pe_cl C__law_coin (hr.mono (by decide)) (by rfl) pass0 (pa_cons (pv 0) (pa_cons pe_int pa_nil))) (pa_cons (pe_op op_add pe_int (pe_cl C__law_coin (hr.mono (by decide)) (by rfl) pass0 (pa_cons (pv 0) (pa_cons pe_int pa_nil)))) pa_nil)) (by rfl)) (pss_cons (ps_if (pt_cmpR op_eq (pv 5) pe_int (nomark _)) (pss_cons (ps_set (i := 6) nd rfl (.inl rfl) (pe_op op_sub (pe_op op_pow pe_int pe_int) (pe_cl C__law_coin (hr.mono (by decide)) (by rfl) pass0 (pa_cons (pv 0) (pa_cons pe_int pa_nil))))) (pss_cons (ps_set (i := 7) nd rfl (.inl rfl) (pe_cl C__law_pick (hr.mono (by decide)) (by rfl) pass0 (pa_cons (pv 0) (pa_cons (pe_lstG (pa_cons pe_int (pa_cons (pe_op op_fdiv (pv 6) pe_int) (pa_cons (pe_op op_fdiv (pv 6) pe_int) (pa_cons (pe_cl C__law_coin (hr.mono (by decide)) (by rfl) pass0 (pa_cons (pv 0) (pa_cons (pv 6) pa_nil))) (pa_cons (pv 6) pa_nil)))))) pa_nil)))) (pss_cons (ps_par (i := 8) (j := 9) (by rfl) nd rfl rfl (by decide) rfl rfl (pa_cons (pe_op op_sub (pe_cl C__law_coin (hr.mono (by decide)) (by rfl) pass0 (pa_cons (pv 0) (pa_cons pe_int pa_nil))) pe_int) (pa_cons (pe_op op_sub (pe_cl C__law_coin (hr.mono (by decide)) (by rfl) pass0 (pa_cons (pv 0) (pa_cons pe_int pa_nil))) pe_int) pa_nil)) (by rfl)) (pss_one (ps_ret (pe_cl C__law_point (hr.mono (by decide)) (by rfl) pass0 (pa_cons (pe_op op_add (pe_op op_add (pe_op op_mulW (pe_ix ix_tup (pv 2) pe_int (fun _ _ => rfl)) (pv 7)) (pe_op op_mulW (pe_ix ix_tup (pv 3) pe_int (fun _ _ => rfl)) (pe_op op_sub (pv 6) (pv 7)))) (pv 8)) (pa_cons (pe_op op_add (pe_op op_add (pe_op op_mulW (pe_ix ix_tup (pv 2) pe_int (fun _ _ => rfl)) (pv 7)) (pe_op op_mulW (pe_ix ix_tup (pv 3) pe_int (fun _ _ => rfl)) (pe_op op_sub (pv 6) (pv 7)))) (pv 9)) (pa_cons (pv 6) pa_nil))))))))) pss_nil) (pss_cons (ps_if (pt_cmpR op_eq (pv 5) pe_int (nomark _)) (pss_one (ps_ret (pe_tupG (pa_cons (pe_ix ix_tup (pv 2) pe_int (fun _ _ => rfl)) (pa_cons (pe_ix ix_tup (pv 2) pe_int (fun _ _ => rfl)) (pa_cons pe_int pa_nil)))))) pss_nil) (pss_cons (ps_if (pt_cmpR op_eq (pv 5) pe_int (nomark _)) (pss_one (ps_ret (pe_cl C__law_point (hr.mono (by decide)) (by rfl) pass0 (pa_cons (pe_op op_add (pe_ix ix_tup (pv 2) pe_int (fun _ _ => rfl)) (pe_ix ix_tup (pv 3) pe_int (fun _ _ => rfl))) (pa_cons (pe_op op_add (pe_ix ix_tup (pv 2) pe_int (fun _ _ => rfl)) (pe_ix ix_tup (pv 3) pe_int (fun _ _ => rfl))) (pa_cons pe_int pa_nil)))))) pss_nil) (pss_cons (ps_if (pt_cmpR op_eq (pv 5) pe_int (nomark _)) (pss_one (ps_ret (pe_cl C__law_point (hr.mono (by decide)) (by rfl) pass0 (pa_cons (pe_op op_add (pe_op op_add (pe_ix ix_tup (pv 2) pe_int (fun _ _ => rfl)) (pe_ix ix_tup (pv 3) pe_int (fun _ _ => rfl))) (pe_ix ix_tup (pv 4) pe_int (fun _ _ => rfl))) (pa_cons (pe_op op_add (pe_op op_add (pe_ix ix_tup (pv 2) pe_int (fun _ _ => rfl)) (pe_ix ix_tup (pv 3) pe_int (fun _ _ => rfl))) (pe_ix ix_tup (pv 4) pe_int (fun _ _ => rfl))) (pa_cons pe_int pa_nil)))))) pss_nil) (pss_cons (ps_if (pt_cmpR op_eq (pv 5) pe_int (nomark _)) (pss_one (ps_ret (pe_cl C__law_point (hr.mono (by decide)) (by rfl) pass0 (pa_cons (pe_op op_sub (pe_op op_add (pe_op op_mulW (pe_ix ix_tup (pv 2) pe_int (fun _ _ => rfl)) (pv 6)) (pe_cl C__law_coin (hr.mono (by decide)) (by rfl) pass0 (pa_cons (pv 0) (pa_cons pe_int pa_nil)))) pe_int) (pa_cons (pe_op op_sub (pe_op op_add (pe_op op_mulW (pe_ix ix_tup (pv 2) pe_int (fun _ _ => rfl)) (pv 6)) (pe_cl C__law_coin (hr.mono (by decide)) (by rfl) pass0 (pa_cons (pv 0) (pa_cons pe_int pa_nil)))) pe_int) (pa_cons (pv 6) pa_nil)))))) pss_nil) (pss_one (ps_ret (pe_cl C__law_point (hr.mono (by decide)) (by rfl) pass0 (pa_cons (pe_op op_add (pe_op op_mulW pe_int (pe_ix ix_tup (pv 2) pe_int (fun _ _ => rfl))) (pe_op op_mulW (pe_ix ix_tup (pv 3) pe_int (fun _ _ => rfl)) (pe_op op_sub (pv 6) pe_int))) (pa_cons (pe_op op_add (pe_op op_mulW pe_int (pe_ix ix_tup (pv 2) pe_int (fun _ _ => rfl))) (pe_op op_mulW (pe_ix ix_tup (pv 3) pe_int (fun _ _ => rfl)) (pe_op op_sub (pv 6) pe_int))) (pa_cons (pv 6) pa_nil))))))))))))), ?_⟩
    have lts : (ts.map V.ref).length = ts.length := List.length_map _
    have hfew := hl.few
    have hpos := hl.pos
    repeat array_get_dec
    refine ⟨by decide, by decide, fun D nD => ?_⟩
    refine lc_spots (a := -1000000) (b := 1000000) (c := 1) (walk_range (lo := 0) (n := 3)) nD (by decide) hs (fun _ _ => trivial) (fun i x' H3 H4 Kp hi B3 yi fin => ?_) fun H3 us B3 sp len => ?_
    · obtain ⟨rfl, rfl⟩ := yi
      have hl3 := hl.stp hs B3.st
      repeat array_get_dec
      refine ⟨s, p, _, N + 1 * i, rfl, B3.sb, by omega, hl3.at_, refs_ne hl3.at_ B3.sb, by omega, by omega, fun x2 H5 hx st5 sb5 => ?_⟩
      obtain ⟨t, mt, rfl⟩ := List.mem_map.mp hx
      have z := (hl3.stp B3.sb st5).sit t mt
      exact fin t H5 st5 sb5 ⟨_, _, z.1, z.2.1, z.2.2.1, z.2.2.2.1, z.2.2.2.2⟩
    · obtain ⟨a, b, c, rfl⟩ : ∃ a b c, us = [a, b, c] := by
        match us, len with
        | [a, b, c], _ => exact ⟨a, b, c, rfl⟩
      obtain ⟨a1, a2, ea, a3, a4, a5, a6⟩ := sp.each a (by simp)
      obtain ⟨b1, b2, eb, b3, b4, b5, b6⟩ := sp.each b (by simp)
      obtain ⟨c1, c2, ec, c3, c4, c5, c6⟩ := sp.each c (by simp)
      have eD := sp.at_
      have na := (sp.each a (by simp)).ne B3.sb
      have nb := (sp.each b (by simp)).ne B3.sb
      have nc := (sp.each c (by simp)).ne B3.sb
      refine ⟨D, _, rfl, SqL.of eD, rfl, ?_⟩
      repeat array_get_dec
      refine ⟨s, 6, N + 3, rfl, B3.sb.up (by omega), by omega, by decide, by decide, fun kd H4 k0 k1 st4 sb4 => ?_⟩
      repeat array_get_dec
      refine ⟨s, 6, N + 4, rfl, sb4, by omega, by decide, by decide, fun d0 H5 d00 d01 st5 sb5 => ?_⟩
      repeat array_get_dec
      have B5 := (B3.step st4 sb4).step st5 sb5
      have st35 := st4.trans st5
      have ea5 := st35.keep _ _ na ea
      have eb5 := st35.keep _ _ nb eb
      have ec5 := st35.keep _ _ nc ec
      unfold Sit at ea5 eb5 ec5
      refine w_ifd (fun z => ?_) fun z => ?_
      · repeat array_get_dec
        refine ⟨s, 1000, N + 5, rfl, sb5, by omega, by decide, by decide, fun k6 H6 k60 k61 st6 sb6 => ?_⟩
        have B6 := B5.step st6 sb6
        have hd : (10 : Int) ^ (23 : Int).toNat = 100000000000000000000000 := by decide
        have ea6 := st6.keep _ _ na ea5
        have eb6 := st6.keep _ _ nb eb5
        unfold Sit at ea6 eb6
        obtain ⟨D5, hD5⟩ : ∃ D5 : Int, D5 = (10 : Int) ^ (23 : Int).toNat - k6 := ⟨_, rfl⟩
        have hD6 : D5 = 100000000000000000000000 - k6 := by rw [hD5, hd]
        repeat array_get_dec
        refine ⟨⟨by decide, by decide⟩, ?_⟩
        repeat array_get_dec
        refine ⟨⟨by decide, by decide⟩, ?_⟩
        repeat array_get_dec
        refine ⟨s, _, N + 6, rfl, sb6, by omega, by omega, Nat.lt_of_lt_of_le (show _ < 2 ^ 100 by omega) (Nat.pow_le_pow_right (by decide) (by decide)), fun k7 H7 k70 k71 st7 sb7 => ?_⟩
        have B7 := B6.step st7 sb7
        repeat array_get_dec
        refine fun pl8 H8 s8 n8 e8 => ?_
        have B8 := B7.same s8
        repeat array_get_dec
        refine ⟨s, pl8, _, N + 7, rfl, B8.sb, by omega, e8, B7.sb.ne n8, by simp, by simp, fun x9 H9 hx9 st9 sb9 => ?_⟩
        have B9 := B8.step st9 sb9
        obtain ⟨by', rfl, hy0, hy1⟩ : ∃ b : Int, x9 = .int b ∧ 0 ≤ b ∧ b ≤ (10 : Int) ^ (23 : Int).toNat - k6 := by
          simp only [List.mem_cons, List.not_mem_nil, or_false] at hx9
          rcases hx9 with rfl | rfl | rfl | rfl | rfl
          · exact ⟨_, rfl, by omega, by omega⟩
          · exact ⟨_, rfl, by omega, by omega⟩
          · exact ⟨_, rfl, by omega, by omega⟩
          · exact ⟨_, rfl, by omega, by omega⟩
          · exact ⟨_, rfl, by omega, by omega⟩
        repeat array_get_dec
        refine ⟨s, 5, N + 8, rfl, sb9, by omega, by decide, by decide, fun k10 H10 k100 k101 st10 sb10 => ?_⟩
        have B10 := B9.step st10 sb10
        repeat array_get_dec
        refine ⟨s, 5, N + 9, rfl, sb10, by omega, by decide, by decide, fun k11 H11 k110 k111 st11 sb11 => ?_⟩
        have B11 := B10.step st11 sb11
        have ea7 := st7.keep _ _ na ea6
        have eb7 := st7.keep _ _ nb eb6
        have ea11 := st11.keep _ _ na (st10.keep _ _ na (st9.keep _ _ na (s8 _ _ ea7)))
        have eb11 := st11.keep _ _ nb (st10.keep _ _ nb (st9.keep _ _ nb (s8 _ _ eb7)))
        have m1 := bnd_mul a3 a4 hy0
        have m2 := bnd_mul a5 a6 hy0
        have m3 := bnd_mul b3 b4 (show 0 ≤ (10 : Int) ^ (23 : Int).toNat - k6 - by' by omega)
        have m4 := bnd_mul b5 b6 (show 0 ≤ (10 : Int) ^ (23 : Int).toNat - k6 - by' by omega)
        have w1 : by'.natAbs < 2 ^ 100 := by omega
        have w2 : ((10 : Int) ^ (23 : Int).toNat - k6 - by').natAbs < 2 ^ 100 := by omega
        repeat array_get_dec
        refine ⟨by omega, by omega, by omega, by omega, fun pl r H12 s12 n12 hp12 => ?_⟩
        repeat array_get_dec
        exact q r pl H12 ((B11.same s12).mono (by omega)) hp12
      repeat array_get_dec
      refine w_ifd (fun z => ?_) fun z => ?_
      · repeat array_get_dec
        exact fun r H6 s6 n6 e6 => q r ⟨a1, a2, 1⟩ H6 ((B5.same s6).mono (by omega)) ⟨e6, plOk_1 a3 a4 a5 a6⟩
      repeat array_get_dec
      refine w_ifd (fun z => ?_) fun z => ?_
      · repeat array_get_dec
        refine ⟨by omega, by omega, by omega, by omega, fun pl r H9 s9 n9 hp9 => ?_⟩
        repeat array_get_dec
        exact q r pl H9 ((B5.same s9).mono (by omega)) hp9
      repeat array_get_dec
      refine w_ifd (fun z => ?_) fun z => ?_
      · repeat array_get_dec
        refine ⟨by omega, by omega, by omega, by omega, fun pl r H9 s9 n9 hp9 => ?_⟩
        repeat array_get_dec
        exact q r pl H9 ((B5.same s9).mono (by omega)) hp9
      repeat array_get_dec
      have hd1 : 1 ≤ 1 + d0 := by omega
      have hd2 : 1 + d0 ≤ 6 := by omega
      have m1 := bnd_mul a3 a4 (show 0 ≤ 1 + d0 by omega)
      have m2 := bnd_mul a5 a6 (show 0 ≤ 1 + d0 by omega)
      have m3 := bnd_mul b3 b4 (show 0 ≤ 1 + d0 by omega)
      have m4 := bnd_mul b5 b6 (show 0 ≤ 1 + d0 by omega)
      refine w_ifd (fun z => ?_) fun z => ?_
      · repeat array_get_dec
        refine ⟨s, 9, N + 5, rfl, sb5, by omega, by decide, by decide, fun k6 H6 k60 k61 st6 sb6 => ?_⟩
        have B6 := B5.step st6 sb6
        have ea6 := st6.keep _ _ na ea5
        have eb6 := st6.keep _ _ nb eb5
        unfold Sit at ea6 eb6
        repeat array_get_dec
        refine ⟨s, 9, N + 6, rfl, sb6, by omega, by decide, by decide, fun k7 H7 k70 k71 st7 sb7 => ?_⟩
        have B7 := B6.step st7 sb7
        repeat array_get_dec
        refine ⟨by omega, by omega, by omega, by omega, fun pl r H9 s9 n9 hp9 => ?_⟩
        repeat array_get_dec
        exact q r pl H9 ((B7.same s9).mono (by omega)) hp9
      repeat array_get_dec
      have e1 : b1 * (1 + d0 - 2) = b1 * (1 + d0) - 2 * b1 := by rw [Int.mul_sub, Int.mul_comm b1 2]
      have e2 : b2 * (1 + d0 - 2) = b2 * (1 + d0) - 2 * b2 := by rw [Int.mul_sub, Int.mul_comm b2 2]
      rw [e1, e2]
      refine ⟨by omega, by omega, by omega, by omega, fun pl r H9 s9 n9 hp9 => ?_⟩
      repeat array_get_dec
      exact q r pl H9 ((B5.same s9).mono (by omega)) hp9
end
/-! ### corners, where, extreme, as the law tells -/
section
variable {P : Program} {w : World} {K : PySem.W.Frag} {mg : Str → Option Value} {base : Heap}
abbrev s__law_corners : Stmt := topS 52
abbrev n__law_corners : List Str := ["_law_ring_here", "_law_found", "_law_at", "_law_spot"]
theorem c__law_corners : FnScope n__law_corners ["_law_ring_here"] (defScope s__law_corners) := ⟨rfl, rfl, rfl, by decide +kernel, rfl, by decide +kernel, by decide +kernel⟩
def p__law_corners : Sp := fun vs H Q _ => ∃ (p : Addr) (us : List Addr) (f : Addr → Int × Int) (rows : List Pt) (p0 q : Pt), vs = [.ref p] ∧ Pts f H p us ∧ us.length < 64 ∧ Ends2 rows p0 q ∧ Brd p0 q rows (us.map f) ∧ Tells f us (cornN p0 q rows) H Q
set_option pp.maxSteps 300 in
theorem ok__law_corners  (D : Df K mg "_law_corners" s__law_corners ["_law_ring_here"]) (C__law_lean : Cl P w K mg base CX0 "_law_lean" 1 ["_law_a", "_law_b", "_law_c"] (p__law_lean)) (C__law_flat : Cl P w K mg base CX0 "_law_flat" 2 ["_law_sites_so"] (p__law_flat)) (menumerate : mg "enumerate" = none) (mlen : mg "len" = none) (mlist : mg "list" = none) : Cl P w K mg base CX0 "_law_corners" 3 ["_law_ring_here"] (p__law_corners) := by
  refine D.cl fun f fd F => F.ok c__law_corners (fun vs H Q E h => ?_) (fun cdv A outer s H vs Q E hr h => ?_)
  · obtain ⟨p, us, g, rows, p0, q0, rfl, hl, few, he, hb, q⟩ := h
    rfl
  · obtain ⟨p, us, g, rows, p0, q0, rfl, hl, few, he, hb, q⟩ := h
    have nd := c__law_corners.nd
    have hu : _ := hu_of hr
    refine ⟨_, (pss_cons (ps_if (pt_val (pe_cl C__law_flat (hr.mono (by decide)) (by rfl) pass0 (pa_cons (pv 0) pa_nil))) (pss_one (ps_ret (pe_ifExp (pt_cmpR op_gt (pe_callB call_len_seq (by rfl) mlen (by decide +kernel) (pa_cons (pv 0) pa_nil)) pe_int (nomark _)) (pe_lstG (pa_cons (pe_ix ix_list (pv 0) pe_int (fun _ _ => rfl)) (pa_cons (pe_ix ix_list (pv 0) pe_neg (fun _ _ => rfl)) pa_nil))) (pe_callTy call_list_of (by rfl) mlist (by decide +kernel) (pa_cons (pv 0) pa_nil))))) pss_nil) (pss_cons (ps_set (i := 1) nd rfl (.inl rfl) (pe_lstG pa_nil)) (pss_cons (ps_for PassesOwn.never rfl (pi_enum (by rfl) menumerate (pa_cons (pv 0) pa_nil)) (pg_tup (by rfl) (pgs_cons (pg_name (i := 2) nd rfl (.inl rfl)) (pgs_cons (pg_name (i := 3) nd rfl (.inl rfl)) pgs_nil))) (pss_one (ps_if (pt_cmpR op_ne (pe_cl C__law_lean (hr.mono (by decide)) (by rfl) pass0 (pa_cons (pe_ix ix_list (pv 0) (pe_op op_sub (pv 2) pe_int) (fun _ _ => rfl)) (pa_cons (pv 3) (pa_cons (pe_ix ix_list (pe_op op_catG (pv 0) (pv 0)) (pe_op op_add (pv 2) pe_int) (fun _ _ => rfl)) pa_nil)))) pe_int (nomark _)) (pss_one (ps_expr (pe_bm PySem.F.plainAttrs_list PySem.F.slot_list_append PySem.F.type_list_append mt_append (pv 1) (pa_cons (pv 3) pa_nil)))) pss_nil))) (pss_one (ps_ret (pv 1)))))), ?_⟩
    have lus : (us.map V.ref).length = us.length := List.length_map _
    have hpos := hl.pos
    repeat array_get_dec
    refine ⟨p, us, g, rfl, hl, fun H1 b s1 hbr => ?_⟩
    have hl1 := hl.same s1
    by_cases row : Row rows
    · have eo := hb.1 row
      rw [eo] at hbr
      have bt := hbr.mpr row
      subst bt
      obtain ⟨t0, e0, g0, m0⟩ := head_ts (f := g) (ts := us) (p0 := p0) (by rw [eo]; exact he.h0)
      obtain ⟨tz, ez, gz, mz⟩ := last_ts (f := g) (ts := us) (p0 := q0) (by rw [eo]; exact he.hq)
      have e1 := hl1.at_
      repeat array_get_dec
      rw [lus]
      by_cases n2 : p0 = q0
      · subst n2
        have r1 := one_of he.so he.h0 he.hq
        have l1 : us.length = 1 := by
          have := congrArg List.length (eo.trans r1)
          rw [List.length_map] at this
          exact this
        refine w_itf (by omega) ?_
        repeat array_get_dec
        refine fun l nl => ?_
        refine q us l _ (s1.trans (Same.upd nl)) (s1.free nl) upd_same ?_ fun u m => m
        rw [eo, r1, one_cornN]
      · have l1 : 1 < us.length := by
          cases us with
          | nil => simp at hpos
          | cons a l =>
            cases l with
            | cons b l => simp
            | nil =>
              exfalso
              apply n2
              rw [← g0, ← gz]
              rw [List.mem_singleton.mp m0, List.mem_singleton.mp mz]
        refine w_itt (by omega) ?_
        repeat array_get_dec
        refine ⟨p, _, 0, _, rfl, rfl, SqL.of e1, headI e0, ?_⟩
        repeat array_get_dec
        refine ⟨p, _, -1, _, rfl, rfl, SqL.of e1, lastI ez, ?_⟩
        repeat array_get_dec
        refine fun l H2 s2 n2' e2 => ?_
        refine q [t0, tz] l H2 (s1.trans s2) (s1.free n2') e2 ?_ fun u m => ?_
        · rw [row_cornN he.so he.h0 he.hq n2 row, List.map_cons, List.map_cons, g0, gz]
          rfl
        · simp only [List.mem_cons, List.not_mem_nil, or_false] at m
          rcases m with rfl | rfl
          · exact m0
          · exact mz
    · have eo := hb.2 row
      obtain ⟨p1, m1, last, eB, ring, rg, ec⟩ := ring_rng he.so he.h0 he.hq row
      have eo := eo.trans eB
      rw [eo] at hbr
      have bf : b = false := by
        cases b with
        | false => rfl
        | true => exact absurd (hbr.mp rfl) rg.notRow
      subst bf
      obtain ⟨t0, e0, g0, m0⟩ := head_ts (f := g) (ts := us) (p0 := p0) (by rw [eo]; rfl)
      obtain ⟨tz, ez, gz, mz⟩ := last_ts (f := g) (ts := us) (p0 := last) (by rw [eo]; exact rg.hl)
      repeat array_get_dec
      refine fun pf H2 s2 n2 e2 => ?_
      have S2 := s1.trans s2
      have hl2 := hl.same S2
      have e1 := hl2.at_
      repeat array_get_dec
      refine ⟨p, us.map V.ref, rfl, SqL.of e1, ?_⟩
      rw [← eo] at ec
      have ec : flt last (us.map g ++ [p0]) = cornN p0 q0 rows := by
        rw [← ec]
      refine for_it (walk_enum (K := K) (a := p) (xs := us.map V.ref)) (fun i σ' H' => (∃ y2 y3, σ' = [some (.ref p), some (.ref pf), y2, y3]) ∧ Same H1 H' ∧ ∃ fs : List Addr, H' pf = some (.lst (fs.map V.ref)) ∧ (∀ t ∈ fs, t ∈ us) ∧ fs.length ≤ i ∧ fs.map g ++ flt (g ((tz :: us).getD i p)) ((us.map g).drop i ++ [p0]) = cornN p0 q0 rows)
        ⟨⟨_, _, rfl⟩, s2, [], e2, fun _ m => (nomatch m), Nat.zero_le _, by show flt (g tz) (us.map g ++ [p0]) = _; rw [gz]; exact ec⟩ (fun i σ' H' _ z => SqL.of (z.2.1 _ _ hl1.at_)) (fun i x σ' H' H5 hi z y => ?_) fun σ' H' z => ?_
      · obtain ⟨⟨y2, y3, rfl⟩, sH, fs, eF, sub, lF, inv⟩ := z
        obtain ⟨T, v1, v2, rfl, nT, rfl, ev1, ev2⟩ := y
        cases Option.some.inj ev1
        obtain ⟨k, ek, rfl, mk⟩ := ref_at ev2
        rw [lus] at hi
        have sT : Same H1 (upd H' T (.tup [V.int (i : Nat), V.ref k])) := sH.trans (Same.upd nT)
        have eT : upd H' T (.tup [V.int (i : Nat), V.ref k]) T = some (.tup [V.int (i : Nat), V.ref k]) := upd_same
        have eF5 := Same.upd nT (o := .tup [V.int (i : Nat), V.ref k]) _ _ eF
        generalize upd H' T (.tup [V.int (i : Nat), V.ref k]) = H6 at sT eT eF5
        have hl6 := hl1.same sT
        have e16 := hl6.at_
        refine ⟨T, _, rfl, SqT.of eT, rfl, ?_⟩
        obtain ⟨tp, etp, atp, mtp⟩ : ∃ tp, (tz :: us).getD i p = tp ∧ atI (us.map V.ref) ((i : Nat) - 1 : Int) = some (.ref tp) ∧ tp ∈ us := by
          cases i with
          | zero => exact ⟨tz, rfl, lastI ez, mz⟩
          | succ i =>
            have c : i < us.length := by omega
            have e : us[i]? = some us[i] := List.getElem?_eq_getElem c
            refine ⟨us[i], by show us.getD i p = _; exact getD_at e, ?_, List.getElem_mem c⟩
            rw [show (((i + 1 : Nat) : Int) - 1) = ((i : Nat) : Int) by omega]
            exact atI_nat (by rw [List.getElem?_map, e]; rfl)
        obtain ⟨tx, r, etx, er, mtx⟩ : ∃ tx r, (us ++ us)[i + 1]? = some tx ∧ (us.map g).drop (i + 1) ++ [p0] = g tx :: r ∧ tx ∈ us := by
          by_cases c : i + 1 < us.length
          · have e : us[i + 1]? = some us[i + 1] := List.getElem?_eq_getElem c
            refine ⟨us[i + 1], (us.map g).drop (i + 2) ++ [p0], by rw [List.getElem?_append_left c, e], ?_, List.getElem_mem c⟩
            have c' : i + 1 < (us.map g).length := by rw [List.length_map]; exact c
            rw [List.drop_eq_getElem_cons c', List.cons_append, List.getElem_map]
          · have c : i + 1 = us.length := by omega
            refine ⟨t0, [], ?_, ?_, m0⟩
            · rw [List.getElem?_append_right (by omega), c, Nat.sub_self, ← List.head?_eq_getElem?]
              exact e0
            · rw [List.drop_of_length_le (by rw [List.length_map]; omega), g0]
              rfl
        have inv2 : fs.map g ++ ((if tn (g tp) (g k) (g tx) ≠ 0 then [g k] else []) ++ flt (g k) ((us.map g).drop (i + 1) ++ [p0])) = cornN p0 q0 rows := by
          rw [← inv, etp]
          congr 1
          have c' : i < (us.map g).length := by rw [List.length_map]; exact hi
          have ek' : (us.map g)[i] = g k := by
            rw [List.getElem_map]
            have := List.getElem?_eq_getElem hi
            rw [this] at ek
            rw [Option.some.inj ek]
          rw [List.drop_eq_getElem_cons c', List.cons_append, ek', er, flt_two]
        have etk : (tz :: us).getD (i + 1) p = k := getD_at (l := us) ek
        have z1 := hl6.sit tp mtp
        have z2 := hl6.sit k mk
        have z3 := hl6.sit tx mtx
        repeat array_get_dec
        refine ⟨p, _, _, _, rfl, rfl, SqL.of e16, atp, ?_⟩
        repeat array_get_dec
        refine ⟨p, p, _, _, rfl, rfl, e16, e16, by rw [lus]; exact Nat.le_trans (m := 200) (by omega) (by decide), fun l7 H7 s7 n7 e7 => ?_⟩
        rw [← List.map_append] at e7
        repeat array_get_dec
        refine ⟨l7, _, ((i + 1 : Nat) : Int), _, rfl, rfl, SqL.of e7, atI_nat (by rw [List.getElem?_map, etx]; rfl), ?_⟩
        repeat array_get_dec
        have hl7 := hl6.same s7
        have z1 := hl7.sit tp mtp
        have z2 := hl7.sit k mk
        have z3 := hl7.sit tx mtx
        refine ⟨tp, k, tx, g tp, g k, g tx, rfl, z1.1, z2.1, z3.1, z1.2, z2.2, z3.2, ?_⟩
        repeat array_get_dec
        have eF7 := s7 _ _ eF5
        have s17 := sT.trans s7
        refine w_ifnd (fun c => ?_) fun c => ?_
        · injection c with c
          rw [if_neg (by simp [c]), List.nil_append] at inv2
          exact ⟨⟨_, _, rfl⟩, s17, fs, eF7, sub, by omega, by rw [etk]; exact inv2⟩
        · have c : tn (g tp) (g k) (g tx) ≠ 0 := fun z => c (congrArg V.int z)
          rw [if_pos c] at inv2
          refine ⟨_, rfl, .inl ⟨rfl, _, SqL.of eF7⟩, _, rfl, pf, _, .ref k, rfl, rfl, eF7, by rw [List.length_map]; exact Nat.lt_of_lt_of_le (show fs.length < 64 by omega) (by decide), ?_⟩
          have sP : Same H1 (upd H7 pf (.lst (fs.map V.ref ++ [.ref k]))) := fun b o eb => by
            rw [upd_ne (ne_of_none eb n2)]
            exact s17 b o eb
          refine ⟨⟨_, _, rfl⟩, sP, fs ++ [k], ?_, ?_, by rw [List.length_append]; show fs.length + 1 ≤ i + 1; omega, ?_⟩
          · rw [upd_same, List.map_append]
            rfl
          · intro t mt
            rcases List.mem_append.mp mt with mt | mt
            · exact sub t mt
            · rw [List.mem_singleton.mp mt]
              exact mk
          · rw [List.map_append, etk, List.append_assoc]
            exact inv2
      · obtain ⟨⟨y2, y3, rfl⟩, sH, fs, eF, sub, lF, inv⟩ := z
        rw [lus, List.drop_of_length_le (by rw [List.length_map]; exact Nat.le_refl _), List.nil_append, flt_one, List.append_nil] at inv
        repeat array_get_dec
        exact q fs pf H' (s1.trans sH) (s1.free n2) eF inv sub
end
/-! ### where: both answers -/
section
variable {P : Program} {w : World} {K : PySem.W.Frag} {mg : Str → Option Value} {base : Heap}
theorem has_min : ∀ {l : List Int}, l ≠ [] → ∃ m ∈ l, ∀ y ∈ l, m ≤ y
  | [], h => absurd rfl h
  | [x], _ => ⟨x, by simp, fun y m => by rw [List.mem_singleton.mp m]; exact Int.le_refl _⟩
  | x :: y :: l, _ => by
    obtain ⟨m, hm, le⟩ := has_min (l := y :: l) (by simp)
    by_cases c : x ≤ m
    · refine ⟨x, by simp, fun z hz => ?_⟩
      rcases List.mem_cons.mp hz with rfl | hz
      · exact Int.le_refl _
      · exact Int.le_trans c (le z hz)
    · refine ⟨m, List.mem_cons_of_mem _ hm, fun z hz => ?_⟩
      rcases List.mem_cons.mp hz with rfl | hz
      · omega
      · exact le z hz
theorem sg_pos {m : Int} (h : 0 < m) : sg m = 1 := by unfold sg; rw [if_neg (by omega), if_pos h]
theorem sg_zero {m : Int} (h : m = 0) : sg m = 0 := by unfold sg; rw [if_pos h]
theorem sg_neg {m : Int} (h : m < 0) : sg m = -1 := by unfold sg; rw [if_neg (by omega), if_neg (by omega)]
theorem whr_uniq {p0 q : Pt} {rows : List Pt} {p : Plc} {v w : Int} (h : Whr p0 q rows p v) (k : Whr p0 q rows p w) : v = w := by
  by_cases r : Row rows
  · rw [h.1 r, k.1 r]
  · obtain ⟨m, a1, a2, rfl⟩ := h.2 r
    obtain ⟨n, b1, b2, rfl⟩ := k.2 r
    rw [Int.le_antisymm (a2 n b1) (b2 m a1)]
theorem lex_d {a b : Pt} {d : Int} (hd : 0 < d) (h : a = b ∨ lt2 a b) : lexLe (a.1 * d, a.2 * d) (b.1 * d, b.2 * d) := by
  unfold lexLe
  rcases h with rfl | h
  · exact .inr ⟨rfl, Int.le_refl _⟩
  · unfold lt2 at h
    rcases h with h | ⟨h, k⟩
    · exact .inl (Int.mul_lt_mul_of_pos_right h hd)
    · exact .inr ⟨by show a.1 * d = b.1 * d; rw [h], Int.le_of_lt (Int.mul_lt_mul_of_pos_right k hd)⟩
theorem leP_lex {x y u v : Int} : leP x y u v = true ↔ lexLe (x, y) (u, v) := leP_iff _ _ _ _
theorem on_sub {p0 a b q : Pt} {p : Plc} (hd : 0 < p.d) (o1 : p0 = a ∨ lt2 p0 a) (ab : lt2 a b) (o2 : b = q ∨ lt2 b q) (n2 : p0 ≠ q) (ta : tn p0 q a = 0) (tb : tn p0 q b = 0) (z : po a b p = 0) (d : dots a b p ≤ 0) : po p0 q p = 0 ∧ dots p0 q p ≤ 0 := by
  have pq : lt2 p0 q := by
    rcases o1 with rfl | o1
    · rcases o2 with rfl | o2
      · exact ab
      · unfold lt2 at *; omega
    · rcases o2 with rfl | o2
      · unfold lt2 at *; omega
      · unfold lt2 at *; omega
  have nab : a ≠ b := fun e => by subst e; unfold lt2 at ab; omega
  have key : po p0 q p = 0 := by
    have e : po p0 q p * ((b.1 - a.1) * (b.1 - a.1) + (b.2 - a.2) * (b.2 - a.2)) = p.d * tn p0 q a * ((b.1 - a.1) * (b.1 - a.1) + (b.2 - a.2) * (b.2 - a.2)) + ((p.x - a.1 * p.d) * (b.1 - a.1) + (p.y - a.2 * p.d) * (b.2 - a.2)) * (tn p0 q b - tn p0 q a) + po a b p * ((q.1 - p0.1) * (b.1 - a.1) + (q.2 - p0.2) * (b.2 - a.2)) := by
      unfold po tn
      grind
    rw [ta, tb, z, Int.mul_zero, Int.zero_mul, Int.sub_self, Int.mul_zero, Int.zero_mul, Int.add_zero, Int.add_zero] at e
    rcases Int.mul_eq_zero.mp e with y | y
    · exact y
    · exfalso
      apply nab
      have s1 := sq_nn (b.1 - a.1)
      have s2 := sq_nn (b.2 - a.2)
      have y1 : (b.1 - a.1) * (b.1 - a.1) = 0 := by omega
      have y2 : (b.2 - a.2) * (b.2 - a.2) = 0 := by omega
      have y1 : b.1 - a.1 = 0 := by rcases Int.mul_eq_zero.mp y1 with h | h <;> exact h
      have y2 : b.2 - a.2 = 0 := by rcases Int.mul_eq_zero.mp y2 with h | h <;> exact h
      exact Prod.ext (by omega) (by omega)
  refine ⟨key, ?_⟩
  obtain ⟨w1, w2⟩ := (way_iff hd (.inr ab) z).mpr d
  rw [leP_lex] at w1 w2
  refine (way_iff hd (.inr pq) key).mp ⟨leP_lex.mpr ((lex_d hd o1).trans w1), leP_lex.mpr (w2.trans (lex_d hd o2))⟩
theorem dots_comm (a b : Pt) (p : Plc) : dots a b p = dots b a p := by
  unfold dots
  grind
/-- sites in a row: the law's walk finds what is on the way -/
theorem hit_row {rows l : List Pt} {p0 q : Pt} {p : Plc} (hd : 0 < p.d) (e : Ends2 rows p0 q) (er : rows = p0 :: l) (row : Row rows) : Hit p q rows ↔ po p0 q p = 0 ∧ dots p0 q p ≤ 0 := by
  have hl : (p0 :: l).getLast? = some q := by rw [← er]; exact e.hq
  constructor
  · rintro ⟨a, b, h, z, d⟩
    rw [er] at h
    obtain ⟨m, n, en⟩ := (zip_ring hl).mp h
    rcases List.eq_nil_or_concat n with rfl | ⟨n', y, rfl⟩
    · have e2 : p0 :: l ++ [p0] = (m ++ [a]) ++ [b] := by rw [en]; simp
      obtain ⟨e3, e4⟩ := List.append_inj' e2 rfl
      cases e4
      rw [e3, List.getLast?_append] at hl
      simp at hl
      subst hl
      rw [dots_comm]
      rw [po_swap] at z
      exact ⟨by omega, d⟩
    · have e2 : p0 :: l ++ [p0] = (m ++ a :: b :: n') ++ [y] := by rw [en]; simp
      obtain ⟨e3, e4⟩ := List.append_inj' e2 rfl
      have rows2 : rows = m ++ a :: b :: n' := er.trans e3
      have ma : a ∈ rows := by rw [rows2]; simp
      have mb : b ∈ rows := by rw [rows2]; simp
      have so := e.so
      rw [rows2] at so
      have ab : lt2 a b := (List.pairwise_cons.mp (List.pairwise_append.mp so).2.1).1 b List.mem_cons_self
      have f1 := first_is e.so e.h0 a ma
      have f2 := last_is e.so e.hq b mb
      have zz := (row_iff e.so e.h0 e.hq).mp row
      refine on_sub hd (f1.imp Eq.symm id) ab f2 ?_ (zz a ma) (zz b mb) z d
      rintro rfl
      have := first_is e.so e.h0 b mb
      have k2 := first_is e.so e.h0 a ma
      rcases f2 with rfl | f2
      · rcases k2 with rfl | k2
        · unfold lt2 at ab; omega
        · unfold lt2 at *; omega
      · rcases this with rfl | t2
        · unfold lt2 at f2; omega
        · unfold lt2 at *; omega
  · rintro ⟨z, d⟩
    refine ⟨q, p0, ?_, by rw [po_swap]; omega, by rw [dots_comm]; exact d⟩
    rw [er]
    exact List.mem_cons_self
theorem law_where {rows l : List Pt} {p0 q last : Pt} {p : Plc} (hd : 0 < p.d) (e : Ends2 rows p0 q) (hb : Brd p0 q rows (p0 :: l)) (hl : (p0 :: l).getLast? = some last) :
    (Hit p last (p0 :: l) → Whr p0 q rows p 0) ∧ (¬ Hit p last (p0 :: l) → InFan p p0 l → Whr p0 q rows p 1) ∧ (¬ Hit p last (p0 :: l) → ¬ InFan p p0 l → Whr p0 q rows p (-1)) := by
  by_cases row : Row rows
  · have er := (hb.1 row).symm
    have el : last = q := by
      rw [← er, e.hq] at hl
      exact (Option.some.inj hl).symm
    subst el
    have hr := hit_row (p := p) hd e er row
    rw [er] at hr
    refine ⟨fun h => ⟨fun _ => by rw [if_pos (hr.mp h)], fun z => absurd row z⟩, fun _ ⟨m, b, c, n, en, _, _, _, t⟩ => ?_, fun h _ => ⟨fun _ => by rw [if_neg fun z => h (hr.mpr z)], fun z => absurd row z⟩⟩
    exfalso
    have := row p0 (by rw [er]; simp) b (by rw [er, en]; simp) c (by rw [er, en]; simp)
    omega
  · obtain ⟨p1, m1, last', eB, ring, rg, ec⟩ := ring_rng e.so e.h0 e.hq row
    have er := (hb.2 row).trans eB
    injection er with _ er
    subst er
    have el : last' = last := by
      rw [rg.hl] at hl
      exact Option.some.inj hl
    subst el
    have ec2 : cornN p0 q rows = p0 :: flt p0 (p1 :: (m1 ++ [p0])) := by
      rw [← ec, List.cons_append, List.cons_append, flt_two, if_pos rg.turn]
      rfl
    have sgn : ∀ {R : Int → Prop}, Sgn (fun a b => R (po a b p)) → ((∀ y ∈ sidesL p (cornN p0 q rows), R y) ↔ Pr (fun a b => R (po a b p)) (p0 :: p1 :: (m1 ++ [p0]))) := fun hS => by
      rw [ec2, ← pr_sides]
      exact rg.iff hS
    have s1 := sgn (R := fun y => 0 < y) (sgn_pos p)
    have s2 := sgn (R := fun y => 0 ≤ y) (sgn_nn p)
    have s3 := sgn (R := fun y => y ≠ 0) (sgn_ne p)
    have ne : sidesL p (cornN p0 q rows) ≠ [] := by
      rw [ec2]
      unfold sidesL
      intro z
      have := congrArg List.length z
      simp at this
    obtain ⟨m, hm, hle⟩ := has_min ne
    have sub : ∀ x ∈ p0 :: p1 :: m1, x ∈ rows := pr_sub (l := p0 :: p1 :: m1) ring.pr
    have tri : (0 < m ∧ ¬ Hit p last' (p0 :: p1 :: m1) ∧ InFan p p0 (p1 :: m1)) ∨ (m = 0 ∧ Hit p last' (p0 :: p1 :: m1)) ∨ (m < 0 ∧ ¬ Hit p last' (p0 :: p1 :: m1) ∧ ¬ InFan p p0 (p1 :: m1)) := by
      rcases Int.lt_trichotomy m 0 with h | h | h
      · refine .inr (.inr ⟨h, where_out rg sub hd fun z => ?_⟩)
        have := s2.mpr z m hm
        omega
      · refine .inr (.inl ⟨h, where_on rg (s2.mp fun y hy => by have := hle y hy; omega) fun z => ?_⟩)
        exact s3.mpr z m hm h
      · exact .inl ⟨h, where_in rg hd (s1.mp fun y hy => by have := hle y hy; omega)⟩
    refine ⟨fun h => ⟨fun z => absurd z row, fun _ => ⟨m, hm, hle, ?_⟩⟩, fun h f => ⟨fun z => absurd z row, fun _ => ⟨m, hm, hle, ?_⟩⟩, fun h f => ⟨fun z => absurd z row, fun _ => ⟨m, hm, hle, ?_⟩⟩⟩
    · rcases tri with ⟨_, k, _⟩ | ⟨k, _⟩ | ⟨_, k, _⟩
      · exact absurd h k
      · rw [sg_zero k]
      · exact absurd h k
    · rcases tri with ⟨k, _⟩ | ⟨_, k⟩ | ⟨_, _, k⟩
      · rw [sg_pos k]
      · exact absurd k h
      · exact absurd f k
    · rcases tri with ⟨_, _, k⟩ | ⟨_, k⟩ | ⟨k, _⟩
      · exact absurd k f
      · exact absurd k h
      · rw [sg_neg k]
end
/-! ### the law's where and extreme -/
section
variable {P : Program} {w : World} {K : PySem.W.Frag} {mg : Str → Option Value} {base : Heap}
theorem cut_last {xs : List V} {y : V} : cutV (xs ++ [y]) (some (-1)) none = [y] := by
  unfold cutV
  rw [HT.sIx_none]
  have e : HT.sIx (xs ++ [y]).length 0 (some (-1)) = xs.length := by
    show (if (-1 : Int) < 0 then ((-1 : Int) + ((xs ++ [y]).length : Int)).toNat else min (-1 : Int).toNat (xs ++ [y]).length) = _
    rw [if_pos (by decide), List.length_append]
    show ((-1 : Int) + ((xs.length + 1 : Nat) : Int)).toNat = _
    omega
  rw [e, List.drop_left]
  exact List.take_of_length_le (by simp)
theorem cut_but {xs : List V} {y : V} : cutV (xs ++ [y]) none (some (-1)) = xs := by
  unfold cutV
  rw [HT.sIx_none]
  have e : HT.sIx (xs ++ [y]).length (xs ++ [y]).length (some (-1)) = xs.length := by
    show (if (-1 : Int) < 0 then ((-1 : Int) + ((xs ++ [y]).length : Int)).toNat else min (-1 : Int).toNat (xs ++ [y]).length) = _
    rw [if_pos (by decide), List.length_append]
    show ((-1 : Int) + ((xs.length + 1 : Nat) : Int)).toNat = _
    omega
  rw [e, Nat.sub_zero, List.drop_zero]
  exact List.take_left
def Tri (p : Plc) (p0 b c : Pt) : Prop := 0 ≤ po p0 b p ∧ 0 ≤ po b c p ∧ 0 ≤ po c p0 p ∧ 0 < tn p0 b c
theorem fan_at {p : Plc} {p0 : Pt} {l : List Pt} : InFan p p0 l ↔ ∃ j b c, (p0 :: l)[j + 1]? = some b ∧ (p0 :: l)[j + 2]? = some c ∧ Tri p p0 b c := by
  constructor
  · rintro ⟨m, b, c, n, rfl, h⟩
    refine ⟨m.length, b, c, ?_, ?_, h⟩
    · rw [List.getElem?_cons_succ, List.getElem?_append_right (Nat.le_refl _), Nat.sub_self]
      rfl
    · rw [List.getElem?_cons_succ, List.getElem?_append_right (by omega), show m.length + 1 - m.length = 1 by omega]
      rfl
  · rintro ⟨j, b, c, e1, e2, h⟩
    rw [List.getElem?_cons_succ] at e1 e2
    obtain ⟨h1, k1⟩ := List.getElem?_eq_some_iff.mp e1
    obtain ⟨h2, k2⟩ := List.getElem?_eq_some_iff.mp e2
    refine ⟨l.take j, b, c, l.drop (j + 2), ?_, h⟩
    rw [← k1, ← k2, ← List.drop_eq_getElem_cons, ← List.drop_eq_getElem_cons, List.take_append_drop]
def onB (p : Plc) (a b : Pt) : Bool := decide (po a b p = 0 ∧ dots a b p ≤ 0)
abbrev s__law_where : Stmt := topS 53
abbrev n__law_where : List Str := ["_law_ring_here", "_law_spot", "_law_ahead", "_law_at", "_law_a", "_law_b", "_law_c", "_law_marks"]
theorem c__law_where : FnScope n__law_where ["_law_ring_here", "_law_spot"] (defScope s__law_where) := ⟨rfl, rfl, rfl, by decide +kernel, rfl, by decide +kernel, by decide +kernel⟩
def p__law_where : Sp := fun vs H Q _ => ∃ (a r : Addr) (us : List Addr) (f : Addr → Pt) (rows l : List Pt) (p0 q last : Pt) (p : Plc), vs = [.ref a, .ref r] ∧ Pts f H a us ∧ us.length < 64 ∧ Ends2 rows p0 q ∧ us.map f = p0 :: l ∧ Brd p0 q rows (p0 :: l) ∧ (p0 :: l).getLast? = some last ∧ PlA H r p ∧ ∀ H' v, Same H H' → Whr p0 q rows p v → Q (.int v) H'
set_option pp.maxSteps 300 in
theorem ok__law_where  (D : Df K mg "_law_where" s__law_where ["_law_ring_here", "_law_spot"]) (C__law_lean : Cl P w K mg base CX0 "_law_lean" 1 ["_law_a", "_law_b", "_law_c"] (p__law_lean)) (C__law_off : Cl P w K mg base CX0 "_law_off" 1 ["_law_a", "_law_b", "_law_spot"] (p__law_off)) (C__law_between : Cl P w K mg base CX0 "_law_between" 2 ["_law_a", "_law_b", "_law_spot"] (p__law_between)) (mlen : mg "len" = none) (mmin : mg "min" = none) (mrange : mg "range" = none) (mzip : mg "zip" = none) : Cl P w K mg base CX0 "_law_where" 3 ["_law_ring_here", "_law_spot"] (p__law_where) := by
  refine D.cl fun f fd F => F.ok c__law_where (fun vs H Q E h => ?_) (fun cdv A outer s H vs Q E hr h => ?_)
  · obtain ⟨a, r, us, g, rows, l, p0, q0, last, p, rfl, hl, few, he, eo, hb, hlast, hp, q⟩ := h
    rfl
  · obtain ⟨a, r, us, g, rows, l, p0, q0, last, p, rfl, hl, few, he, eo, hb, hlast, hp, q⟩ := h
    have nd := c__law_where.nd
    have hu : _ := hu_of hr
    refine ⟨_, (pss_cons (ps_set (i := 2) nd rfl (.inl rfl) (pe_op op_catG (pe_slice sl_listG (pv 0) (po_some pe_neg) po_none) (pe_slice sl_listG (pv 0) po_none (po_some pe_neg)))) (pss_cons (ps_if (pt_cmpR (op_neD hr.units) (pe_lc (own := [("_law_a", 4), ("_law_b", 5)]) (g := (gTup K 2 (gCons (gName 4) (gCons (gName 5) gNil))))  rfl nd (pi_zip (by rfl) mzip (pa_cons (pv 2) (pa_cons (pv 0) pa_nil))) (blkOk_by (own := [("_law_a", 4), ("_law_b", 5)]) (N := n__law_where) (sc := defScope s__law_where) (by decide +kernel)) (fun _ _ _ _ _ => by exact (pg_tup (by rfl) (pgs_cons (pg_name (i := 4) nd rfl (.inl rfl)) (pgs_cons (pg_name (i := 5) nd rfl (.inl rfl)) pgs_nil)))) (fun _ _ _ _ _ => by exact (pts_one (pt_val (pe_cl C__law_between (hr.mono (by decide)) (by rfl) pass0 (pa_cons (pv 4) (pa_cons (pv 5) (pa_cons (pv 1) pa_nil))))))) (fun _ _ _ _ _ => by exact pe_int)) (pe_lstG pa_nil) (nomark _)) (pss_one (ps_ret pe_int)) pss_nil) (pss_cons (ps_for PassesOwn.never rfl (pi_range2 (by rfl) mrange (pa_cons pe_int (pa_cons (pe_op op_sub (pe_callB call_len_seq (by rfl) mlen (by decide +kernel) (pa_cons (pv 0) pa_nil)) pe_int) pa_nil))) (pg_name (i := 3) nd rfl (.inl rfl)) (pss_cons (ps_par3 (i := 4) (j := 5) (l := 6) (by rfl) nd rfl rfl rfl (by decide) (by decide) (by decide) rfl rfl rfl (pa_cons (pe_ix ix_list (pv 0) pe_int (fun _ _ => rfl)) (pa_cons (pe_ix ix_list (pv 0) (pv 3) (fun _ _ => rfl)) (pa_cons (pe_ix ix_list (pv 0) (pe_op op_add (pv 3) pe_int) (fun _ _ => rfl)) pa_nil))) (by rfl)) (pss_cons (ps_set (i := 7) nd rfl (.inl rfl) (pe_lstG (pa_cons (pe_cl C__law_off (hr.mono (by decide)) (by rfl) pass0 (pa_cons (pv 4) (pa_cons (pv 5) (pa_cons (pv 1) pa_nil)))) (pa_cons (pe_cl C__law_off (hr.mono (by decide)) (by rfl) pass0 (pa_cons (pv 5) (pa_cons (pv 6) (pa_cons (pv 1) pa_nil)))) (pa_cons (pe_cl C__law_off (hr.mono (by decide)) (by rfl) pass0 (pa_cons (pv 6) (pa_cons (pv 4) (pa_cons (pv 1) pa_nil)))) pa_nil))))) (pss_one (ps_if (PW.pt (pw_and (pt_cmpR op_ge (pe_callB (id := "min") (r := rMin K) (by exact (cr_min rfl)) (by rfl) mmin (by decide +kernel) (pa_cons (pv 7) pa_nil)) pe_int (nomark _)) (pw_and1 (pt_cmpR op_gt (pe_cl C__law_lean (hr.mono (by decide)) (by rfl) pass0 (pa_cons (pv 4) (pa_cons (pv 5) (pa_cons (pv 6) pa_nil)))) pe_int (nomark _))))) (pss_one (ps_ret pe_int)) pss_nil))))) (pss_one (ps_ret pe_neg))))), ?_⟩
    have lus : (us.map V.ref).length = us.length := List.length_map _
    have hpos := hl.pos
    have hd : 0 < p.d := Int.lt_of_lt_of_le (by decide) hp.ok.d1
    obtain ⟨hit1, hit2, hit3⟩ := law_where hd he hb hlast
    rw [← eo] at hit1 hit2 hit3
    obtain ⟨t0, e0, g0, m0⟩ := head_ts (f := g) (ts := us) (p0 := p0) (by rw [eo]; rfl)
    obtain ⟨tz, ez, gz, mz⟩ := last_ts (f := g) (ts := us) (p0 := last) (by rw [eo]; exact hlast)
    have ez1 := hl.at_
    repeat array_get_dec
    obtain ⟨ini, rfl⟩ := List.getLast?_eq_some_iff.mp ez
    have emap : (ini ++ [tz]).map V.ref = ini.map V.ref ++ [V.ref tz] := by rw [List.map_append]; rfl
    refine ⟨a, _, rfl, SqL.of hl.at_, fun q1 H1 s1 n1 e1 => ?_⟩
    rw [emap, cut_last] at e1
    repeat array_get_dec
    have hl1 := hl.same s1
    refine ⟨a, _, rfl, SqL.of hl1.at_, fun q2 H2 s2 n2 e2 => ?_⟩
    rw [emap, cut_but] at e2
    have hl2 := hl1.same s2
    have lini : ini.length < 64 := by rw [List.length_append] at few; omega
    refine ⟨q1, q2, _, _, rfl, rfl, s2 _ _ e1, e2, by rw [List.length_map]; exact Nat.le_trans (m := 64) (by simp; omega) (by decide), fun pa H3 s3 n3 e3 => ?_⟩
    have e3 : H3 pa = some (.lst ((tz :: ini).map V.ref)) := e3
    have S3 := s1.trans (s2.trans s3)
    have hl3 := hl.same S3
    have hp3 := hp.same S3
    have e3a := hl3.at_
    have hn : (ini ++ [tz]).length = min ((tz :: ini).map V.ref).length ((ini ++ [tz]).map V.ref).length := by simp
    have mas : ∀ t ∈ tz :: ini, t ∈ ini ++ [tz] := fun t m => by
      rcases List.mem_cons.mp m with rfl | m
      · simp
      · simp [m]
    repeat array_get_dec
    refine ⟨pa, a, _, _, rfl, SqL.of e3, SqL.of e3a, fun D nD => ?_⟩
    refine lc_fil (walk_zip hn) nD (by omega) (fun H4 s4 => ⟨SqL.of (s4 _ _ e3), SqL.of (s4 _ _ e3a)⟩) (fun i => onB p (g ((tz :: ini).getD i a)) (g ((ini ++ [tz]).getD i a))) (fun i => .int 1) (fun i x H4 H5 Kp Kn hi s4 eD yi fin finN => ?_) fun H4 s4 eD => ?_
    · obtain ⟨T, x1, x2, rfl, nT, rfl, h1, h2⟩ := yi
      obtain ⟨ta, tb, ea, eb, rfl, rfl, ma, mb⟩ := nb_at h1 h2
      have sT := s4.trans (Same.upd nT (o := .tup [V.ref ta, V.ref tb]))
      have hl5 := hl3.same sT
      have hp5 := hp3.same sT
      have z2 := hl5.sit ta (mas ta ma)
      have z3 := hl5.sit tb mb
      rw [getD_at ea, getD_at eb] at fin finN
      refine ⟨T, _, rfl, SqT.of upd_same, rfl, ?_⟩
      repeat array_get_dec
      refine ⟨ta, tb, r, g ta, g tb, p, rfl, z2.1, z3.1, z2.2, z3.2, hp5, fun H6 v s6 hv => ?_⟩
      repeat array_get_dec
      cases v
      · exact finN _ (decide_eq_false fun z => Bool.noConfusion (hv.mpr z)) ((Same.upd nT).trans s6)
      · exact fin _ (decide_eq_true (hv.mp rfl)) ((Same.upd nT).trans s6)
    · repeat array_get_dec
      refine fun pe H5 s5 n5 e5 => ?_
      have eDi : H5 D = some (.lst ((((List.range (ini ++ [tz]).length).filter fun i => onB p (g ((tz :: ini).getD i a)) (g ((ini ++ [tz]).getD i a))).map fun _ => (1 : Int)).map V.int)) := by
        rw [List.map_map]
        exact s5 _ _ eD
      have hit : Hit p last ((ini ++ [tz]).map g) ↔ (((List.range (ini ++ [tz]).length).filter fun i => onB p (g ((tz :: ini).getD i a)) (g ((ini ++ [tz]).getD i a))).map fun _ => (1 : Int)) ≠ [] := by
        have ead : last :: ((ini ++ [tz]).map g).dropLast = (tz :: ini).map g := by
          rw [List.map_append, List.map_cons, List.map_nil, List.dropLast_concat, List.map_cons, gz]
        unfold Hit
        rw [ead, Ne, List.map_eq_nil_iff, List.filter_eq_nil_iff]
        constructor
        · rintro ⟨A, B, hm, z, d⟩ all
          obtain ⟨i, ei⟩ := List.mem_iff_getElem?.mp hm
          obtain ⟨ea1, eb1⟩ := List.getElem?_zip_eq_some.mp ei
          rw [List.getElem?_map] at ea1 eb1
          obtain ⟨ta, ea, ga⟩ := Option.map_eq_some_iff.mp ea1
          obtain ⟨tb, eb, gb⟩ := Option.map_eq_some_iff.mp eb1
          have ga : g ta = A := ga
          have gb : g tb = B := gb
          subst ga gb
          have hi := (List.getElem?_eq_some_iff.mp eb).1
          refine all i (List.mem_range.mpr hi) ?_
          rw [getD_at ea, getD_at eb]
          exact decide_eq_true ⟨z, d⟩
        · intro nall
          obtain ⟨i, hi, hb'⟩ : ∃ i, i ∈ List.range (ini ++ [tz]).length ∧ onB p (g ((tz :: ini).getD i a)) (g ((ini ++ [tz]).getD i a)) = true := Classical.byContradiction fun no => nall fun i hi hb' => no ⟨i, hi, hb'⟩
          have hi := List.mem_range.mp hi
          have ha : i < (tz :: ini).length := by rw [List.length_append] at hi; simpa using hi
          have ea := List.getElem?_eq_getElem ha
          have eb := List.getElem?_eq_getElem hi
          rw [getD_at ea, getD_at eb] at hb'
          have hz := of_decide_eq_true hb'
          refine ⟨_, _, List.mem_iff_getElem?.mpr ⟨i, List.getElem?_zip_eq_some.mpr ⟨?_, ?_⟩⟩, hz.1, hz.2⟩
          · rw [List.getElem?_map, ea]
            rfl
          · rw [List.getElem?_map, eb]
            rfl
      refine ⟨_, _, dpl_ints eDi, dpl_ints (ns := []) e5, shapedl_ints _, shapedl_ints _, ?_⟩
      rw [eqvl_ints]
      have S5 := S3.trans (s4.trans s5)
      refine ⟨_, rfl, ?_⟩
      refine w_ifnd (fun c => ?_) fun c => ?_
      · have nh : ¬ Hit p last ((ini ++ [tz]).map g) := fun z => (hit.mp z) c
        have lus : ((ini ++ [tz]).map V.ref).length = (ini ++ [tz]).length := List.length_map _
        have hl5 := hl.same S5
        have hp5 := hp.same S5
        repeat array_get_dec
        rw [lus]
        refine ⟨⟨by decide, by decide, by omega, by omega⟩, ?_⟩
        refine for_range (lo := 1) (n := (((ini ++ [tz]).length : Int) - 1 - 1).toNat) (fun i σ' H' => (∃ y3 y4 y5 y6 y7, σ' = [some (.ref a), some (.ref r), some (.ref pa), y3, y4, y5, y6, y7]) ∧ Same H5 H' ∧ ∀ j < i, ∀ b c, (p0 :: l)[j + 1]? = some b → (p0 :: l)[j + 2]? = some c → ¬ Tri p p0 b c) ⟨⟨_, _, _, _, _, rfl⟩, Same.refl _, fun j h => absurd h (by omega)⟩ (fun i σ' H' hi z => ?_) fun σ' H' z => ?_
        · obtain ⟨⟨y3, y4, y5, y6, y7, rfl⟩, sH, inv⟩ := z
          have hlH := hl5.same sH
          have hpH := hp5.same sH
          have eH := hlH.at_
          have i1 : i + 1 < (ini ++ [tz]).length := by omega
          have i2 : i + 2 < (ini ++ [tz]).length := by omega
          have eb := List.getElem?_eq_getElem i1
          have ec := List.getElem?_eq_getElem i2
          have mb := List.getElem_mem i1
          have mc := List.getElem_mem i2
          generalize (ini ++ [tz])[i + 1] = tb at eb mb
          generalize (ini ++ [tz])[i + 2] = tc at ec mc
          have ib : (1 : Int) + (i : Nat) = ((i + 1 : Nat) : Int) := by omega
          have ic : ((i + 1 : Nat) : Int) + 1 = ((i + 2 : Nat) : Int) := by omega
          rw [ib]
          repeat array_get_dec
          refine ⟨a, _, 0, _, rfl, rfl, SqL.of eH, headI e0, ?_⟩
          repeat array_get_dec
          refine ⟨a, _, ((i + 1 : Nat) : Int), _, rfl, rfl, SqL.of eH, atI_nat (by rw [List.getElem?_map, eb]; rfl), ?_⟩
          repeat array_get_dec
          refine ⟨a, _, ((i + 2 : Nat) : Int), _, rfl, by rw [← ic], SqL.of eH, atI_nat (by rw [List.getElem?_map, ec]; rfl), ?_⟩
          repeat array_get_dec
          have z0 := hlH.sit t0 m0
          have zb := hlH.sit tb mb
          have zc := hlH.sit tc mc
          refine ⟨t0, tb, r, g t0, g tb, p, rfl, z0.1, zb.1, z0.2, zb.2, hpH, fun H7 s7 => ?_⟩
          have hl7 := hlH.same s7
          have hp7 := hpH.same s7
          have z0 := hl7.sit t0 m0
          have zb := hl7.sit tb mb
          have zc := hl7.sit tc mc
          repeat array_get_dec
          refine ⟨tb, tc, r, g tb, g tc, p, rfl, zb.1, zc.1, zb.2, zc.2, hp7, fun H8 s8 => ?_⟩
          have hl8 := hl7.same s8
          have hp8 := hp7.same s8
          have z0 := hl8.sit t0 m0
          have zc := hl8.sit tc mc
          repeat array_get_dec
          refine ⟨tc, t0, r, g tc, g t0, p, rfl, zc.1, z0.1, zc.2, z0.2, hp8, fun H9 s9 => ?_⟩
          have hl9 := hl8.same s9
          repeat array_get_dec
          refine fun pm H10 s10 n10 e10 => ?_
          have hl10 := hl9.same s10
          have e10 : H10 pm = some (.lst ([po (g t0) (g tb) p, po (g tb) (g tc) p, po (g tc) (g t0) p].map V.int)) := e10
          have S10 := sH.trans (s7.trans (s8.trans (s9.trans s10)))
          have eb2 : (p0 :: l)[i + 1]? = some (g tb) := by rw [← eo, List.getElem?_map, eb]; rfl
          have ec2 : (p0 :: l)[i + 2]? = some (g tc) := by rw [← eo, List.getElem?_map, ec]; rfl
          have next : ¬ Tri p p0 (g tb) (g tc) → ∀ j < i + 1, ∀ b c, (p0 :: l)[j + 1]? = some b → (p0 :: l)[j + 2]? = some c → ¬ Tri p p0 b c := fun h j hj b c e1 e2 => by
            by_cases cj : j < i
            · exact inv j cj b c e1 e2
            · have : j = i := by omega
              subst this
              rw [eb2] at e1
              rw [ec2] at e2
              cases e1
              cases e2
              exact h
          repeat array_get_dec
          refine ⟨pm, _, rfl, SqL.of e10, by simp, fun m hm hle => ?_⟩
          have l1 := hle (po (g t0) (g tb) p) (by simp)
          have l2 := hle (po (g tb) (g tc) p) (by simp)
          have l3 := hle (po (g tc) (g t0) p) (by simp)
          rw [g0] at l1 l3 hm
          repeat array_get_dec
          refine w_ifd (fun d => ?_) fun d => ?_
          · have z0 := hl10.sit t0 m0
            have zb := hl10.sit tb mb
            have zc := hl10.sit tc mc
            repeat array_get_dec
            refine ⟨t0, tb, tc, g t0, g tb, g tc, rfl, z0.1, zb.1, zc.1, z0.2, zb.2, zc.2, ?_⟩
            rw [g0]
            repeat array_get_dec
            refine w_ifd (fun d2 => ?_) fun d2 => ?_
            · repeat array_get_dec
              exact q _ _ (S5.trans S10) (hit2 nh (fan_at.mpr ⟨i, g tb, g tc, eb2, ec2, by omega, by omega, by omega, d2⟩))
            · exact ⟨⟨_, _, _, _, _, rfl⟩, S10, next fun h => d2 h.2.2.2⟩
          · refine ⟨⟨_, _, _, _, _, rfl⟩, S10, next fun h => ?_⟩
            obtain ⟨h1, h2, h3, _⟩ := h
            simp only [List.mem_cons, List.not_mem_nil, or_false] at hm
            rcases hm with rfl | rfl | rfl <;> omega
        · obtain ⟨⟨y3, y4, y5, y6, y7, rfl⟩, sH, inv⟩ := z
          repeat array_get_dec
          refine q _ _ (S5.trans sH) (hit3 nh fun hf => ?_)
          obtain ⟨j, b, c', eb, ec, ht⟩ := fan_at.mp hf
          have hj := (List.getElem?_eq_some_iff.mp ec).1
          have ll : (p0 :: l).length = (ini ++ [tz]).length := by rw [← eo, List.length_map]
          exact inv j (by omega) b c' eb ec ht
      · repeat array_get_dec
        exact q _ _ S5 (hit1 (hit.mpr c))
end
/-! ### the law's extreme -/
section
variable {P : Program} {w : World} {K : PySem.W.Frag} {mg : Str → Option Value} {base : Heap}
abbrev s__law_extreme : Stmt := topS 54
abbrev n__law_extreme : List Str := ["_law_sites_so", "_law_u", "_law_v", "_law_far_so", "_law_x", "_law_y"]
theorem c__law_extreme : FnScope n__law_extreme ["_law_sites_so", "_law_u", "_law_v"] (defScope s__law_extreme) := ⟨rfl, rfl, rfl, by decide +kernel, rfl, by decide +kernel, by decide +kernel⟩
def p__law_extreme : Sp := fun vs H Q _ => ∃ (p : Addr) (ts rs : List Addr) (f : Addr → Int × Int) (p0 q : Pt) (u v : Int), vs = [.ref p, .int u, .int v] ∧ Lot f H p ts ∧ rs.Perm ts ∧ Ends2 (rs.map f) p0 q ∧ u.natAbs ≤ 3 ∧ v.natAbs ≤ 3 ∧
  ∀ (H' : Hp) (b : Addr) (ks : List Addr), Same H H' → H' b = some (.lst (ks.map V.ref)) → (∀ k ∈ ks, Sit H' k (hv H' k).1 (hv H' k).2) → ks.map (hv H') = (rs.map f).filter (farB u v (rs.map f)) → Q (.ref b) H'
theorem farB_perm {u v : Int} {l m : List Pt} (h : l.Perm m) (r : Pt) : farB u v l r = farB u v m r := by
  unfold farB
  rw [Bool.eq_iff_iff, List.all_eq_true, List.all_eq_true]
  exact ⟨fun k x hx => k x (h.mem_iff.mpr hx), fun k x hx => k x (h.mem_iff.mp hx)⟩
set_option pp.maxSteps 300 in
theorem ok__law_extreme  (D : Df K mg "_law_extreme" s__law_extreme ["_law_sites_so", "_law_u", "_law_v"]) (mmax : mg "max" = none) (msorted : mg "sorted" = none) : Cl P w K mg base CX0 "_law_extreme" 1 ["_law_sites_so", "_law_u", "_law_v"] (p__law_extreme) := by
  refine D.cl fun f fd F => F.ok c__law_extreme (fun vs H Q E h => ?_) (fun cdv A outer s H vs Q E hr h => ?_)
  · obtain ⟨p, us, rs, g, p0, q0, u, v, rfl, hl2, pm, he, hu3, hv3, q⟩ := h
    rfl
  · obtain ⟨p, us, rs, g, p0, q0, u, v, rfl, hl2, pm, he, hu3, hv3, q⟩ := h
    have nd := c__law_extreme.nd
    have hu : _ := hu_of hr
    refine ⟨_, (pss_cons (ps_set (i := 3) nd rfl (.inr rfl) (pe_callB (id := "max") (r := rMax K) (by exact (cr_max rfl)) (by rfl) mmax (by decide +kernel) (pa_cons (pe_lc (own := [("_law_x", 4), ("_law_y", 5)]) (g := (gTup K 2 (gCons (gName 4) (gCons (gName 5) gNil)))) (tt := tYes)  rfl nd (pi_list (pv 0)) (blkOk_by (own := [("_law_x", 4), ("_law_y", 5)]) (N := n__law_extreme) (sc := defScope s__law_extreme) (by decide +kernel)) (fun _ _ _ _ _ => by exact (pg_tup (by rfl) (pgs_cons (pg_name (i := 4) nd rfl (.inl rfl)) (pgs_cons (pg_name (i := 5) nd rfl (.inl rfl)) pgs_nil)))) (fun _ _ _ _ _ => by exact pts_nil) (fun _ _ _ _ _ => by exact (pe_op op_add (pe_op op_mulW (pv 1) (pv 4)) (pe_op op_mulW (pv 2) (pv 5))))) pa_nil))) (pss_one (ps_ret (pe_callB cr_sortS (by rfl) msorted (by decide +kernel) (pa_cons (pe_lc (own := [("_law_x", 4), ("_law_y", 5)]) (g := (gTup K 2 (gCons (gName 4) (gCons (gName 5) gNil))))  rfl nd (pi_list (pv 0)) (blkOk_by (own := [("_law_x", 4), ("_law_y", 5)]) (N := n__law_extreme) (sc := defScope s__law_extreme) (by decide +kernel)) (fun _ _ _ _ _ => by exact (pg_tup (by rfl) (pgs_cons (pg_name (i := 4) nd rfl (.inl rfl)) (pgs_cons (pg_name (i := 5) nd rfl (.inl rfl)) pgs_nil)))) (fun _ _ _ _ _ => by exact (pts_one (pt_cmpR op_eq (pe_op op_add (pe_op op_mulW (pv 1) (pv 4)) (pe_op op_mulW (pv 2) (pv 5))) (pv 3) (nomark _)))) (fun _ _ _ _ _ => by exact (pe_tupG (pa_cons (pv 4) (pa_cons (pv 5) pa_nil))))) pa_nil))))), ?_⟩
    have lus : (us.map V.ref).length = us.length := List.length_map _
    have lpt : (us.map g).length = us.length := List.length_map _
    have hfew := hl2.few
    have hu2 : u.natAbs < 2 ^ 21 := by omega
    have hv2 : v.natAbs < 2 ^ 21 := by omega
    repeat array_get_dec
    refine ⟨⟨_, SqL.of hl2.at_⟩, fun D nD => ?_⟩
    refine lc_val (walk_list (xs := us.map V.ref)) nD (by omega) (fun H3 s3 => SqL.of (s3 _ _ hl2.at_)) ((us.map fun k => u * (g k).1 + v * (g k).2).map V.int) (by simp) (fun i x y H3 H4 Kp hy s3 eD yi fin => ?_) fun H3 s3 eD => ?_
    · obtain ⟨rfl, hx⟩ := yi
      obtain ⟨k, ek, rfl, mk⟩ := ref_at hx
      have zk := (hl2.same s3).sit k mk
      obtain ⟨b1, b2, b3, b4⟩ := zk.2
      refine ⟨k, _, rfl, SqT.of zk.1, rfl, ?_⟩
      repeat array_get_dec
      have ey : y = .int (u * (g k).1 + v * (g k).2) := by
        rw [List.getElem?_map, List.getElem?_map, ek] at hy
        exact (Option.some.inj hy).symm
      show Kp (.int (u * (g k).1 + v * (g k).2)) H4
      rw [← ey]
      exact fin _ (Same.refl _)
    · repeat array_get_dec
      refine ⟨D, us.map fun k => u * (g k).1 + v * (g k).2, rfl, SqL.of eD, by rw [List.length_map]; exact hl2.pos, fun m hm hle => ?_⟩
      repeat array_get_dec
      have hl3 := hl2.same s3
      refine ⟨⟨_, SqL.of hl3.at_⟩, fun D2 nD2 => ?_⟩
      refine lc_new (walk_list (xs := us.map V.ref)) nD2 (by omega) (fun H4 s4 => SqL.of (s4 _ _ hl3.at_)) (fun i => decide (V.int (u * ((us.map g).getD i (0, 0)).1 + v * ((us.map g).getD i (0, 0)).2) = V.int m)) (fun i => .tup [.int ((us.map g).getD i (0, 0)).1, .int ((us.map g).getD i (0, 0)).2]) (fun i x H4 H5 Kp Kn hi s4 eD2 yi fin finN => ?_) fun H4 ks s4 eD2 nw => ?_
      · obtain ⟨rfl, hx⟩ := yi
        obtain ⟨k, ek, rfl, mk⟩ := ref_at hx
        have zk := (hl3.same s4).sit k mk
        obtain ⟨b1, b2, b3, b4⟩ := zk.2
        have eg : (us.map g).getD i (0, 0) = g k := getD_at (by rw [List.getElem?_map, ek]; rfl)
        rw [eg] at fin finN
        refine ⟨k, _, rfl, SqT.of zk.1, rfl, ?_⟩
        repeat array_get_dec
        refine w_ifd (fun c => ?_) fun c => ?_
        · repeat array_get_dec
          exact fun t2 H6 s6 n6 e6 => fin t2 H6 (decide_eq_true c) s6 n6 e6
        · exact finN _ (decide_eq_false c) (Same.refl _)
      · rw [lus, ← lpt] at nw
        have vals : ∀ k ∈ ks, Sit H4 k (hv H4 k).1 (hv H4 k).2 := fun k mk => (nw.at_ k mk).2.1
        have em : ks.map (hv H4) = (us.map g).filter (farB u v (us.map g)) := by
          rw [nw.map, range_filter (us.map g) (0, 0) fun r => decide (V.int (u * r.1 + v * r.2) = V.int m)]
          refine List.filter_congr fun r hr => ?_
          obtain ⟨k, mk, rfl⟩ := List.mem_map.mp hr
          have hle' : ∀ s ∈ us.map g, u * s.1 + v * s.2 ≤ m := fun s hs => by
            obtain ⟨k2, mk2, rfl⟩ := List.mem_map.mp hs
            exact hle _ (List.mem_map.mpr ⟨k2, mk2, rfl⟩)
          obtain ⟨k0, mk0, rfl⟩ := List.mem_map.mp hm
          have hk := hle' _ hr
          have h0 : g k0 ∈ us.map g := List.mem_map_of_mem mk0
          rw [Bool.eq_iff_iff]
          unfold farB
          rw [decide_eq_true_eq, List.all_eq_true]
          constructor
          · intro z s hs
            injection z with z
            rw [decide_eq_true_eq, z]
            exact hle' s hs
          · intro z
            have := of_decide_eq_true (z _ h0)
            exact congrArg V.int (Int.le_antisymm hk this)
        repeat array_get_dec
        refine ⟨D2, ks, hv H4, rfl, SqL.of eD2, vals, fun ls p5 H5 pm5 so5 s5 n5 e5 => ?_⟩
        have lv : ∀ k ∈ ls, hv H5 k = hv H4 k := fun k mk => hv_of (s5 _ _ (vals k (pm5.mem_iff.mp mk)))
        refine q _ _ ls ((s3.trans s4).trans s5) e5 (fun k mk => ?_) ?_
        · rw [lv k mk]
          exact s5 _ _ (vals k (pm5.mem_iff.mp mk))
        · rw [List.map_congr_left lv]
          have pmv : (ls.map (hv H4)).Perm ((rs.map g).filter (farB u v (rs.map g))) := by
            refine (pm5.map (hv H4)).trans ?_
            rw [em]
            have e2 : (us.map g).filter (farB u v (us.map g)) = (us.map g).filter (farB u v (rs.map g)) := List.filter_congr fun r _ => farB_perm (pm.symm.map g) r
            rw [e2]
            exact ((pm.symm.map g).filter _)
          have nodv : (ls.map (hv H4)).Nodup := pmv.nodup_iff.mpr (List.Nodup.sublist List.filter_sublist (((pm.map g).nodup_iff).mpr hl2.nod))
          exact srt_uniq2 pmv (srt_lt2 so5 nodv) (he.so.sublist List.filter_sublist)
end
/-! ### a right answer -/
section
variable {P : Program} {w : World} {K : PySem.W.Frag} {mg : Str → Option Value} {base : Heap}
theorem Pts.stp {f : Addr → Int × Int} {H H' : Hp} {p s : Addr} {ts : List Addr} {N : Nat} (h : Pts f H p ts) (hs : SrcB N H s) (st : Stp s H H') : Pts f H' p ts := by
  refine ⟨st.keep _ _ (refs_ne h.at_ hs) h.at_, h.pos, h.few, fun t m => ⟨st.keep _ _ ?_ (h.sit t m).1, (h.sit t m).2⟩⟩
  have e := (h.sit t m).1
  obtain ⟨_, _, _, e2, _⟩ := hs
  rintro rfl
  unfold Sit at e
  rw [e] at e2
  cases e2
theorem farB_mul {k u v : Int} {l : List Pt} (h : 0 < k) (r : Pt) : farB (k * u) (k * v) l r = farB u v l r := by
  unfold farB
  congr 1
  funext s
  rw [decide_eq_decide, Int.mul_assoc, Int.mul_assoc, Int.mul_assoc, Int.mul_assoc, ← Int.mul_add, ← Int.mul_add]
  exact Int.mul_le_mul_left h
theorem has_sorted (f : Addr → Pt) {ks : List Addr} (n : (ks.map f).Nodup) : ∃ rs : List Addr, rs.Perm ks ∧ (rs.map f).Pairwise lt2 := by
  have pm := List.mergeSort_perm ks fun a b => decide (lexLe (f a) (f b))
  have so := List.pairwise_mergeSort (le := fun a b => decide (lexLe (f a) (f b))) (fun a b c h1 h2 => by
    rw [decide_eq_true_eq] at *
    exact h1.trans h2) (fun a b => by
    rw [Bool.or_eq_true, decide_eq_true_eq, decide_eq_true_eq]
    exact lexLe.total _ _) ks
  exact ⟨_, pm, srt_lt2 (so.imp fun h => of_decide_eq_true h) ((pm.map f).nodup_iff.mpr n)⟩
theorem sum_next : ∀ (l : List Pt) (a : Pt), (List.zipWith (tn (0, 0)) (a :: l) l).sum = shoe (a :: l)
  | [], a => rfl
  | b :: l, a => by
    rw [List.zipWith_cons_cons, List.sum_cons, sum_next l b]
    show tn (0, 0) a b + shoe (b :: l) = crs a b + shoe (b :: l)
    congr 1
    unfold tn crs
    simp
theorem zipWith_drop_last {f : Pt → Pt → Int} : ∀ {l k : List Pt}, k.length < l.length → List.zipWith f l.dropLast k = List.zipWith f l k
  | [], _, h => by cases h
  | [x], [], _ => rfl
  | [x], _ :: _, h => by simp at h
  | x :: y :: l, [], _ => by simp
  | x :: y :: l, z :: k, h => by
    have := zipWith_drop_last (f := f) (l := y :: l) (k := k) (by simpa using h)
    rw [List.dropLast_cons_of_ne_nil (by simp), List.zipWith_cons_cons, List.zipWith_cons_cons, this]
theorem sum_ring {p0 last : Pt} {l : List Pt} (hl : (p0 :: l).getLast? = some last) : (List.zipWith (tn (0, 0)) (last :: (p0 :: l).dropLast) (p0 :: l)).sum = shoe (p0 :: (l ++ [p0])) := by
  rw [List.zipWith_cons_cons, zipWith_drop_last (by simp), List.sum_cons, sum_next, shoe_snoc l p0 last hl, Int.add_comm]
  congr 1
  unfold tn crs
  simp
theorem brd_form {rows out : List Pt} {p0 q : Pt} (e : Ends2 rows p0 q) (hb : Brd p0 q rows out) : ∃ l last, out = p0 :: l ∧ (p0 :: l).getLast? = some last ∧ out.length ≤ rows.length ∧ (Row out ↔ Row rows) ∧ (Row rows → fan p0 (cornN p0 q rows) = 0) ∧ (¬ Row rows → fan p0 (cornN p0 q rows) = (List.zipWith (tn (0, 0)) (last :: out.dropLast) out).sum) := by
  by_cases row : Row rows
  · have eo := hb.1 row
    subst eo
    cases out with
    | nil => cases e.h0
    | cons a l =>
      cases e.h0
      refine ⟨l, q, rfl, e.hq, Nat.le_refl _, Iff.rfl, fun _ => ?_, fun z => absurd row z⟩
      by_cases n2 : p0 = q
      · subst n2
        rw [one_of e.so e.h0 e.hq, one_cornN]
        rfl
      · rw [row_cornN e.so e.h0 e.hq n2 row]
        show tn p0 p0 q + 0 = 0
        unfold tn
        simp
  · obtain ⟨p1, m1, last, eB, ring, rg, ec⟩ := ring_rng e.so e.h0 e.hq row
    have eo := (hb.2 row).trans eB
    have ec2 : cornN p0 q rows = p0 :: flt p0 (p1 :: (m1 ++ [p0])) := by
      rw [← ec, List.cons_append, List.cons_append, flt_two, if_pos rg.turn]
      rfl
    refine ⟨p1 :: m1, last, eo, rg.hl, ?_, ⟨fun h => absurd (eo ▸ h) rg.notRow, fun h => absurd h row⟩, fun z => absurd z row, fun _ => ?_⟩
    · rw [eo]
      exact ring.few
    · rw [eo, sum_ring rg.hl, ec2, fan_closed]
      have k := shoe_flt rg.nr (m1 ++ [p0]) p0 p0 p1 p0 rg.oc rg.ring.2 (by rw [← List.cons_append, List.getLast?_concat])
      rw [k]
      rfl
abbrev s__law_right : Stmt := topS 55
abbrev n__law_right : List Str := ["_law_purse_here", "_law_sites_so", "_law_ring_here", "_law_saved", "_law_corners_here", "_law_area", "_law_order", "_law_turn_so", "_law_spot", "_law_u", "_law_v", "_law_by", "_law_due", "_law_at"]
theorem c__law_right : FnScope n__law_right ["_law_purse_here"] (defScope s__law_right) := ⟨rfl, rfl, rfl, by decide +kernel, rfl, by decide +kernel, by decide +kernel⟩
/-- what a right answer is: s the source, at most N drawn before, at most 1000 more within -/
def p_right : Sp := fun vs H Q _ => ∃ (s : Addr) (N : Nat), vs = [.ref s] ∧ SrcB N H s ∧ N < 2 ^ 37 ∧ ∀ H', Stp s H H' → SrcB (N + 1000) H' s → Q (.bl true) H'
set_option pp.maxSteps 300 in
theorem ok__law_right  (D : Df K mg "_law_right" s__law_right ["_law_purse_here"]) (C_hull : Cl P w K mg base CX0 "hull" 3 ["sites"] (p_hull)) (C_border : Cl P w K mg base CX0 "border" 3 ["sites"] (p_border)) (C_double_hull : Cl P w K mg base CX0 "double_hull" 3 ["sites"] (p_double_hull)) (C_where : Cl P w K mg base CX0 "where" 5 ["sites", "place"] (p_where)) (C_extreme : Cl P w K mg base CX0 "extreme" 4 ["sites", "direction"] (p_extreme)) (C__law_coin : Cl P w K mg base CX0 "_law_coin" 1 ["_law_purse_here", "_law_many"] (p__law_coin)) (C__law_pick : Cl P w K mg base CX0 "_law_pick" 2 ["_law_purse_here", "_law_some"] (p__law_pick)) (C__law_sites : Cl P w K mg base CX0 "_law_sites" 4 ["_law_purse_here", "_law_least_so", "_law_most_so"] (p__law_sites)) (C__law_lean : Cl P w K mg base CX0 "_law_lean" 1 ["_law_a", "_law_b", "_law_c"] (p__law_lean)) (C__law_flat : Cl P w K mg base CX0 "_law_flat" 2 ["_law_sites_so"] (p__law_flat)) (C__law_border : Cl P w K mg base CX0 "_law_border" 3 ["_law_sites_so"] (p__law_border)) (C__law_some_point : Cl P w K mg base CX0 "_law_some_point" 3 ["_law_purse_here", "_law_sites_so"] (p__law_some_point)) (C__law_corners : Cl P w K mg base CX0 "_law_corners" 3 ["_law_ring_here"] (p__law_corners)) (C__law_where : Cl P w K mg base CX0 "_law_where" 3 ["_law_ring_here", "_law_spot"] (p__law_where)) (C__law_extreme : Cl P w K mg base CX0 "_law_extreme" 1 ["_law_sites_so", "_law_u", "_law_v"] (p__law_extreme)) (K_border : Ck P w K mg base CX0 "border" 3 "sites" (p_border)) (K_hull : Ck P w K mg base CX0 "hull" 3 "sites" (p_hull)) (mlen : mg "len" = none) (mlist : mg "list" = none) (mrange : mg "range" = none) (msorted : mg "sorted" = none) (msum : mg "sum" = none) : Cl P w K mg base CX0 "_law_right" 6 ["_law_purse_here"] (p_right) := by
  refine D.cl fun f fd F => F.ok c__law_right (fun vs H Q E h => ?_) (fun cdv A outer s H vs Q E hr h => ?_)
  · obtain ⟨s, N, rfl, hs, hN, q⟩ := h
    rfl
  · obtain ⟨s, N, rfl, hs, hN, q⟩ := h
    have nd := c__law_right.nd
    have hu : _ := hu_of hr
    refine ⟨_, (pss_cons (ps_set (i := 1) nd rfl (.inl rfl) (pe_cl C__law_sites (hr.mono (by decide)) (by rfl) pass0 (pa_cons (pv 0) (pa_cons pe_int (pa_cons pe_int pa_nil))))) (pss_cons (ps_asg (pe_tupG (pa_cons (pe_cl C__law_border (hr.mono (by decide)) (by rfl) pass0 (pa_cons (pv 1) pa_nil)) (pa_cons (pe_callTy call_list_of (by rfl) mlist (by decide +kernel) (pa_cons (pv 1) pa_nil)) pa_nil))) (pg_tup (by rfl) (pgs_cons (pg_name (i := 2) nd rfl (.inr rfl)) (pgs_cons (pg_name (i := 3) nd rfl (.inl rfl)) pgs_nil)))) (pss_cons (ps_set (i := 4) nd rfl (.inl rfl) (pe_cl C__law_corners (hr.mono (by decide)) (by rfl) pass0 (pa_cons (pv 2) pa_nil))) (pss_cons (ps_set (i := 5) nd rfl (.inl rfl) (pe_callB (id := "sum") (r := rSum K) (by exact (cr_sum rfl)) (by rfl) msum (by decide +kernel) (pa_cons (pe_lc (own := [("_law_at", 13)]) (g := (gName 13)) (tt := tYes)  rfl nd (pi_range1 (by rfl) mrange (pa_cons (pe_callB call_len_seq (by rfl) mlen (by decide +kernel) (pa_cons (pv 2) pa_nil)) pa_nil)) (blkOk_by (own := [("_law_at", 13)]) (N := n__law_right) (sc := defScope s__law_right) (by decide +kernel)) (fun _ _ _ _ _ => by exact (pg_name (i := 13) nd rfl (.inl rfl))) (fun _ _ _ _ _ => by exact pts_nil) (fun _ _ _ _ _ => by exact (pe_cl C__law_lean (hr.mono (by decide)) (by rfl) pass0 (pa_cons (pe_tupG (pa_cons pe_int (pa_cons pe_int pa_nil))) (pa_cons (pe_ix (r := rIxL K) (by exact ix_list) (pv 2) (pe_op op_sub (pv 13) pe_int) (fun _ _ => rfl)) (pa_cons (pe_ix (r := rIxL K) (by exact ix_list) (pv 2) (pv 13) (fun _ _ => rfl)) pa_nil)))))) pa_nil))) (pss_cons (ps_for PassesOwn.never rfl (pi_tup (pe_tupG (pa_cons (pv 1) (pa_cons (pe_revL (pv 1)) (pa_cons (pe_callB cr_sortS (by rfl) msorted (by decide +kernel) (pa_cons (pv 1) pa_nil)) pa_nil))))) (pg_name (i := 6) nd rfl (.inl rfl)) (pss_one (ps_if (PW.pt (pw_or (pt_cmpR (op_neD hr.units) (pe_cl C_hull (hr.mono (by decide)) (by rfl) pass0 (pa_cons (pv 6) pa_nil)) (pv 4) (nomark _)) (pw_or (pt_cmpR (op_neD hr.units) (pe_cl C_border (hr.mono (by decide)) (by rfl) pass0 (pa_cons (pv 6) pa_nil)) (pv 2) (nomark _)) (pw_or1 (pt_cmpR op_ne (pe_cl C_double_hull (hr.mono (by decide)) (by rfl) pass0 (pa_cons (pv 6) pa_nil)) (pe_ifExp (pt_val (pe_cl C__law_flat (hr.mono (by decide)) (by rfl) pass0 (pa_cons (pv 2) pa_nil))) pe_int (pv 5)) (nomark _)))))) (pss_one (ps_ret pe_bl)) pss_nil))) (pss_cons (ps_expr (pe_bm0 PySem.F.plainAttrs_list PySem.F.slot_list_clear PySem.F.type_list_clear mt_clear (pe_ck K_border (hr.mono (by decide)) (by rfl) pass0 (pv 1)))) (pss_cons (ps_expr (pe_bm PySem.F.plainAttrs_list PySem.F.slot_list_append PySem.F.type_list_append mt_append (pe_ck K_hull (hr.mono (by decide)) (by rfl) pass0 (pv 1)) (pa_cons pe_non pa_nil))) (pss_cons (ps_for PassesOwn.never rfl (pi_range1 (by rfl) mrange (pa_cons pe_int pa_nil)) (pg_name (i := 7) nd rfl (.inl rfl)) (pss_cons (ps_set (i := 8) nd rfl (.inl rfl) (pe_cl C__law_some_point (hr.mono (by decide)) (by rfl) pass0 (pa_cons (pv 0) (pa_cons (pv 1) pa_nil)))) (pss_cons (ps_if (pt_cmpR op_ne (pe_cl C_where (hr.mono (by decide)) (by rfl) pass0 (pa_cons (pv 1) (pa_cons (pv 8) pa_nil))) (pe_cl C__law_where (hr.mono (by decide)) (by rfl) pass0 (pa_cons (pv 2) (pa_cons (pv 8) pa_nil))) (nomark _)) (pss_one (ps_ret pe_bl)) pss_nil) (pss_cons (ps_par (i := 9) (j := 10) (by rfl) nd rfl rfl (by decide) rfl rfl (pa_cons (pe_op op_sub (pe_cl C__law_coin (hr.mono (by decide)) (by rfl) pass0 (pa_cons (pv 0) (pa_cons pe_int pa_nil))) pe_int) (pa_cons (pe_op op_sub (pe_cl C__law_coin (hr.mono (by decide)) (by rfl) pass0 (pa_cons (pv 0) (pa_cons pe_int pa_nil))) pe_int) pa_nil)) (by rfl)) (pss_cons (ps_set (i := 11) nd rfl (.inl rfl) (pe_cl C__law_pick (hr.mono (by decide)) (by rfl) pass0 (pa_cons (pv 0) (pa_cons (pe_lstG (pa_cons pe_int (pa_cons pe_int (pa_cons (pe_op op_pow pe_int pe_int) pa_nil)))) pa_nil)))) (pss_cons (ps_set (i := 12) nd rfl (.inl rfl) (pe_cl C__law_extreme (hr.mono (by decide)) (by rfl) pass0 (pa_cons (pv 1) (pa_cons (pv 9) (pa_cons (pv 10) pa_nil))))) (pss_one (ps_if (PW.pt (pw_and (pt_cmpR (op_neD hr.units) (pe_tupG (pa_cons (pv 9) (pa_cons (pv 10) pa_nil))) (pe_tupG (pa_cons pe_int (pa_cons pe_int pa_nil))) (nomark _)) (pw_and1 (pt_cmpR (op_neD hr.units) (pe_cl C_extreme (hr.mono (by decide)) (by rfl) pass0 (pa_cons (pv 1) (pa_cons (pe_tupG (pa_cons (pe_op op_mulW (pv 11) (pv 9)) (pa_cons (pe_op op_mulW (pv 11) (pv 10)) pa_nil))) pa_nil))) (pv 12) (nomark _))))) (pss_one (ps_ret pe_bl)) pss_nil)))))))) (pss_one (ps_ret (pe_and (pe_cmpR (op_eqD hr.units) (pe_cl C_border (hr.mono (by decide)) (by rfl) pass0 (pa_cons (pv 1) pa_nil)) (pv 2) (nomark _)) (pe_and (pe_cmpR (op_eqD hr.units) (pe_cl C_hull (hr.mono (by decide)) (by rfl) pass0 (pa_cons (pv 1) pa_nil)) (pv 4) (nomark _)) (pe_one (pe_cmpR (op_eqD hr.units) (pv 1) (pv 3) (nomark _))))))))))))))), ?_⟩
    repeat array_get_dec
    refine ⟨s, 1, 12, N, rfl, hs, by omega, by decide, by decide, by decide, fun p ks H1 B1 hl len np => ?_⟩
    obtain ⟨rs, pm, so⟩ : ∃ rs : List Addr, rs.Perm ks ∧ (rs.map (hv H1)).Pairwise lt2 := has_sorted (hv H1) hl.nod
    obtain ⟨p0, q0, he⟩ := ends_of (f := hv H1) (by rw [pm.length_eq]; exact hl.pos) so
    generalize hg : hv H1 = g at hl so he
    obtain ⟨out, hb⟩ : ∃ out, Brd p0 q0 (rs.map g) out := by
      by_cases row : Row (rs.map g)
      · exact ⟨_, fun _ => rfl, fun h => absurd row h⟩
      · exact ⟨_, fun h => absurd h row, fun _ => rfl⟩
    obtain ⟨lo, last, eout, hlast, lenO, rowO, fan0, fan1⟩ := brd_form he hb
    have few := hl.few
    rw [List.length_map, pm.length_eq] at lenO
    repeat array_get_dec
    refine ⟨p, ks, rs, g, p0, q0, out, rfl, hl, pm, he, hb, fun us pr H2 s2 n2 e2 eo sub => ?_⟩
    have hl2 := hl.same s2
    have lenU : us.length = out.length := by rw [← eo, List.length_map]
    have posU : 0 < us.length := by rw [lenU, eout]; simp
    have lus : (us.map V.ref).length = us.length := List.length_map _
    repeat array_get_dec
    refine ⟨p, _, rfl, .inl (SqL.of hl2.at_), fun pl npl => ?_⟩
    repeat array_get_dec
    have s3 : Same H2 (upd H2 pl (.lst (ks.map V.ref))) := Same.upd npl
    have e3 : upd H2 pl (.lst (ks.map V.ref)) pl = some (.lst (ks.map V.ref)) := upd_same
    generalize upd H2 pl (.lst (ks.map V.ref)) = H3 at s3 e3
    refine fun T4 H4 s4 n4 e4 => ?_
    refine ⟨T4, _, rfl, SqT.of e4, rfl, ?_⟩
    repeat array_get_dec
    have S4 := s2.trans (s3.trans s4)
    have hl4 := hl.same S4
    have ep4 := (s3.trans s4) _ _ e2
    have hr4 : Pts g H4 pr us := ⟨ep4, posU, by omega, hl4.sit.sub sub⟩
    refine ⟨pr, us, g, rs.map g, p0, q0, rfl, hr4, by omega, he, by rw [eo]; exact hb, fun cs pc H5 s5 n5 e5 ec subc => ?_⟩
    have hr5 := hr4.same s5
    have hl5 := hl4.same s5
    have hc5 : Pts g H5 pc cs := ⟨e5, joinA_pos he ec, by have := corn_few ec; have := pm.length_eq; omega, hl5.sit.sub fun u m => sub u (subc u m)⟩
    have ep5 := hr5.at_
    obtain ⟨t0, et0, g0, m0⟩ := head_ts (f := g) (ts := us) (p0 := p0) (by rw [eo, eout]; rfl)
    obtain ⟨tz, etz, gz, mz⟩ := last_ts (f := g) (ts := us) (p0 := last) (by rw [eo, eout]; exact hlast)
    repeat array_get_dec
    rw [lus]
    refine ⟨by omega, by omega, fun D6 nD6 => ?_⟩
    refine lc_val (walk_range (lo := 0) (n := us.length)) nD6 (by omega) (fun _ _ => trivial) ((List.zipWith (tn (0, 0)) (last :: out.dropLast) out).map V.int) (by rw [List.length_map, List.length_zipWith, List.length_cons, List.length_dropLast]; omega) (fun i x y H6 H7 Kp hy s6 eD yi fin => ?_) fun H6 s6 eD6 => ?_
    · obtain ⟨rfl, rfl⟩ := yi
      have hi : i < us.length := by
        have := (List.getElem?_eq_some_iff.mp hy).1
        rw [List.length_map, List.length_zipWith] at this
        omega
      have ek : us[i]? = some us[i] := List.getElem?_eq_getElem hi
      have mk : us[i] ∈ us := List.getElem_mem hi
      generalize us[i] = k at ek mk
      obtain ⟨tp, etp, atp, mtp⟩ : ∃ tp, (last :: out.dropLast)[i]? = some (g tp) ∧ atI (us.map V.ref) ((0 : Int) + (i : Nat) - 1 : Int) = some (.ref tp) ∧ tp ∈ us := by
        cases i with
        | zero => exact ⟨tz, by rw [gz]; rfl, lastI etz, mz⟩
        | succ i =>
          have c : i < us.length := by omega
          have e : us[i]? = some us[i] := List.getElem?_eq_getElem c
          refine ⟨us[i], ?_, ?_, List.getElem_mem c⟩
          · rw [List.getElem?_cons_succ, List.getElem?_dropLast, if_pos (by rw [← lenU]; omega), ← eo, List.getElem?_map, e]
            rfl
          · rw [show ((0 : Int) + ((i + 1 : Nat) : Int) - 1) = ((i : Nat) : Int) by omega]
            exact atI_nat (by rw [List.getElem?_map, e]; rfl)
      have ey : y = .int (tn (0, 0) (g tp) (g k)) := by
        have eko : out[i]? = some (g k) := by rw [← eo, List.getElem?_map, ek]; rfl
        rw [List.getElem?_map, List.getElem?_zipWith, etp, eko] at hy
        exact (Option.some.inj hy).symm
      have hr6 := hr5.same s6
      repeat array_get_dec
      refine fun tz0 H8 s8 n8 e8 => ?_
      have hr8 := hr6.same s8
      repeat array_get_dec
      refine ⟨pr, _, _, _, rfl, rfl, SqL.of hr8.at_, atp, ?_⟩
      repeat array_get_dec
      refine ⟨pr, _, _, _, rfl, rfl, SqL.of hr8.at_, by rw [Int.zero_add]; exact atI_nat (by rw [List.getElem?_map, ek]; rfl), ?_⟩
      have z1 := hr8.sit tp mtp
      have z2 := hr8.sit k mk
      repeat array_get_dec
      refine ⟨tz0, tp, k, (0, 0), g tp, g k, rfl, e8, z1.1, z2.1, ⟨by decide, by decide, by decide, by decide⟩, z1.2, z2.2, ?_⟩
      rw [← ey]
      exact fin _ s8
    repeat array_get_dec
    refine ⟨D6, _, rfl, SqL.of eD6, ?_⟩
    have hl6 := hl4.same (s5.trans s6)
    have el6 := hl6.at_
    repeat array_get_dec
    refine ⟨p, _, rfl, SqL.of el6, fun pv npv => ?_⟩
    have s7 : Same H6 (upd H6 pv (.lst (ks.map V.ref).reverse)) := Same.upd npv
    have e7 : upd H6 pv (.lst (ks.map V.ref).reverse) pv = some (.lst (ks.reverse.map V.ref)) := by rw [upd_same, List.map_reverse]
    generalize upd H6 pv (.lst (ks.map V.ref).reverse) = H7 at s7 e7
    have hl7 := hl6.same s7
    repeat array_get_dec
    refine ⟨p, ks, g, rfl, SqL.of hl7.at_, fun t m => (hl7.sit t m).1, fun ss pso H8 pmS soS s8 n8 e8 => ?_⟩
    repeat array_get_dec
    refine fun T9 H9 s9 n9 e9 => ?_
    have hl9 := (hl7.same s8).same s9
    have S59 := ((((s5.trans s6).trans s7).trans s8).trans s9)
    have loR : Lot g H9 pv ks.reverse := ⟨s9 _ _ (s8 _ _ e7), by rw [List.length_reverse]; exact hl.pos, by rw [List.length_reverse]; exact few, hl9.sit.sub fun u m => List.mem_reverse.mp m, ((List.reverse_perm ks).map g).nodup_iff.mpr hl.nod⟩
    have loS : Lot g H9 pso ss := ⟨s9 _ _ e8, by rw [pmS.length_eq]; exact hl.pos, by rw [pmS.length_eq]; exact few, hl9.sit.sub fun u m => pmS.mem_iff.mp m, (pmS.map g).nodup_iff.mpr hl.nod⟩
    repeat array_get_dec
    refine ⟨⟨_, SqT.of e9⟩, for_tup (K := K) (a := T9) (xs := [V.ref p, V.ref pv, V.ref pso]) (fun i σ' H' => (∃ y6 y7 y8 y9 y10 y11 y12 y13, σ' = [some (.ref s), some (.ref p), some (.ref pr), some (.ref pl), some (.ref pc), some (.int (List.zipWith (tn (0, 0)) (last :: out.dropLast) out).sum), y6, y7, y8, y9, y10, y11, y12, y13]) ∧ Same H9 H') ⟨⟨_, _, _, _, _, _, _, _, rfl⟩, Same.refl _⟩ (fun i σ' H' _ z => SqT.of (z.2 _ _ e9)) (fun i x σ' H' hx z => ?_) fun σ' H' z => ?_⟩
    · obtain ⟨⟨y6, y7, y8, y9, y10, y11, y12, y13, rfl⟩, sH⟩ := z
      obtain ⟨o, os, rfl, lo9, pmo⟩ : ∃ o os, x = .ref o ∧ Lot g H9 o os ∧ rs.Perm os := by
        match i, hx with
        | 0, hx => cases hx; exact ⟨p, ks, rfl, hl9, pm⟩
        | 1, hx => cases hx; exact ⟨pv, _, rfl, loR, pm.trans (List.reverse_perm ks).symm⟩
        | 2, hx => cases hx; exact ⟨pso, ss, rfl, loS, pm.trans pmS.symm⟩
      have loH := lo9.same sH
      repeat array_get_dec
      refine ⟨o, os, rs, g, p0, q0, rfl, loH, pmo, he, fun vs1 b1 H10 s10 n10 e10 eo10 sub10 => ?_⟩
      have S5H : Same H5 H' := ((((s6.trans s7).trans s8).trans s9).trans sH)
      have S5x := S5H.trans s10
      have hc10 := hc5.same S5x
      have hr10 := hr5.same S5x
      have lo10 := loH.same s10
      have sito : ∀ {H''} (vs : List Addr), Lot g H'' o os → (∀ u ∈ vs, u ∈ os) → ∀ t ∈ vs, Sit H'' t (g t).1 (g t).2 := fun vs h sb t m => (h.sit t (sb t m)).1
      repeat array_get_dec
      refine w_neSs (f := g) (g := g) e10 (sito vs1 lo10 sub10) hc10.at_ (fun t m => (hc10.sit t m).1) ?_
      rw [eo10, ec]
      refine ⟨_, rfl, ?_⟩
      refine w_ntt rfl ?_
      repeat array_get_dec
      refine ⟨out, o, os, rs, g, p0, q0, rfl, lo10, pmo, he, hb, fun vs2 b2 H11 s11 n11 e11 eo11 sub11 => ?_⟩
      have hr11 := hr10.same s11
      have lo11 := lo10.same s11
      repeat array_get_dec
      refine w_neSs (f := g) (g := g) e11 (sito vs2 lo11 sub11) hr11.at_ (fun t m => (hr11.sit t m).1) ?_
      rw [eo11, eo]
      refine ⟨_, rfl, ?_⟩
      refine w_ntt rfl ?_
      repeat array_get_dec
      refine ⟨o, os, rs, g, p0, q0, rfl, lo11, pmo, he, fun H12 s12 => ?_⟩
      have hr12 := hr11.same s12
      repeat array_get_dec
      refine ⟨pr, us, g, rfl, hr12, fun H13 bf s13 hbf => ?_⟩
      rw [eo, rowO] at hbf
      have done : Same H9 H13 := sH.trans (s10.trans (s11.trans (s12.trans s13)))
      cases bf
      · have nr : ¬ Row (rs.map g) := fun z => Bool.noConfusion (hbf.mpr z)
        rw [fan1 nr]
        repeat array_get_dec
        exact ⟨⟨_, _, _, _, _, _, _, _, rfl⟩, done⟩
      · rw [fan0 (hbf.mp rfl)]
        repeat array_get_dec
        exact ⟨⟨_, _, _, _, _, _, _, _, rfl⟩, done⟩
    · obtain ⟨⟨y6, y7, y8, y9, y10, y11, y12, y13, rfl⟩, sH⟩ := z
      repeat array_get_dec
      have hlH := hl9.same sH
      refine ⟨out, p, ks, rs, g, p0, q0, rfl, hlH, pm, he, hb, fun va ba H10 s10 n10 e10 _ _ => ?_⟩
      refine ⟨.inl ⟨rfl, _, SqL.of e10⟩, ba, _, rfl, rfl, e10, ?_⟩
      have s11 : Same H' (upd H10 ba (.lst [])) := fun c o ec => by
        rw [upd_ne (ne_of_none ec n10)]
        exact s10 c o ec
      generalize upd H10 ba (.lst []) = H11 at s11
      have hl11 := hlH.same s11
      repeat array_get_dec
      refine ⟨p, ks, rs, g, p0, q0, rfl, hl11, pm, he, fun vb bb H12 s12 n12 e12 eo12 _ => ?_⟩
      have fb := corn_few eo12
      rw [pm.length_eq] at fb
      refine ⟨.inl ⟨rfl, _, SqL.of e12⟩, ?_⟩
      repeat array_get_dec
      refine ⟨bb, _, .non, rfl, rfl, e12, by rw [List.length_map]; exact Nat.lt_of_lt_of_le (show vb.length < 200 by omega) (by decide), ?_⟩
      have s13 : Same H11 (upd H12 bb (.lst (vb.map V.ref ++ [V.non]))) := fun c o ec => by
        rw [upd_ne (ne_of_none ec n12)]
        exact s12 c o ec
      generalize upd H12 bb (.lst (vb.map V.ref ++ [V.non])) = H13 at s13
      have S513 := ((S59.trans sH).trans s11).trans s13
      have hl13 := hl11.same s13
      have hr13 := hr5.same (((((s6.trans s7).trans s8).trans s9).trans sH).trans (s11.trans s13))
      have hc13 := hc5.same (((((s6.trans s7).trans s8).trans s9).trans sH).trans (s11.trans s13))
      have B13 : SB s (N + 300) H H13 := B1.same (S4.trans S513)
      repeat array_get_dec
      have esv13 : H13 pl = some (.lst (ks.map V.ref)) := S513 _ _ (s4 _ _ e3)
      refine ⟨by decide, by decide, for_range (lo := 0) (n := 8) (fun i σ' H' => (∃ y6 y7 y8 y9 y10 y11 y12 y13, σ' = [some (.ref s), some (.ref p), some (.ref pr), some (.ref pl), some (.ref pc), some (.int (List.zipWith (tn (0, 0)) (last :: out.dropLast) out).sum), y6, y7, y8, y9, y10, y11, y12, y13]) ∧ SB s (N + 300 + 40 * i) H13 H') ⟨⟨_, _, _, _, _, _, _, _, rfl⟩, SB.refl B13.sb⟩ (fun i σ' H' hi z => ?_) fun σ' H' z => ?_⟩
      · obtain ⟨⟨y6, y7, y8, y9, y10, y11, y12, y13, rfl⟩, B⟩ := z
        have hl14 := hl13.stp B13.sb B.st
        have hr14 := hr13.stp B13.sb B.st
        repeat array_get_dec
        refine ⟨s, p, ks, g, N + 300 + 40 * i, rfl, B.sb, by omega, hl14, fun r pl1 H15 B15 hp => ?_⟩
        have hl15 := hl14.stp B.sb B15.st
        have hr15 := hr14.stp B.sb B15.st
        repeat array_get_dec
        refine ⟨p, r, ks, rs, g, p0, q0, pl1, rfl, hl15, pm, he, hp, fun H16 v1 s16 hv1 => ?_⟩
        have hr16 := hr15.same s16
        have hp16 := hp.same s16
        repeat array_get_dec
        refine ⟨pr, r, us, g, rs.map g, lo, p0, q0, last, pl1, rfl, hr16, by omega, he, eo.trans eout, by rw [← eout]; exact hb, hlast, hp16, fun H17 v2 s17 hv2 => ?_⟩
        have vv := whr_uniq hv1 hv2
        subst vv
        repeat array_get_dec
        have B17 := (B15.same s16).same s17
        have hl17 := (hl15.same s16).same s17
        repeat array_get_dec
        refine ⟨s, 7, N + 320 + 40 * i, rfl, B17.sb.up (by omega), by omega, by decide, by decide, fun u H18 u0 u1 st18 sb18 => ?_⟩
        repeat array_get_dec
        refine ⟨s, 7, N + 321 + 40 * i, rfl, sb18.up (by omega), by omega, by decide, by decide, fun v H19 v0 v1' st19 sb19 => ?_⟩
        have B19 := (B17.step st18 sb18).step st19 sb19
        have hl19 := (hl17.stp B17.sb st18).stp sb18 st19
        repeat array_get_dec
        refine fun pk H20 s20 n20 e20 => ?_
        have B20 := B19.same s20
        repeat array_get_dec
        refine ⟨s, pk, _, N + 322 + 40 * i, rfl, B20.sb.up (by omega), by omega, e20, B19.sb.ne n20, by simp, by simp, fun x21 H21 hx21 st21 sb21 => ?_⟩
        have B21 := B20.step st21 sb21
        obtain ⟨by', rfl, hby⟩ : ∃ b : Int, x21 = .int b ∧ (b = 1 ∨ b = 10 ^ 28) := by
          simp only [List.mem_cons, List.not_mem_nil, or_false] at hx21
          rcases hx21 with rfl | rfl | rfl <;> exact ⟨_, rfl, by decide⟩
        have hl21 := (hl19.same s20).stp B20.sb st21
        repeat array_get_dec
        refine ⟨p, ks, rs, g, p0, q0, u - 3, v - 3, rfl, hl21, pm, he, by omega, by omega, fun H22 bd kd s22 e22 sit22 ev22 => ?_⟩
        have B22 := B21.same s22
        have hl22 := hl21.same s22
        repeat array_get_dec
        refine fun p23 H23 s23 n23 e23 => ?_
        repeat array_get_dec
        refine fun p24 H24 s24 n24 e24 => ?_
        have B24 := (B22.same s23).same s24
        have hl24 := (hl22.same s23).same s24
        refine w_neS (p := (u - 3, v - 3)) (q := (0, 0)) (s24 _ _ e23) e24 ?_
        refine ⟨_, rfl, ?_⟩
        by_cases zz : ((u - 3, v - 3) : Int × Int) = (0, 0)
        · refine w_ntt zz ?_
          repeat array_get_dec
          exact ⟨⟨_, _, _, _, _, _, _, _, rfl⟩, (B.step B24.st B24.sb).mono (by omega)⟩
        refine w_ntf zz ?_
        have bb1 : 0 < by' ∧ by'.natAbs < 2 ^ 100 := by
          rcases hby with rfl | rfl <;> decide
        have bu : (u - 3).natAbs < 2 ^ 21 := by omega
        have bv : (v - 3).natAbs < 2 ^ 21 := by omega
        have bb2 := bb1.2
        repeat array_get_dec
        refine fun p25 H25 s25 n25 e25 => ?_
        have hl25 := hl24.same s25
        have dir : DirA H25 p25 (by' * (u - 3)) (by' * (v - 3)) := by
          refine ⟨e25, ⟨?_⟩, ⟨?_⟩, fun h => zz ?_⟩
          · rw [Int.natAbs_mul]
            rcases hby with rfl | rfl
            · rw [show (1 : Int).natAbs = 1 from rfl]; omega
            · rw [show ((10 : Int) ^ 28).natAbs = 10000000000000000000000000000 by decide]; omega
          · rw [Int.natAbs_mul]
            rcases hby with rfl | rfl
            · rw [show (1 : Int).natAbs = 1 from rfl]; omega
            · rw [show ((10 : Int) ^ 28).natAbs = 10000000000000000000000000000 by decide]; omega
          · have h1 := (Int.mul_eq_zero.mp h.1).resolve_left (by omega)
            have h2 := (Int.mul_eq_zero.mp h.2).resolve_left (by omega)
            rw [h1, h2]
        repeat array_get_dec
        refine ⟨p, p25, ks, rs, g, p0, q0, by' * (u - 3), by' * (v - 3), rfl, hl25, pm, he, dir, fun H26 b26 k26 s26 e26 sit26 ev26 => ?_⟩
        have S2226 := s23.trans (s24.trans (s25.trans s26))
        repeat array_get_dec
        refine w_neSs (f := hv H26) (g := hv H22) e26 sit26 (S2226 _ _ e22) (fun t m => S2226 _ _ (sit22 t m)) ?_
        rw [ev26, ev22, List.filter_congr fun r _ => farB_mul bb1.1 r]
        refine ⟨_, rfl, ?_⟩
        refine w_ntt rfl ?_
        repeat array_get_dec
        have B26 := (B24.same s25).same s26
        exact ⟨⟨_, _, _, _, _, _, _, _, rfl⟩, (B.step B26.st B26.sb).mono (by omega)⟩
      · obtain ⟨⟨y6, y7, y8, y9, y10, y11, y12, y13, rfl⟩, B⟩ := z
        have hl14 := hl13.stp B13.sb B.st
        have hr14 := hr13.stp B13.sb B.st
        have hc14 := hc13.stp B13.sb B.st
        have esv14 := B.st.keep _ _ (refs_ne esv13 B13.sb) esv13
        have BB : SB s (N + 620) H H' := B13.step B.st (B.sb.up (by omega))
        repeat array_get_dec
        refine ⟨out, p, ks, rs, g, p0, q0, rfl, hl14, pm, he, hb, fun va ba H15 s15 n15 e15 eo15 sub15 => ?_⟩
        have hl15 := hl14.same s15
        have hr15 := hr14.same s15
        repeat array_get_dec
        refine w_eqSs (f := g) (g := g) e15 (fun t m => (hl15.sit t (sub15 t m)).1) hr15.at_ (fun t m => (hr15.sit t m).1) ?_
        rw [eo15, eo]
        refine ⟨_, rfl, ?_⟩
        refine w_itt rfl ?_
        repeat array_get_dec
        refine ⟨p, ks, rs, g, p0, q0, rfl, hl15, pm, he, fun vb bb H16 s16 n16 e16 eo16 sub16 => ?_⟩
        have hl16 := hl15.same s16
        have hc16 := (hc14.same s15).same s16
        repeat array_get_dec
        refine w_eqSs (f := g) (g := g) e16 (fun t m => (hl16.sit t (sub16 t m)).1) hc16.at_ (fun t m => (hc16.sit t m).1) ?_
        rw [eo16, ec]
        refine ⟨_, rfl, ?_⟩
        refine w_itt rfl ?_
        repeat array_get_dec
        refine w_eqSs (f := g) (g := g) hl16.at_ (fun t m => (hl16.sit t m).1) (s16 _ _ (s15 _ _ esv14)) (fun t m => (hl16.sit t m).1) ?_
        rw [decide_eq_true rfl]
        have BE := (BB.same s15).same s16
        exact q _ BE.st (BE.sb.up (by omega))
end
section
variable {P : Program} {w : World} {K : PySem.W.Frag} {mg : Str → Option Value} {base : Heap}
abbrev s_law : Stmt := topS 56
abbrev n_law : List Str := ["_law_script", "_law_figure", "_law_purse_here", "_law_turn_so"]
theorem c_law : FnScope n_law ["_law_script"] (defScope s_law) := ⟨rfl, rfl, rfl, by decide +kernel, rfl, by decide +kernel, by decide +kernel⟩
def p_law (K : PySem.W.Frag) : Sp := fun vs H Q _ => ∃ (a : Addr) (ns : List Int), vs = [.ref a] ∧ SqL K H a (ns.map V.int) ∧ ns.length ≤ 63 ∧ ∀ H', Q (.bl true) H'
theorem cut_ints {ns : List Int} {lo hi : Option Int} {x : V} (h : x ∈ cutV (ns.map V.int) lo hi) : ∃ n : Int, x = .int n := by
  have m := List.mem_of_mem_drop (List.mem_of_mem_take h)
  obtain ⟨n, _, e⟩ := List.mem_map.mp m
  exact ⟨n, e.symm⟩
set_option pp.maxSteps 300 in
theorem ok_law  {f : Addr} {fd : FuncData} (F : Fun K "law" "law" s_law f fd) (C__law_purse : Cl P w K mg base CX0 "_law_purse" 1 ["_law_figure"] (p__law_purse)) (C__law_right : Cl P w K mg base CX0 "_law_right" 6 ["_law_purse_here"] (p_right)) (mrange : mg "range" = none) : FnOk P w K mg base CX0 8 f fd ["_law_script"] (p_law K) := by
  refine F.ok c_law (fun vs H Q E h => ?_) (fun cdv A outer s H vs Q E hr h => ?_)
  · obtain ⟨a, ns, rfl, hS, hlen, q⟩ := h
    rfl
  · obtain ⟨a, ns, rfl, hS, hlen, q⟩ := h
    have nd := c_law.nd
    have hu : _ := hu_of hr
    refine ⟨_, (pss_cons (ps_for PassesOwn.never rfl (pi_list (pe_op op_catG (pe_slice sl_listG (pv 0) po_none (po_some pe_int)) (pe_lstG (pa_cons pe_int pa_nil)))) (pg_name (i := 1) nd rfl (.inl rfl)) (pss_cons (ps_set (i := 2) nd rfl (.inl rfl) (pe_cl C__law_purse (hr.mono (by decide)) (by rfl) pass0 (pa_cons (pv 1) pa_nil))) (pss_one (ps_for PassesOwn.never rfl (pi_range1 (by rfl) mrange (pa_cons pe_int pa_nil)) (pg_name (i := 3) nd rfl (.inl rfl)) (pss_one (ps_if (pt_not (pt_val (pe_cl C__law_right (hr.mono (by decide)) (by rfl) pass0 (pa_cons (pv 2) pa_nil)))) (pss_one (ps_ret pe_bl)) pss_nil)))))) (pss_one (ps_ret pe_bl))), ?_⟩
    refine ⟨_, rfl, _, rfl, a, ns.map V.int, rfl, hS, fun p1 H1 s1 f1 e1 => ?_⟩
    repeat array_get_dec
    refine fun p2 H2 s2 f2 e2 => ?_
    have lc : (cutV (ns.map V.int) none (some 5)).length ≤ ns.length := by
      have z := cutV_length (ns.map V.int) none (some 5)
      rwa [List.length_map] at z
    refine ⟨p1, p2, _, _, rfl, rfl, s2 _ _ e1, e2, Nat.le_trans (Nat.add_le_add_right (Nat.le_trans lc hlen) _) (by decide), fun p3 H3 s3 f3 e3 => ?_⟩
    repeat array_get_dec
    refine ⟨⟨_, SqL.of e3⟩, for_list (K := K) (a := p3) (xs := cutV (ns.map V.int) none (some 5) ++ [.int 0]) (fun _ σ' H' => (∃ y1 y2 y3, σ' = [some (.ref a), y1, y2, y3]) ∧ H' p3 = some (.lst (cutV (ns.map V.int) none (some 5) ++ [.int 0]))) ⟨⟨_, _, _, rfl⟩, e3⟩ (fun _ σ' H' _ z => SqL.of z.2) (fun i x σ' H' hx z => ?_) fun σ' H' z => ?_⟩
    · obtain ⟨⟨y1, y2, y3, rfl⟩, e3'⟩ := z
      obtain ⟨n, rfl⟩ : ∃ n : Int, x = .int n := by
        rcases List.mem_append.mp (List.mem_of_getElem? hx) with m | m
        · exact cut_ints m
        · exact ⟨0, List.mem_singleton.mp m⟩
      repeat array_get_dec
      refine fun s H4 s4 f4 b4 => ?_
      have e4 := s4 _ _ e3'
      have ne : p3 ≠ s := ne_of_none e3' f4
      repeat array_get_dec
      refine ⟨by decide, by decide, for_range (lo := 0) (n := 3) (fun i σ' H' => (∃ y3, σ' = [some (.ref a), some (.int n), some (.ref s), y3]) ∧ SB s (3 + 1000 * i) H4 H') ⟨⟨_, rfl⟩, SB.refl b4⟩ (fun i σ' H' hi z => ?_) fun σ' H' z => ?_⟩
      · obtain ⟨⟨y3, rfl⟩, B⟩ := z
        repeat array_get_dec
        refine ⟨s, 3 + 1000 * i, rfl, B.sb, by omega, fun H5 st5 sb5 => ?_⟩
        repeat array_get_dec
        exact ⟨⟨_, rfl⟩, (B.step st5 sb5).mono (by omega)⟩
      · obtain ⟨⟨y3, rfl⟩, B⟩ := z
        exact ⟨⟨_, _, _, rfl⟩, B.st.keep _ _ ne e4⟩
    · obtain ⟨⟨y1, y2, y3, rfl⟩, e3'⟩ := z
      repeat array_get_dec
      exact q _
end
/-! ### what the top has written; the law's own head -/
theorem all_mk {l : PySem.W.OpenLaw} {w : World} {K : PySem.W.Frag} {h : Heap} {mg : Str → Option Value} {fa f_is_integer f_sign f_is_place f_is_short f_check_place f_check_direction f_are_sites f_ascending f_turn f_turn_to_place f_is_on_way f_is_row f_chains_of f_border_of f_corners_of f_double_area_of f_side_of_hull f_side_of_polygon f_hull f_border f_double_hull f_where f_extreme f__law_purse f__law_coin f__law_pick f__law_ring f__law_places f__law_sites f__law_lean f__law_flat f__law_border f__law_common f__law_point f__law_off f__law_between f__law_some_point f__law_corners f__law_where f__law_extreme f__law_right fL : Addr} (X : K.In h) (G : h.Ns mainGlobals mg) (hfa : mg "law" = some (.ref fa))
    {od_is_integer an_is_integer : Option Addr} {sl_is_integer : Array (Option Value)} {oc_is_integer kV_is_integer dc_is_integer pm_is_integer cd_is_integer ct_is_integer : Value}
    {od_sign an_sign : Option Addr} {sl_sign : Array (Option Value)} {oc_sign kV_sign dc_sign pm_sign cd_sign ct_sign : Value}
    {od_is_place an_is_place : Option Addr} {sl_is_place : Array (Option Value)} {oc_is_place kV_is_place dc_is_place pm_is_place cd_is_place ct_is_place : Value}
    {od_is_short an_is_short : Option Addr} {sl_is_short : Array (Option Value)} {oc_is_short kV_is_short dc_is_short pm_is_short cd_is_short ct_is_short : Value}
    {od_check_place an_check_place : Option Addr} {sl_check_place : Array (Option Value)} {oc_check_place kV_check_place dc_check_place pm_check_place cd_check_place ct_check_place : Value}
    {od_check_direction an_check_direction : Option Addr} {sl_check_direction : Array (Option Value)} {oc_check_direction kV_check_direction dc_check_direction pm_check_direction cd_check_direction ct_check_direction : Value}
    {od_are_sites an_are_sites : Option Addr} {sl_are_sites : Array (Option Value)} {oc_are_sites kV_are_sites dc_are_sites pm_are_sites cd_are_sites ct_are_sites : Value}
    {od_ascending an_ascending : Option Addr} {sl_ascending : Array (Option Value)} {oc_ascending kV_ascending dc_ascending pm_ascending cd_ascending ct_ascending : Value}
    {od_turn an_turn : Option Addr} {sl_turn : Array (Option Value)} {oc_turn kV_turn dc_turn pm_turn cd_turn ct_turn : Value}
    {od_turn_to_place an_turn_to_place : Option Addr} {sl_turn_to_place : Array (Option Value)} {oc_turn_to_place kV_turn_to_place dc_turn_to_place pm_turn_to_place cd_turn_to_place ct_turn_to_place : Value}
    {od_is_on_way an_is_on_way : Option Addr} {sl_is_on_way : Array (Option Value)} {oc_is_on_way kV_is_on_way dc_is_on_way pm_is_on_way cd_is_on_way ct_is_on_way : Value}
    {od_is_row an_is_row : Option Addr} {sl_is_row : Array (Option Value)} {oc_is_row kV_is_row dc_is_row pm_is_row cd_is_row ct_is_row : Value}
    {od_chains_of an_chains_of : Option Addr} {sl_chains_of : Array (Option Value)} {oc_chains_of kV_chains_of dc_chains_of pm_chains_of cd_chains_of ct_chains_of : Value}
    {od_border_of an_border_of : Option Addr} {sl_border_of : Array (Option Value)} {oc_border_of kV_border_of dc_border_of pm_border_of cd_border_of ct_border_of : Value}
    {od_corners_of an_corners_of : Option Addr} {sl_corners_of : Array (Option Value)} {oc_corners_of kV_corners_of dc_corners_of pm_corners_of cd_corners_of ct_corners_of : Value}
    {od_double_area_of an_double_area_of : Option Addr} {sl_double_area_of : Array (Option Value)} {oc_double_area_of kV_double_area_of dc_double_area_of pm_double_area_of cd_double_area_of ct_double_area_of : Value}
    {od_side_of_hull an_side_of_hull : Option Addr} {sl_side_of_hull : Array (Option Value)} {oc_side_of_hull kV_side_of_hull dc_side_of_hull pm_side_of_hull cd_side_of_hull ct_side_of_hull : Value}
    {od_side_of_polygon an_side_of_polygon : Option Addr} {sl_side_of_polygon : Array (Option Value)} {oc_side_of_polygon kV_side_of_polygon dc_side_of_polygon pm_side_of_polygon cd_side_of_polygon ct_side_of_polygon : Value}
    {od_hull an_hull : Option Addr} {sl_hull : Array (Option Value)} {oc_hull kV_hull dc_hull pm_hull cd_hull ct_hull : Value}
    {od_border an_border : Option Addr} {sl_border : Array (Option Value)} {oc_border kV_border dc_border pm_border cd_border ct_border : Value}
    {od_double_hull an_double_hull : Option Addr} {sl_double_hull : Array (Option Value)} {oc_double_hull kV_double_hull dc_double_hull pm_double_hull cd_double_hull ct_double_hull : Value}
    {od_where an_where : Option Addr} {sl_where : Array (Option Value)} {oc_where kV_where dc_where pm_where cd_where ct_where : Value}
    {od_extreme an_extreme : Option Addr} {sl_extreme : Array (Option Value)} {oc_extreme kV_extreme dc_extreme pm_extreme cd_extreme ct_extreme : Value}
    {od__law_purse an__law_purse : Option Addr} {sl__law_purse : Array (Option Value)} {oc__law_purse kV__law_purse dc__law_purse pm__law_purse cd__law_purse ct__law_purse : Value}
    {od__law_coin an__law_coin : Option Addr} {sl__law_coin : Array (Option Value)} {oc__law_coin kV__law_coin dc__law_coin pm__law_coin cd__law_coin ct__law_coin : Value}
    {od__law_pick an__law_pick : Option Addr} {sl__law_pick : Array (Option Value)} {oc__law_pick kV__law_pick dc__law_pick pm__law_pick cd__law_pick ct__law_pick : Value}
    {od__law_ring an__law_ring : Option Addr} {sl__law_ring : Array (Option Value)} {oc__law_ring kV__law_ring dc__law_ring pm__law_ring cd__law_ring ct__law_ring : Value}
    {od__law_places an__law_places : Option Addr} {sl__law_places : Array (Option Value)} {oc__law_places kV__law_places dc__law_places pm__law_places cd__law_places ct__law_places : Value}
    {od__law_sites an__law_sites : Option Addr} {sl__law_sites : Array (Option Value)} {oc__law_sites kV__law_sites dc__law_sites pm__law_sites cd__law_sites ct__law_sites : Value}
    {od__law_lean an__law_lean : Option Addr} {sl__law_lean : Array (Option Value)} {oc__law_lean kV__law_lean dc__law_lean pm__law_lean cd__law_lean ct__law_lean : Value}
    {od__law_flat an__law_flat : Option Addr} {sl__law_flat : Array (Option Value)} {oc__law_flat kV__law_flat dc__law_flat pm__law_flat cd__law_flat ct__law_flat : Value}
    {od__law_border an__law_border : Option Addr} {sl__law_border : Array (Option Value)} {oc__law_border kV__law_border dc__law_border pm__law_border cd__law_border ct__law_border : Value}
    {od__law_common an__law_common : Option Addr} {sl__law_common : Array (Option Value)} {oc__law_common kV__law_common dc__law_common pm__law_common cd__law_common ct__law_common : Value}
    {od__law_point an__law_point : Option Addr} {sl__law_point : Array (Option Value)} {oc__law_point kV__law_point dc__law_point pm__law_point cd__law_point ct__law_point : Value}
    {od__law_off an__law_off : Option Addr} {sl__law_off : Array (Option Value)} {oc__law_off kV__law_off dc__law_off pm__law_off cd__law_off ct__law_off : Value}
    {od__law_between an__law_between : Option Addr} {sl__law_between : Array (Option Value)} {oc__law_between kV__law_between dc__law_between pm__law_between cd__law_between ct__law_between : Value}
    {od__law_some_point an__law_some_point : Option Addr} {sl__law_some_point : Array (Option Value)} {oc__law_some_point kV__law_some_point dc__law_some_point pm__law_some_point cd__law_some_point ct__law_some_point : Value}
    {od__law_corners an__law_corners : Option Addr} {sl__law_corners : Array (Option Value)} {oc__law_corners kV__law_corners dc__law_corners pm__law_corners cd__law_corners ct__law_corners : Value}
    {od__law_where an__law_where : Option Addr} {sl__law_where : Array (Option Value)} {oc__law_where kV__law_where dc__law_where pm__law_where cd__law_where ct__law_where : Value}
    {od__law_extreme an__law_extreme : Option Addr} {sl__law_extreme : Array (Option Value)} {oc__law_extreme kV__law_extreme dc__law_extreme pm__law_extreme cd__law_extreme ct__law_extreme : Value}
    {od__law_right an__law_right : Option Addr} {sl__law_right : Array (Option Value)} {oc__law_right kV__law_right dc__law_right pm__law_right cd__law_right ct__law_right : Value}
    {odL anL : Option Addr} {slL : Array (Option Value)} {ocL kVL dcL pmL cdL ctL : Value}
    {tMOST_SITES : Tok}
    (a_is_integer : PySem.W.nsIn K mainGlobals "is_integer" = some (some (.ref f_is_integer))) (l_is_integer : K.lookup f_is_integer = some ⟨oc_is_integer, od_is_integer, .func (PySem.W.fnOf "is_integer" "is_integer" (defArgs s_is_integer) (defBody s_is_integer) (defScope s_is_integer) .none kV_is_integer dc_is_integer pm_is_integer an_is_integer cd_is_integer ct_is_integer), sl_is_integer⟩) (c_is_integer : PySem.W.codeIn K cd_is_integer "is_integer" = true) (k_is_integer : PySem.W.keepIn K (.ref f_is_integer) = true)
    (a_sign : PySem.W.nsIn K mainGlobals "sign" = some (some (.ref f_sign))) (l_sign : K.lookup f_sign = some ⟨oc_sign, od_sign, .func (PySem.W.fnOf "sign" "sign" (defArgs sSign) (defBody sSign) (defScope sSign) .none kV_sign dc_sign pm_sign an_sign cd_sign ct_sign), sl_sign⟩) (c_sign : PySem.W.codeIn K cd_sign "sign" = true) (k_sign : PySem.W.keepIn K (.ref f_sign) = true)
    (a_is_place : PySem.W.nsIn K mainGlobals "is_place" = some (some (.ref f_is_place))) (l_is_place : K.lookup f_is_place = some ⟨oc_is_place, od_is_place, .func (PySem.W.fnOf "is_place" "is_place" (defArgs sIsPl) (defBody sIsPl) (defScope sIsPl) .none kV_is_place dc_is_place pm_is_place an_is_place cd_is_place ct_is_place), sl_is_place⟩) (c_is_place : PySem.W.codeIn K cd_is_place "is_place" = true) (k_is_place : PySem.W.keepIn K (.ref f_is_place) = true)
    (a_is_short : PySem.W.nsIn K mainGlobals "is_short" = some (some (.ref f_is_short))) (l_is_short : K.lookup f_is_short = some ⟨oc_is_short, od_is_short, .func (PySem.W.fnOf "is_short" "is_short" (defArgs s_is_short) (defBody s_is_short) (defScope s_is_short) .none kV_is_short dc_is_short pm_is_short an_is_short cd_is_short ct_is_short), sl_is_short⟩) (c_is_short : PySem.W.codeIn K cd_is_short "is_short" = true) (k_is_short : PySem.W.keepIn K (.ref f_is_short) = true)
    (a_check_place : PySem.W.nsIn K mainGlobals "check_place" = some (some (.ref f_check_place))) (l_check_place : K.lookup f_check_place = some ⟨oc_check_place, od_check_place, .func (PySem.W.fnOf "check_place" "check_place" (defArgs sCheckP) (defBody sCheckP) (defScope sCheckP) .none kV_check_place dc_check_place pm_check_place an_check_place cd_check_place ct_check_place), sl_check_place⟩) (c_check_place : PySem.W.codeIn K cd_check_place "check_place" = true) (k_check_place : PySem.W.keepIn K (.ref f_check_place) = true)
    (a_check_direction : PySem.W.nsIn K mainGlobals "check_direction" = some (some (.ref f_check_direction))) (l_check_direction : K.lookup f_check_direction = some ⟨oc_check_direction, od_check_direction, .func (PySem.W.fnOf "check_direction" "check_direction" (defArgs s_check_direction) (defBody s_check_direction) (defScope s_check_direction) .none kV_check_direction dc_check_direction pm_check_direction an_check_direction cd_check_direction ct_check_direction), sl_check_direction⟩) (c_check_direction : PySem.W.codeIn K cd_check_direction "check_direction" = true) (k_check_direction : PySem.W.keepIn K (.ref f_check_direction) = true)
    (a_are_sites : PySem.W.nsIn K mainGlobals "are_sites" = some (some (.ref f_are_sites))) (l_are_sites : K.lookup f_are_sites = some ⟨oc_are_sites, od_are_sites, .func (PySem.W.fnOf "are_sites" "are_sites" (defArgs s_are_sites) (defBody s_are_sites) (defScope s_are_sites) .none kV_are_sites dc_are_sites pm_are_sites an_are_sites cd_are_sites ct_are_sites), sl_are_sites⟩) (c_are_sites : PySem.W.codeIn K cd_are_sites "are_sites" = true) (k_are_sites : PySem.W.keepIn K (.ref f_are_sites) = true)
    (a_ascending : PySem.W.nsIn K mainGlobals "ascending" = some (some (.ref f_ascending))) (l_ascending : K.lookup f_ascending = some ⟨oc_ascending, od_ascending, .func (PySem.W.fnOf "ascending" "ascending" (defArgs s_ascending) (defBody s_ascending) (defScope s_ascending) .none kV_ascending dc_ascending pm_ascending an_ascending cd_ascending ct_ascending), sl_ascending⟩) (c_ascending : PySem.W.codeIn K cd_ascending "ascending" = true) (k_ascending : PySem.W.keepIn K (.ref f_ascending) = true)
    (a_turn : PySem.W.nsIn K mainGlobals "turn" = some (some (.ref f_turn))) (l_turn : K.lookup f_turn = some ⟨oc_turn, od_turn, .func (PySem.W.fnOf "turn" "turn" (defArgs s_turn) (defBody s_turn) (defScope s_turn) .none kV_turn dc_turn pm_turn an_turn cd_turn ct_turn), sl_turn⟩) (c_turn : PySem.W.codeIn K cd_turn "turn" = true) (k_turn : PySem.W.keepIn K (.ref f_turn) = true)
    (a_turn_to_place : PySem.W.nsIn K mainGlobals "turn_to_place" = some (some (.ref f_turn_to_place))) (l_turn_to_place : K.lookup f_turn_to_place = some ⟨oc_turn_to_place, od_turn_to_place, .func (PySem.W.fnOf "turn_to_place" "turn_to_place" (defArgs s_turn_to_place) (defBody s_turn_to_place) (defScope s_turn_to_place) .none kV_turn_to_place dc_turn_to_place pm_turn_to_place an_turn_to_place cd_turn_to_place ct_turn_to_place), sl_turn_to_place⟩) (c_turn_to_place : PySem.W.codeIn K cd_turn_to_place "turn_to_place" = true) (k_turn_to_place : PySem.W.keepIn K (.ref f_turn_to_place) = true)
    (a_is_on_way : PySem.W.nsIn K mainGlobals "is_on_way" = some (some (.ref f_is_on_way))) (l_is_on_way : K.lookup f_is_on_way = some ⟨oc_is_on_way, od_is_on_way, .func (PySem.W.fnOf "is_on_way" "is_on_way" (defArgs s_is_on_way) (defBody s_is_on_way) (defScope s_is_on_way) .none kV_is_on_way dc_is_on_way pm_is_on_way an_is_on_way cd_is_on_way ct_is_on_way), sl_is_on_way⟩) (c_is_on_way : PySem.W.codeIn K cd_is_on_way "is_on_way" = true) (k_is_on_way : PySem.W.keepIn K (.ref f_is_on_way) = true)
    (a_is_row : PySem.W.nsIn K mainGlobals "is_row" = some (some (.ref f_is_row))) (l_is_row : K.lookup f_is_row = some ⟨oc_is_row, od_is_row, .func (PySem.W.fnOf "is_row" "is_row" (defArgs s_is_row) (defBody s_is_row) (defScope s_is_row) .none kV_is_row dc_is_row pm_is_row an_is_row cd_is_row ct_is_row), sl_is_row⟩) (c_is_row : PySem.W.codeIn K cd_is_row "is_row" = true) (k_is_row : PySem.W.keepIn K (.ref f_is_row) = true)
    (a_chains_of : PySem.W.nsIn K mainGlobals "chains_of" = some (some (.ref f_chains_of))) (l_chains_of : K.lookup f_chains_of = some ⟨oc_chains_of, od_chains_of, .func (PySem.W.fnOf "chains_of" "chains_of" (defArgs s_chains_of) (defBody s_chains_of) (defScope s_chains_of) .none kV_chains_of dc_chains_of pm_chains_of an_chains_of cd_chains_of ct_chains_of), sl_chains_of⟩) (c_chains_of : PySem.W.codeIn K cd_chains_of "chains_of" = true) (k_chains_of : PySem.W.keepIn K (.ref f_chains_of) = true)
    (a_border_of : PySem.W.nsIn K mainGlobals "border_of" = some (some (.ref f_border_of))) (l_border_of : K.lookup f_border_of = some ⟨oc_border_of, od_border_of, .func (PySem.W.fnOf "border_of" "border_of" (defArgs s_border_of) (defBody s_border_of) (defScope s_border_of) .none kV_border_of dc_border_of pm_border_of an_border_of cd_border_of ct_border_of), sl_border_of⟩) (c_border_of : PySem.W.codeIn K cd_border_of "border_of" = true) (k_border_of : PySem.W.keepIn K (.ref f_border_of) = true)
    (a_corners_of : PySem.W.nsIn K mainGlobals "corners_of" = some (some (.ref f_corners_of))) (l_corners_of : K.lookup f_corners_of = some ⟨oc_corners_of, od_corners_of, .func (PySem.W.fnOf "corners_of" "corners_of" (defArgs s_corners_of) (defBody s_corners_of) (defScope s_corners_of) .none kV_corners_of dc_corners_of pm_corners_of an_corners_of cd_corners_of ct_corners_of), sl_corners_of⟩) (c_corners_of : PySem.W.codeIn K cd_corners_of "corners_of" = true) (k_corners_of : PySem.W.keepIn K (.ref f_corners_of) = true)
    (a_double_area_of : PySem.W.nsIn K mainGlobals "double_area_of" = some (some (.ref f_double_area_of))) (l_double_area_of : K.lookup f_double_area_of = some ⟨oc_double_area_of, od_double_area_of, .func (PySem.W.fnOf "double_area_of" "double_area_of" (defArgs s_double_area_of) (defBody s_double_area_of) (defScope s_double_area_of) .none kV_double_area_of dc_double_area_of pm_double_area_of an_double_area_of cd_double_area_of ct_double_area_of), sl_double_area_of⟩) (c_double_area_of : PySem.W.codeIn K cd_double_area_of "double_area_of" = true) (k_double_area_of : PySem.W.keepIn K (.ref f_double_area_of) = true)
    (a_side_of_hull : PySem.W.nsIn K mainGlobals "side_of_hull" = some (some (.ref f_side_of_hull))) (l_side_of_hull : K.lookup f_side_of_hull = some ⟨oc_side_of_hull, od_side_of_hull, .func (PySem.W.fnOf "side_of_hull" "side_of_hull" (defArgs s_side_of_hull) (defBody s_side_of_hull) (defScope s_side_of_hull) .none kV_side_of_hull dc_side_of_hull pm_side_of_hull an_side_of_hull cd_side_of_hull ct_side_of_hull), sl_side_of_hull⟩) (c_side_of_hull : PySem.W.codeIn K cd_side_of_hull "side_of_hull" = true) (k_side_of_hull : PySem.W.keepIn K (.ref f_side_of_hull) = true)
    (a_side_of_polygon : PySem.W.nsIn K mainGlobals "side_of_polygon" = some (some (.ref f_side_of_polygon))) (l_side_of_polygon : K.lookup f_side_of_polygon = some ⟨oc_side_of_polygon, od_side_of_polygon, .func (PySem.W.fnOf "side_of_polygon" "side_of_polygon" (defArgs s_side_of_polygon) (defBody s_side_of_polygon) (defScope s_side_of_polygon) .none kV_side_of_polygon dc_side_of_polygon pm_side_of_polygon an_side_of_polygon cd_side_of_polygon ct_side_of_polygon), sl_side_of_polygon⟩) (c_side_of_polygon : PySem.W.codeIn K cd_side_of_polygon "side_of_polygon" = true) (k_side_of_polygon : PySem.W.keepIn K (.ref f_side_of_polygon) = true)
    (a_hull : PySem.W.nsIn K mainGlobals "hull" = some (some (.ref f_hull))) (l_hull : K.lookup f_hull = some ⟨oc_hull, od_hull, .func (PySem.W.fnOf "hull" "hull" (defArgs s_hull) (defBody s_hull) (defScope s_hull) .none kV_hull dc_hull pm_hull an_hull cd_hull ct_hull), sl_hull⟩) (c_hull : PySem.W.codeIn K cd_hull "hull" = true) (k_hull : PySem.W.keepIn K (.ref f_hull) = true)
    (a_border : PySem.W.nsIn K mainGlobals "border" = some (some (.ref f_border))) (l_border : K.lookup f_border = some ⟨oc_border, od_border, .func (PySem.W.fnOf "border" "border" (defArgs s_border) (defBody s_border) (defScope s_border) .none kV_border dc_border pm_border an_border cd_border ct_border), sl_border⟩) (c_border : PySem.W.codeIn K cd_border "border" = true) (k_border : PySem.W.keepIn K (.ref f_border) = true)
    (a_double_hull : PySem.W.nsIn K mainGlobals "double_hull" = some (some (.ref f_double_hull))) (l_double_hull : K.lookup f_double_hull = some ⟨oc_double_hull, od_double_hull, .func (PySem.W.fnOf "double_hull" "double_hull" (defArgs s_double_hull) (defBody s_double_hull) (defScope s_double_hull) .none kV_double_hull dc_double_hull pm_double_hull an_double_hull cd_double_hull ct_double_hull), sl_double_hull⟩) (c_double_hull : PySem.W.codeIn K cd_double_hull "double_hull" = true) (k_double_hull : PySem.W.keepIn K (.ref f_double_hull) = true)
    (a_where : PySem.W.nsIn K mainGlobals "where" = some (some (.ref f_where))) (l_where : K.lookup f_where = some ⟨oc_where, od_where, .func (PySem.W.fnOf "where" "where" (defArgs s_where) (defBody s_where) (defScope s_where) .none kV_where dc_where pm_where an_where cd_where ct_where), sl_where⟩) (c_where : PySem.W.codeIn K cd_where "where" = true) (k_where : PySem.W.keepIn K (.ref f_where) = true)
    (a_extreme : PySem.W.nsIn K mainGlobals "extreme" = some (some (.ref f_extreme))) (l_extreme : K.lookup f_extreme = some ⟨oc_extreme, od_extreme, .func (PySem.W.fnOf "extreme" "extreme" (defArgs s_extreme) (defBody s_extreme) (defScope s_extreme) .none kV_extreme dc_extreme pm_extreme an_extreme cd_extreme ct_extreme), sl_extreme⟩) (c_extreme : PySem.W.codeIn K cd_extreme "extreme" = true) (k_extreme : PySem.W.keepIn K (.ref f_extreme) = true)
    (a__law_purse : PySem.W.nsIn K mainGlobals "_law_purse" = some (some (.ref f__law_purse))) (l__law_purse : K.lookup f__law_purse = some ⟨oc__law_purse, od__law_purse, .func (PySem.W.fnOf "_law_purse" "_law_purse" (defArgs s__law_purse) (defBody s__law_purse) (defScope s__law_purse) .none kV__law_purse dc__law_purse pm__law_purse an__law_purse cd__law_purse ct__law_purse), sl__law_purse⟩) (c__law_purse : PySem.W.codeIn K cd__law_purse "_law_purse" = true) (k__law_purse : PySem.W.keepIn K (.ref f__law_purse) = true)
    (a__law_coin : PySem.W.nsIn K mainGlobals "_law_coin" = some (some (.ref f__law_coin))) (l__law_coin : K.lookup f__law_coin = some ⟨oc__law_coin, od__law_coin, .func (PySem.W.fnOf "_law_coin" "_law_coin" (defArgs s__law_coin) (defBody s__law_coin) (defScope s__law_coin) .none kV__law_coin dc__law_coin pm__law_coin an__law_coin cd__law_coin ct__law_coin), sl__law_coin⟩) (c__law_coin : PySem.W.codeIn K cd__law_coin "_law_coin" = true) (k__law_coin : PySem.W.keepIn K (.ref f__law_coin) = true)
    (a__law_pick : PySem.W.nsIn K mainGlobals "_law_pick" = some (some (.ref f__law_pick))) (l__law_pick : K.lookup f__law_pick = some ⟨oc__law_pick, od__law_pick, .func (PySem.W.fnOf "_law_pick" "_law_pick" (defArgs s__law_pick) (defBody s__law_pick) (defScope s__law_pick) .none kV__law_pick dc__law_pick pm__law_pick an__law_pick cd__law_pick ct__law_pick), sl__law_pick⟩) (c__law_pick : PySem.W.codeIn K cd__law_pick "_law_pick" = true) (k__law_pick : PySem.W.keepIn K (.ref f__law_pick) = true)
    (a__law_ring : PySem.W.nsIn K mainGlobals "_law_ring" = some (some (.ref f__law_ring))) (l__law_ring : K.lookup f__law_ring = some ⟨oc__law_ring, od__law_ring, .func (PySem.W.fnOf "_law_ring" "_law_ring" (defArgs s__law_ring) (defBody s__law_ring) (defScope s__law_ring) .none kV__law_ring dc__law_ring pm__law_ring an__law_ring cd__law_ring ct__law_ring), sl__law_ring⟩) (c__law_ring : PySem.W.codeIn K cd__law_ring "_law_ring" = true) (k__law_ring : PySem.W.keepIn K (.ref f__law_ring) = true)
    (a__law_places : PySem.W.nsIn K mainGlobals "_law_places" = some (some (.ref f__law_places))) (l__law_places : K.lookup f__law_places = some ⟨oc__law_places, od__law_places, .func (PySem.W.fnOf "_law_places" "_law_places" (defArgs s__law_places) (defBody s__law_places) (defScope s__law_places) .none kV__law_places dc__law_places pm__law_places an__law_places cd__law_places ct__law_places), sl__law_places⟩) (c__law_places : PySem.W.codeIn K cd__law_places "_law_places" = true) (k__law_places : PySem.W.keepIn K (.ref f__law_places) = true)
    (a__law_sites : PySem.W.nsIn K mainGlobals "_law_sites" = some (some (.ref f__law_sites))) (l__law_sites : K.lookup f__law_sites = some ⟨oc__law_sites, od__law_sites, .func (PySem.W.fnOf "_law_sites" "_law_sites" (defArgs s__law_sites) (defBody s__law_sites) (defScope s__law_sites) .none kV__law_sites dc__law_sites pm__law_sites an__law_sites cd__law_sites ct__law_sites), sl__law_sites⟩) (c__law_sites : PySem.W.codeIn K cd__law_sites "_law_sites" = true) (k__law_sites : PySem.W.keepIn K (.ref f__law_sites) = true)
    (a__law_lean : PySem.W.nsIn K mainGlobals "_law_lean" = some (some (.ref f__law_lean))) (l__law_lean : K.lookup f__law_lean = some ⟨oc__law_lean, od__law_lean, .func (PySem.W.fnOf "_law_lean" "_law_lean" (defArgs s__law_lean) (defBody s__law_lean) (defScope s__law_lean) .none kV__law_lean dc__law_lean pm__law_lean an__law_lean cd__law_lean ct__law_lean), sl__law_lean⟩) (c__law_lean : PySem.W.codeIn K cd__law_lean "_law_lean" = true) (k__law_lean : PySem.W.keepIn K (.ref f__law_lean) = true)
    (a__law_flat : PySem.W.nsIn K mainGlobals "_law_flat" = some (some (.ref f__law_flat))) (l__law_flat : K.lookup f__law_flat = some ⟨oc__law_flat, od__law_flat, .func (PySem.W.fnOf "_law_flat" "_law_flat" (defArgs s__law_flat) (defBody s__law_flat) (defScope s__law_flat) .none kV__law_flat dc__law_flat pm__law_flat an__law_flat cd__law_flat ct__law_flat), sl__law_flat⟩) (c__law_flat : PySem.W.codeIn K cd__law_flat "_law_flat" = true) (k__law_flat : PySem.W.keepIn K (.ref f__law_flat) = true)
    (a__law_border : PySem.W.nsIn K mainGlobals "_law_border" = some (some (.ref f__law_border))) (l__law_border : K.lookup f__law_border = some ⟨oc__law_border, od__law_border, .func (PySem.W.fnOf "_law_border" "_law_border" (defArgs s__law_border) (defBody s__law_border) (defScope s__law_border) .none kV__law_border dc__law_border pm__law_border an__law_border cd__law_border ct__law_border), sl__law_border⟩) (c__law_border : PySem.W.codeIn K cd__law_border "_law_border" = true) (k__law_border : PySem.W.keepIn K (.ref f__law_border) = true)
    (a__law_common : PySem.W.nsIn K mainGlobals "_law_common" = some (some (.ref f__law_common))) (l__law_common : K.lookup f__law_common = some ⟨oc__law_common, od__law_common, .func (PySem.W.fnOf "_law_common" "_law_common" (defArgs s__law_common) (defBody s__law_common) (defScope s__law_common) .none kV__law_common dc__law_common pm__law_common an__law_common cd__law_common ct__law_common), sl__law_common⟩) (c__law_common : PySem.W.codeIn K cd__law_common "_law_common" = true) (k__law_common : PySem.W.keepIn K (.ref f__law_common) = true)
    (a__law_point : PySem.W.nsIn K mainGlobals "_law_point" = some (some (.ref f__law_point))) (l__law_point : K.lookup f__law_point = some ⟨oc__law_point, od__law_point, .func (PySem.W.fnOf "_law_point" "_law_point" (defArgs s__law_point) (defBody s__law_point) (defScope s__law_point) .none kV__law_point dc__law_point pm__law_point an__law_point cd__law_point ct__law_point), sl__law_point⟩) (c__law_point : PySem.W.codeIn K cd__law_point "_law_point" = true) (k__law_point : PySem.W.keepIn K (.ref f__law_point) = true)
    (a__law_off : PySem.W.nsIn K mainGlobals "_law_off" = some (some (.ref f__law_off))) (l__law_off : K.lookup f__law_off = some ⟨oc__law_off, od__law_off, .func (PySem.W.fnOf "_law_off" "_law_off" (defArgs s__law_off) (defBody s__law_off) (defScope s__law_off) .none kV__law_off dc__law_off pm__law_off an__law_off cd__law_off ct__law_off), sl__law_off⟩) (c__law_off : PySem.W.codeIn K cd__law_off "_law_off" = true) (k__law_off : PySem.W.keepIn K (.ref f__law_off) = true)
    (a__law_between : PySem.W.nsIn K mainGlobals "_law_between" = some (some (.ref f__law_between))) (l__law_between : K.lookup f__law_between = some ⟨oc__law_between, od__law_between, .func (PySem.W.fnOf "_law_between" "_law_between" (defArgs s__law_between) (defBody s__law_between) (defScope s__law_between) .none kV__law_between dc__law_between pm__law_between an__law_between cd__law_between ct__law_between), sl__law_between⟩) (c__law_between : PySem.W.codeIn K cd__law_between "_law_between" = true) (k__law_between : PySem.W.keepIn K (.ref f__law_between) = true)
    (a__law_some_point : PySem.W.nsIn K mainGlobals "_law_some_point" = some (some (.ref f__law_some_point))) (l__law_some_point : K.lookup f__law_some_point = some ⟨oc__law_some_point, od__law_some_point, .func (PySem.W.fnOf "_law_some_point" "_law_some_point" (defArgs s__law_some_point) (defBody s__law_some_point) (defScope s__law_some_point) .none kV__law_some_point dc__law_some_point pm__law_some_point an__law_some_point cd__law_some_point ct__law_some_point), sl__law_some_point⟩) (c__law_some_point : PySem.W.codeIn K cd__law_some_point "_law_some_point" = true) (k__law_some_point : PySem.W.keepIn K (.ref f__law_some_point) = true)
    (a__law_corners : PySem.W.nsIn K mainGlobals "_law_corners" = some (some (.ref f__law_corners))) (l__law_corners : K.lookup f__law_corners = some ⟨oc__law_corners, od__law_corners, .func (PySem.W.fnOf "_law_corners" "_law_corners" (defArgs s__law_corners) (defBody s__law_corners) (defScope s__law_corners) .none kV__law_corners dc__law_corners pm__law_corners an__law_corners cd__law_corners ct__law_corners), sl__law_corners⟩) (c__law_corners : PySem.W.codeIn K cd__law_corners "_law_corners" = true) (k__law_corners : PySem.W.keepIn K (.ref f__law_corners) = true)
    (a__law_where : PySem.W.nsIn K mainGlobals "_law_where" = some (some (.ref f__law_where))) (l__law_where : K.lookup f__law_where = some ⟨oc__law_where, od__law_where, .func (PySem.W.fnOf "_law_where" "_law_where" (defArgs s__law_where) (defBody s__law_where) (defScope s__law_where) .none kV__law_where dc__law_where pm__law_where an__law_where cd__law_where ct__law_where), sl__law_where⟩) (c__law_where : PySem.W.codeIn K cd__law_where "_law_where" = true) (k__law_where : PySem.W.keepIn K (.ref f__law_where) = true)
    (a__law_extreme : PySem.W.nsIn K mainGlobals "_law_extreme" = some (some (.ref f__law_extreme))) (l__law_extreme : K.lookup f__law_extreme = some ⟨oc__law_extreme, od__law_extreme, .func (PySem.W.fnOf "_law_extreme" "_law_extreme" (defArgs s__law_extreme) (defBody s__law_extreme) (defScope s__law_extreme) .none kV__law_extreme dc__law_extreme pm__law_extreme an__law_extreme cd__law_extreme ct__law_extreme), sl__law_extreme⟩) (c__law_extreme : PySem.W.codeIn K cd__law_extreme "_law_extreme" = true) (k__law_extreme : PySem.W.keepIn K (.ref f__law_extreme) = true)
    (a__law_right : PySem.W.nsIn K mainGlobals "_law_right" = some (some (.ref f__law_right))) (l__law_right : K.lookup f__law_right = some ⟨oc__law_right, od__law_right, .func (PySem.W.fnOf "_law_right" "_law_right" (defArgs s__law_right) (defBody s__law_right) (defScope s__law_right) .none kV__law_right dc__law_right pm__law_right an__law_right cd__law_right ct__law_right), sl__law_right⟩) (c__law_right : PySem.W.codeIn K cd__law_right "_law_right" = true) (k__law_right : PySem.W.keepIn K (.ref f__law_right) = true)
    (aL : PySem.W.nsIn K mainGlobals "law" = some (some (.ref fL))) (lL : K.lookup fL = some ⟨ocL, odL, .func (PySem.W.fnOf "law" "law" (defArgs s_law) (defBody s_law) (defScope s_law) .none kVL dcL pmL anL cdL ctL), slL⟩) (cL : PySem.W.codeIn K cdL "law" = true) (kL : PySem.W.keepIn K (.ref fL) = true)
    (zabs : PySem.W.nsIn K mainGlobals "abs" = some none)
    (zall : PySem.W.nsIn K mainGlobals "all" = some none)
    (zbool : PySem.W.nsIn K mainGlobals "bool" = some none)
    (zenumerate : PySem.W.nsIn K mainGlobals "enumerate" = some none)
    (zint : PySem.W.nsIn K mainGlobals "int" = some none)
    (zisinstance : PySem.W.nsIn K mainGlobals "isinstance" = some none)
    (zlen : PySem.W.nsIn K mainGlobals "len" = some none)
    (zlist : PySem.W.nsIn K mainGlobals "list" = some none)
    (zmax : PySem.W.nsIn K mainGlobals "max" = some none)
    (zmin : PySem.W.nsIn K mainGlobals "min" = some none)
    (zrange : PySem.W.nsIn K mainGlobals "range" = some none)
    (zset : PySem.W.nsIn K mainGlobals "set" = some none)
    (zsorted : PySem.W.nsIn K mainGlobals "sorted" = some none)
    (zsum : PySem.W.nsIn K mainGlobals "sum" = some none)
    (ztuple : PySem.W.nsIn K mainGlobals "tuple" = some none)
    (zzip : PySem.W.nsIn K mainGlobals "zip" = some none)
    (gMOST_SITES : PySem.W.nsIn K mainGlobals "MOST_SITES" = some (some (.int 200 tMOST_SITES)))
    (ggcd : PySem.W.nsIn K mainGlobals "gcd" = some (some (.builtin "math.gcd")))
    : ∃ fd : FuncData, (∀ (s : Shared) (v : Value), BindsTo s fd ⟨[v], []⟩ [("_law_script", v)]) ∧ ∀ base : Heap, K.In base → base.Ns mainGlobals mg → FnOk l.prog w K mg base CX0 8 fa fd ["_law_script"] (p_law K) := by
  have e := hfa.symm.trans (PySem.W.mg_of X G aL)
  cases e
  have F_is_integer := fun_mk (st := s_is_integer) l_is_integer c_is_integer k_is_integer
  have b_is_integer := F_is_integer.binds (ps := ["value"]) fun _ _ _ _ _ _ us hl => match us, hl with | [_], _ => rfl
  have g_is_integer := PySem.W.mg_of X G a_is_integer
  have F_sign := fun_mk (st := sSign) l_sign c_sign k_sign
  have b_sign := F_sign.binds (ps := ["number"]) fun _ _ _ _ _ _ us hl => match us, hl with | [_], _ => rfl
  have g_sign := PySem.W.mg_of X G a_sign
  have F_is_place := fun_mk (st := sIsPl) l_is_place c_is_place k_is_place
  have b_is_place := F_is_place.binds (ps := ["value"]) fun _ _ _ _ _ _ us hl => match us, hl with | [_], _ => rfl
  have g_is_place := PySem.W.mg_of X G a_is_place
  have F_is_short := fun_mk (st := s_is_short) l_is_short c_is_short k_is_short
  have b_is_short := F_is_short.binds (ps := ["value"]) fun _ _ _ _ _ _ us hl => match us, hl with | [_], _ => rfl
  have g_is_short := PySem.W.mg_of X G a_is_short
  have F_check_place := fun_mk (st := sCheckP) l_check_place c_check_place k_check_place
  have b_check_place := F_check_place.binds (ps := ["value", "name"]) fun _ _ _ _ _ _ us hl => match us, hl with | [_, _], _ => rfl
  have g_check_place := PySem.W.mg_of X G a_check_place
  have F_check_direction := fun_mk (st := s_check_direction) l_check_direction c_check_direction k_check_direction
  have b_check_direction := F_check_direction.binds (ps := ["value", "name"]) fun _ _ _ _ _ _ us hl => match us, hl with | [_, _], _ => rfl
  have g_check_direction := PySem.W.mg_of X G a_check_direction
  have F_are_sites := fun_mk (st := s_are_sites) l_are_sites c_are_sites k_are_sites
  have b_are_sites := F_are_sites.binds (ps := ["value"]) fun _ _ _ _ _ _ us hl => match us, hl with | [_], _ => rfl
  have g_are_sites := PySem.W.mg_of X G a_are_sites
  have F_ascending := fun_mk (st := s_ascending) l_ascending c_ascending k_ascending
  have b_ascending := F_ascending.binds (ps := ["sites"]) fun _ _ _ _ _ _ us hl => match us, hl with | [_], _ => rfl
  have g_ascending := PySem.W.mg_of X G a_ascending
  have F_turn := fun_mk (st := s_turn) l_turn c_turn k_turn
  have b_turn := F_turn.binds (ps := ["a", "b", "c"]) fun _ _ _ _ _ _ us hl => match us, hl with | [_, _, _], _ => rfl
  have g_turn := PySem.W.mg_of X G a_turn
  have F_turn_to_place := fun_mk (st := s_turn_to_place) l_turn_to_place c_turn_to_place k_turn_to_place
  have b_turn_to_place := F_turn_to_place.binds (ps := ["a", "b", "place"]) fun _ _ _ _ _ _ us hl => match us, hl with | [_, _, _], _ => rfl
  have g_turn_to_place := PySem.W.mg_of X G a_turn_to_place
  have F_is_on_way := fun_mk (st := s_is_on_way) l_is_on_way c_is_on_way k_is_on_way
  have b_is_on_way := F_is_on_way.binds (ps := ["a", "b", "place"]) fun _ _ _ _ _ _ us hl => match us, hl with | [_, _, _], _ => rfl
  have g_is_on_way := PySem.W.mg_of X G a_is_on_way
  have F_is_row := fun_mk (st := s_is_row) l_is_row c_is_row k_is_row
  have b_is_row := F_is_row.binds (ps := ["rows"]) fun _ _ _ _ _ _ us hl => match us, hl with | [_], _ => rfl
  have g_is_row := PySem.W.mg_of X G a_is_row
  have F_chains_of := fun_mk (st := s_chains_of) l_chains_of c_chains_of k_chains_of
  have b_chains_of := F_chains_of.binds (ps := ["rows", "least"]) fun _ _ _ _ _ _ us hl => match us, hl with | [_, _], _ => rfl
  have g_chains_of := PySem.W.mg_of X G a_chains_of
  have F_border_of := fun_mk (st := s_border_of) l_border_of c_border_of k_border_of
  have b_border_of := F_border_of.binds (ps := ["rows"]) fun _ _ _ _ _ _ us hl => match us, hl with | [_], _ => rfl
  have g_border_of := PySem.W.mg_of X G a_border_of
  have F_corners_of := fun_mk (st := s_corners_of) l_corners_of c_corners_of k_corners_of
  have b_corners_of := F_corners_of.binds (ps := ["rows"]) fun _ _ _ _ _ _ us hl => match us, hl with | [_], _ => rfl
  have g_corners_of := PySem.W.mg_of X G a_corners_of
  have F_double_area_of := fun_mk (st := s_double_area_of) l_double_area_of c_double_area_of k_double_area_of
  have b_double_area_of := F_double_area_of.binds (ps := ["corners"]) fun _ _ _ _ _ _ us hl => match us, hl with | [_], _ => rfl
  have g_double_area_of := PySem.W.mg_of X G a_double_area_of
  have F_side_of_hull := fun_mk (st := s_side_of_hull) l_side_of_hull c_side_of_hull k_side_of_hull
  have b_side_of_hull := F_side_of_hull.binds (ps := ["rows", "place"]) fun _ _ _ _ _ _ us hl => match us, hl with | [_, _], _ => rfl
  have g_side_of_hull := PySem.W.mg_of X G a_side_of_hull
  have F_side_of_polygon := fun_mk (st := s_side_of_polygon) l_side_of_polygon c_side_of_polygon k_side_of_polygon
  have b_side_of_polygon := F_side_of_polygon.binds (ps := ["corners", "place"]) fun _ _ _ _ _ _ us hl => match us, hl with | [_, _], _ => rfl
  have g_side_of_polygon := PySem.W.mg_of X G a_side_of_polygon
  have F_hull := fun_mk (st := s_hull) l_hull c_hull k_hull
  have b_hull := F_hull.binds (ps := ["sites"]) fun _ _ _ _ _ _ us hl => match us, hl with | [_], _ => rfl
  have g_hull := PySem.W.mg_of X G a_hull
  have F_border := fun_mk (st := s_border) l_border c_border k_border
  have b_border := F_border.binds (ps := ["sites"]) fun _ _ _ _ _ _ us hl => match us, hl with | [_], _ => rfl
  have g_border := PySem.W.mg_of X G a_border
  have F_double_hull := fun_mk (st := s_double_hull) l_double_hull c_double_hull k_double_hull
  have b_double_hull := F_double_hull.binds (ps := ["sites"]) fun _ _ _ _ _ _ us hl => match us, hl with | [_], _ => rfl
  have g_double_hull := PySem.W.mg_of X G a_double_hull
  have F_where := fun_mk (st := s_where) l_where c_where k_where
  have b_where := F_where.binds (ps := ["sites", "place"]) fun _ _ _ _ _ _ us hl => match us, hl with | [_, _], _ => rfl
  have g_where := PySem.W.mg_of X G a_where
  have F_extreme := fun_mk (st := s_extreme) l_extreme c_extreme k_extreme
  have b_extreme := F_extreme.binds (ps := ["sites", "direction"]) fun _ _ _ _ _ _ us hl => match us, hl with | [_, _], _ => rfl
  have g_extreme := PySem.W.mg_of X G a_extreme
  have F__law_purse := fun_mk (st := s__law_purse) l__law_purse c__law_purse k__law_purse
  have b__law_purse := F__law_purse.binds (ps := ["_law_figure"]) fun _ _ _ _ _ _ us hl => match us, hl with | [_], _ => rfl
  have g__law_purse := PySem.W.mg_of X G a__law_purse
  have F__law_coin := fun_mk (st := s__law_coin) l__law_coin c__law_coin k__law_coin
  have b__law_coin := F__law_coin.binds (ps := ["_law_purse_here", "_law_many"]) fun _ _ _ _ _ _ us hl => match us, hl with | [_, _], _ => rfl
  have g__law_coin := PySem.W.mg_of X G a__law_coin
  have F__law_pick := fun_mk (st := s__law_pick) l__law_pick c__law_pick k__law_pick
  have b__law_pick := F__law_pick.binds (ps := ["_law_purse_here", "_law_some"]) fun _ _ _ _ _ _ us hl => match us, hl with | [_, _], _ => rfl
  have g__law_pick := PySem.W.mg_of X G a__law_pick
  have F__law_ring := fun_mk (st := s__law_ring) l__law_ring c__law_ring k__law_ring
  have b__law_ring := F__law_ring.binds (ps := ["_law_purse_here"]) fun _ _ _ _ _ _ us hl => match us, hl with | [_], _ => rfl
  have g__law_ring := PySem.W.mg_of X G a__law_ring
  have F__law_places := fun_mk (st := s__law_places) l__law_places c__law_places k__law_places
  have b__law_places := F__law_places.binds (ps := ["_law_purse_here"]) fun _ _ _ _ _ _ us hl => match us, hl with | [_], _ => rfl
  have g__law_places := PySem.W.mg_of X G a__law_places
  have F__law_sites := fun_mk (st := s__law_sites) l__law_sites c__law_sites k__law_sites
  have b__law_sites := F__law_sites.binds (ps := ["_law_purse_here", "_law_least_so", "_law_most_so"]) fun _ _ _ _ _ _ us hl => match us, hl with | [_, _, _], _ => rfl
  have g__law_sites := PySem.W.mg_of X G a__law_sites
  have F__law_lean := fun_mk (st := s__law_lean) l__law_lean c__law_lean k__law_lean
  have b__law_lean := F__law_lean.binds (ps := ["_law_a", "_law_b", "_law_c"]) fun _ _ _ _ _ _ us hl => match us, hl with | [_, _, _], _ => rfl
  have g__law_lean := PySem.W.mg_of X G a__law_lean
  have F__law_flat := fun_mk (st := s__law_flat) l__law_flat c__law_flat k__law_flat
  have b__law_flat := F__law_flat.binds (ps := ["_law_sites_so"]) fun _ _ _ _ _ _ us hl => match us, hl with | [_], _ => rfl
  have g__law_flat := PySem.W.mg_of X G a__law_flat
  have F__law_border := fun_mk (st := s__law_border) l__law_border c__law_border k__law_border
  have b__law_border := F__law_border.binds (ps := ["_law_sites_so"]) fun _ _ _ _ _ _ us hl => match us, hl with | [_], _ => rfl
  have g__law_border := PySem.W.mg_of X G a__law_border
  have F__law_common := fun_mk (st := s__law_common) l__law_common c__law_common k__law_common
  have b__law_common := F__law_common.binds (ps := ["_law_first", "_law_last"]) fun _ _ _ _ _ _ us hl => match us, hl with | [_, _], _ => rfl
  have g__law_common := PySem.W.mg_of X G a__law_common
  have F__law_point := fun_mk (st := s__law_point) l__law_point c__law_point k__law_point
  have b__law_point := F__law_point.binds (ps := ["_law_x", "_law_y", "_law_d"]) fun _ _ _ _ _ _ us hl => match us, hl with | [_, _, _], _ => rfl
  have g__law_point := PySem.W.mg_of X G a__law_point
  have F__law_off := fun_mk (st := s__law_off) l__law_off c__law_off k__law_off
  have b__law_off := F__law_off.binds (ps := ["_law_a", "_law_b", "_law_spot"]) fun _ _ _ _ _ _ us hl => match us, hl with | [_, _, _], _ => rfl
  have g__law_off := PySem.W.mg_of X G a__law_off
  have F__law_between := fun_mk (st := s__law_between) l__law_between c__law_between k__law_between
  have b__law_between := F__law_between.binds (ps := ["_law_a", "_law_b", "_law_spot"]) fun _ _ _ _ _ _ us hl => match us, hl with | [_, _, _], _ => rfl
  have g__law_between := PySem.W.mg_of X G a__law_between
  have F__law_some_point := fun_mk (st := s__law_some_point) l__law_some_point c__law_some_point k__law_some_point
  have b__law_some_point := F__law_some_point.binds (ps := ["_law_purse_here", "_law_sites_so"]) fun _ _ _ _ _ _ us hl => match us, hl with | [_, _], _ => rfl
  have g__law_some_point := PySem.W.mg_of X G a__law_some_point
  have F__law_corners := fun_mk (st := s__law_corners) l__law_corners c__law_corners k__law_corners
  have b__law_corners := F__law_corners.binds (ps := ["_law_ring_here"]) fun _ _ _ _ _ _ us hl => match us, hl with | [_], _ => rfl
  have g__law_corners := PySem.W.mg_of X G a__law_corners
  have F__law_where := fun_mk (st := s__law_where) l__law_where c__law_where k__law_where
  have b__law_where := F__law_where.binds (ps := ["_law_ring_here", "_law_spot"]) fun _ _ _ _ _ _ us hl => match us, hl with | [_, _], _ => rfl
  have g__law_where := PySem.W.mg_of X G a__law_where
  have F__law_extreme := fun_mk (st := s__law_extreme) l__law_extreme c__law_extreme k__law_extreme
  have b__law_extreme := F__law_extreme.binds (ps := ["_law_sites_so", "_law_u", "_law_v"]) fun _ _ _ _ _ _ us hl => match us, hl with | [_, _, _], _ => rfl
  have g__law_extreme := PySem.W.mg_of X G a__law_extreme
  have F__law_right := fun_mk (st := s__law_right) l__law_right c__law_right k__law_right
  have b__law_right := F__law_right.binds (ps := ["_law_purse_here"]) fun _ _ _ _ _ _ us hl => match us, hl with | [_], _ => rfl
  have g__law_right := PySem.W.mg_of X G a__law_right
  have FL := fun_mk (st := s_law) lL cL kL
  have mabs := PySem.W.mg_none_of X G zabs
  have mall := PySem.W.mg_none_of X G zall
  have mbool := PySem.W.mg_none_of X G zbool
  have menumerate := PySem.W.mg_none_of X G zenumerate
  have mint := PySem.W.mg_none_of X G zint
  have misinstance := PySem.W.mg_none_of X G zisinstance
  have mlen := PySem.W.mg_none_of X G zlen
  have mlist := PySem.W.mg_none_of X G zlist
  have mmax := PySem.W.mg_none_of X G zmax
  have mmin := PySem.W.mg_none_of X G zmin
  have mrange := PySem.W.mg_none_of X G zrange
  have mset := PySem.W.mg_none_of X G zset
  have msorted := PySem.W.mg_none_of X G zsorted
  have msum := PySem.W.mg_none_of X G zsum
  have mtuple := PySem.W.mg_none_of X G ztuple
  have mzip := PySem.W.mg_none_of X G zzip
  have mMOST_SITES := PySem.W.mg_of X G gMOST_SITES
  have mgcd := PySem.W.mg_of X G ggcd
  refine ⟨PySem.W.fnOf "law" "law" (defArgs s_law) (defBody s_law) (defScope s_law) .none kVL dcL pmL anL cdL ctL, fun s v => .of_eq rfl, fun base _ _ => ?_⟩
  have D_is_integer : Df K mg "is_integer" s_is_integer ["value"] := Df.mk' F_is_integer g_is_integer k_is_integer b_is_integer
  have D_sign : Df K mg "sign" sSign ["number"] := Df.mk' F_sign g_sign k_sign b_sign
  have D_is_place : Df K mg "is_place" sIsPl ["value"] := Df.mk' F_is_place g_is_place k_is_place b_is_place
  have D_is_short : Df K mg "is_short" s_is_short ["value"] := Df.mk' F_is_short g_is_short k_is_short b_is_short
  have D_check_place : Df K mg "check_place" sCheckP ["value", "name"] := Df.mk' F_check_place g_check_place k_check_place b_check_place
  have D_check_direction : Df K mg "check_direction" s_check_direction ["value", "name"] := Df.mk' F_check_direction g_check_direction k_check_direction b_check_direction
  have D_are_sites : Df K mg "are_sites" s_are_sites ["value"] := Df.mk' F_are_sites g_are_sites k_are_sites b_are_sites
  have D_ascending : Df K mg "ascending" s_ascending ["sites"] := Df.mk' F_ascending g_ascending k_ascending b_ascending
  have D_turn : Df K mg "turn" s_turn ["a", "b", "c"] := Df.mk' F_turn g_turn k_turn b_turn
  have D_turn_to_place : Df K mg "turn_to_place" s_turn_to_place ["a", "b", "place"] := Df.mk' F_turn_to_place g_turn_to_place k_turn_to_place b_turn_to_place
  have D_is_on_way : Df K mg "is_on_way" s_is_on_way ["a", "b", "place"] := Df.mk' F_is_on_way g_is_on_way k_is_on_way b_is_on_way
  have D_is_row : Df K mg "is_row" s_is_row ["rows"] := Df.mk' F_is_row g_is_row k_is_row b_is_row
  have D_chains_of : Df K mg "chains_of" s_chains_of ["rows", "least"] := Df.mk' F_chains_of g_chains_of k_chains_of b_chains_of
  have D_border_of : Df K mg "border_of" s_border_of ["rows"] := Df.mk' F_border_of g_border_of k_border_of b_border_of
  have D_corners_of : Df K mg "corners_of" s_corners_of ["rows"] := Df.mk' F_corners_of g_corners_of k_corners_of b_corners_of
  have D_double_area_of : Df K mg "double_area_of" s_double_area_of ["corners"] := Df.mk' F_double_area_of g_double_area_of k_double_area_of b_double_area_of
  have D_side_of_hull : Df K mg "side_of_hull" s_side_of_hull ["rows", "place"] := Df.mk' F_side_of_hull g_side_of_hull k_side_of_hull b_side_of_hull
  have D_side_of_polygon : Df K mg "side_of_polygon" s_side_of_polygon ["corners", "place"] := Df.mk' F_side_of_polygon g_side_of_polygon k_side_of_polygon b_side_of_polygon
  have D_hull : Df K mg "hull" s_hull ["sites"] := Df.mk' F_hull g_hull k_hull b_hull
  have D_border : Df K mg "border" s_border ["sites"] := Df.mk' F_border g_border k_border b_border
  have D_double_hull : Df K mg "double_hull" s_double_hull ["sites"] := Df.mk' F_double_hull g_double_hull k_double_hull b_double_hull
  have D_where : Df K mg "where" s_where ["sites", "place"] := Df.mk' F_where g_where k_where b_where
  have D_extreme : Df K mg "extreme" s_extreme ["sites", "direction"] := Df.mk' F_extreme g_extreme k_extreme b_extreme
  have D__law_purse : Df K mg "_law_purse" s__law_purse ["_law_figure"] := Df.mk' F__law_purse g__law_purse k__law_purse b__law_purse
  have D__law_coin : Df K mg "_law_coin" s__law_coin ["_law_purse_here", "_law_many"] := Df.mk' F__law_coin g__law_coin k__law_coin b__law_coin
  have D__law_pick : Df K mg "_law_pick" s__law_pick ["_law_purse_here", "_law_some"] := Df.mk' F__law_pick g__law_pick k__law_pick b__law_pick
  have D__law_ring : Df K mg "_law_ring" s__law_ring ["_law_purse_here"] := Df.mk' F__law_ring g__law_ring k__law_ring b__law_ring
  have D__law_places : Df K mg "_law_places" s__law_places ["_law_purse_here"] := Df.mk' F__law_places g__law_places k__law_places b__law_places
  have D__law_sites : Df K mg "_law_sites" s__law_sites ["_law_purse_here", "_law_least_so", "_law_most_so"] := Df.mk' F__law_sites g__law_sites k__law_sites b__law_sites
  have D__law_lean : Df K mg "_law_lean" s__law_lean ["_law_a", "_law_b", "_law_c"] := Df.mk' F__law_lean g__law_lean k__law_lean b__law_lean
  have D__law_flat : Df K mg "_law_flat" s__law_flat ["_law_sites_so"] := Df.mk' F__law_flat g__law_flat k__law_flat b__law_flat
  have D__law_border : Df K mg "_law_border" s__law_border ["_law_sites_so"] := Df.mk' F__law_border g__law_border k__law_border b__law_border
  have D__law_common : Df K mg "_law_common" s__law_common ["_law_first", "_law_last"] := Df.mk' F__law_common g__law_common k__law_common b__law_common
  have D__law_point : Df K mg "_law_point" s__law_point ["_law_x", "_law_y", "_law_d"] := Df.mk' F__law_point g__law_point k__law_point b__law_point
  have D__law_off : Df K mg "_law_off" s__law_off ["_law_a", "_law_b", "_law_spot"] := Df.mk' F__law_off g__law_off k__law_off b__law_off
  have D__law_between : Df K mg "_law_between" s__law_between ["_law_a", "_law_b", "_law_spot"] := Df.mk' F__law_between g__law_between k__law_between b__law_between
  have D__law_some_point : Df K mg "_law_some_point" s__law_some_point ["_law_purse_here", "_law_sites_so"] := Df.mk' F__law_some_point g__law_some_point k__law_some_point b__law_some_point
  have D__law_corners : Df K mg "_law_corners" s__law_corners ["_law_ring_here"] := Df.mk' F__law_corners g__law_corners k__law_corners b__law_corners
  have D__law_where : Df K mg "_law_where" s__law_where ["_law_ring_here", "_law_spot"] := Df.mk' F__law_where g__law_where k__law_where b__law_where
  have D__law_extreme : Df K mg "_law_extreme" s__law_extreme ["_law_sites_so", "_law_u", "_law_v"] := Df.mk' F__law_extreme g__law_extreme k__law_extreme b__law_extreme
  have D__law_right : Df K mg "_law_right" s__law_right ["_law_purse_here"] := Df.mk' F__law_right g__law_right k__law_right b__law_right
  have C_sign := D_sign.cl fun f fd F => ok_sign (P := l.prog) (w := w) (mg := mg) (base := base) (k := 1) F
  have C_is_place := D_is_place.cl fun f fd F => ok_ispl (P := l.prog) (w := w) (base := base) (k := 0) F misinstance mtuple mint mlen mgcd
  obtain ⟨fPl, fdPl, GPl, gPl, kPl, bPl⟩ := C_is_place.ex
  have C_check_place := D_check_place.cl fun f fd F => ok_checkp (k := 0) F GPl gPl kPl bPl
  have C_are_sites := ok_are_sites (P := l.prog) (w := w) (K := K) (mg := mg) (base := base) D_are_sites   mint misinstance mlen mlist mset mtuple mMOST_SITES 
  have C_ascending := ok_ascending (P := l.prog) (w := w) (K := K) (mg := mg) (base := base) D_ascending C_are_sites  msorted  
  have C_turn := ok_turn (P := l.prog) (w := w) (K := K) (mg := mg) (base := base) D_turn     
  have C_chains_of := ok_chains_of (P := l.prog) (w := w) (K := K) (mg := mg) (base := base) D_chains_of   mlen  
  have C_border_of := ok_border_of (P := l.prog) (w := w) (K := K) (mg := mg) (base := base) D_border_of C_chains_of  mlen  
  have C_corners_of := ok_corners_of (P := l.prog) (w := w) (K := K) (mg := mg) (base := base) D_corners_of C_chains_of    
  have C_double_area_of := ok_double_area_of (P := l.prog) (w := w) (K := K) (mg := mg) (base := base) D_double_area_of C_turn  msum mzip  
  have C_is_row := ok_is_row (P := l.prog) (w := w) (K := K) (mg := mg) (base := base) D_is_row C_turn  mall  
  have C_turn_to_place := ok_turn_to_place (P := l.prog) (w := w) (K := K) (mg := mg) (base := base) D_turn_to_place     
  have C_is_on_way := ok_is_on_way (P := l.prog) (w := w) (K := K) (mg := mg) (base := base) D_is_on_way C_turn_to_place    
  have C_side_of_polygon := ok_side_of_polygon (P := l.prog) (w := w) (K := K) (mg := mg) (base := base) D_side_of_polygon C_sign C_turn_to_place  mmin mzip  
  have C_side_of_hull := ok_side_of_hull (P := l.prog) (w := w) (K := K) (mg := mg) (base := base) D_side_of_hull C_corners_of C_is_row C_is_on_way C_side_of_polygon    
  have C_hull := D_hull.cl (fun f fd F => ok_hull (P := l.prog) (w := w) (K := K) (mg := mg) (base := base) F C_ascending C_corners_of    )
  have K_hull := D_hull.ck (fun f fd F => ok_hull (P := l.prog) (w := w) (K := K) (mg := mg) (base := base) F C_ascending C_corners_of    ) fun _ _ _ _ _ _ ws hl => match ws, hl with | [_], _ => rfl
  have C_border := D_border.cl (fun f fd F => ok_border (P := l.prog) (w := w) (K := K) (mg := mg) (base := base) F C_ascending C_border_of    )
  have K_border := D_border.ck (fun f fd F => ok_border (P := l.prog) (w := w) (K := K) (mg := mg) (base := base) F C_ascending C_border_of    ) fun _ _ _ _ _ _ ws hl => match ws, hl with | [_], _ => rfl
  have C_double_hull := ok_double_hull (P := l.prog) (w := w) (K := K) (mg := mg) (base := base) D_double_hull C_ascending C_corners_of C_double_area_of    
  have C_where := ok_where (P := l.prog) (w := w) (K := K) (mg := mg) (base := base) D_where C_ascending C_check_place C_side_of_hull    
  have C_is_integer := ok_is_integer (P := l.prog) (w := w) (K := K) (mg := mg) (base := base) D_is_integer   mbool mint misinstance  
  have C_is_short := ok_is_short (P := l.prog) (w := w) (K := K) (mg := mg) (base := base) D_is_short C_is_integer    
  have C_check_direction := ok_check_direction (P := l.prog) (w := w) (K := K) (mg := mg) (base := base) D_check_direction C_is_short  misinstance mlen mtuple  
  have C_extreme := ok_extreme (P := l.prog) (w := w) (K := K) (mg := mg) (base := base) D_extreme C_ascending C_check_direction  mmax  
  have C__law_purse := ok__law_purse (P := l.prog) (w := w) (K := K) (mg := mg) (base := base) D__law_purse   mabs mint  
  have C__law_coin := ok__law_coin (P := l.prog) (w := w) (K := K) (mg := mg) (base := base) D__law_coin   mint  
  have C__law_pick := ok__law_pick (P := l.prog) (w := w) (K := K) (mg := mg) (base := base) D__law_pick C__law_coin  mlen  
  have C__law_ring := ok__law_ring (P := l.prog) (w := w) (K := K) (mg := mg) (base := base) D__law_ring C__law_coin    
  have C__law_places := ok__law_places (P := l.prog) (w := w) (K := K) (mg := mg) (base := base) D__law_places C__law_coin C__law_pick C__law_ring  mint mrange  
  have C__law_sites := ok__law_sites (P := l.prog) (w := w) (K := K) (mg := mg) (base := base) D__law_sites C__law_coin C__law_pick C__law_places  mlen mrange  
  have C__law_lean := ok__law_lean (P := l.prog) (w := w) (K := K) (mg := mg) (base := base) D__law_lean     
  have C__law_flat := ok__law_flat (P := l.prog) (w := w) (K := K) (mg := mg) (base := base) D__law_flat C__law_lean  mmax mmin  
  have C__law_border := ok__law_border (P := l.prog) (w := w) (K := K) (mg := mg) (base := base) D__law_border C__law_lean C__law_flat  mlen mmin mrange msorted  
  have C__law_common := ok__law_common (P := l.prog) (w := w) (K := K) (mg := mg) (base := base) D__law_common   mabs mint  
  have C__law_point := ok__law_point (P := l.prog) (w := w) (K := K) (mg := mg) (base := base) D__law_point C__law_common    
  have C__law_off := ok__law_off (P := l.prog) (w := w) (K := K) (mg := mg) (base := base) D__law_off     
  have C__law_between := ok__law_between (P := l.prog) (w := w) (K := K) (mg := mg) (base := base) D__law_between C__law_off    
  have C__law_some_point := ok__law_some_point (P := l.prog) (w := w) (K := K) (mg := mg) (base := base) D__law_some_point C__law_coin C__law_pick C__law_point  mrange  
  have C__law_corners := ok__law_corners (P := l.prog) (w := w) (K := K) (mg := mg) (base := base) D__law_corners C__law_lean C__law_flat  menumerate mlen mlist  
  have C__law_where := ok__law_where (P := l.prog) (w := w) (K := K) (mg := mg) (base := base) D__law_where C__law_lean C__law_off C__law_between  mlen mmin mrange mzip  
  have C__law_extreme := ok__law_extreme (P := l.prog) (w := w) (K := K) (mg := mg) (base := base) D__law_extreme   mmax msorted  
  have C__law_right := ok__law_right (P := l.prog) (w := w) (K := K) (mg := mg) (base := base) D__law_right C_hull C_border C_double_hull C_where C_extreme C__law_coin C__law_pick C__law_sites C__law_lean C__law_flat C__law_border C__law_some_point C__law_corners C__law_where C__law_extreme K_border K_hull mlen mlist mrange msorted msum  
  exact ok_law (P := l.prog) (w := w) (base := base) FL C__law_purse C__law_right  mrange  
end NcK
open PySem PySem.W PyProof.Rows
set_option maxHeartbeats 0 in
theorem PySem.Challenge.cw_nearcells_k06_whole_hulls_and_what_is_in_holds : PySem.Challenge.rw_nearcells_k06_whole_hulls_and_what_is_in.Holds := by
  w_on; o_law; k_head; (case hw => w_witness2)
  k_fill
  refine L2.walk_of (l := PySem.Challenge.rw_nearcells_k06_whole_hulls_and_what_is_in) (n := 63) (k := 8) (x := "_law_script") (CX := fun _ => L2.CX0) (sp := fun w => NcK.p_law _) rfl (by decide) rfl ⟨rfl, by decide, by decide⟩ (fun w h Y => PySem.W.kIn_of Y) ?F (fun _ _ a ns hl _ hS => ⟨a, ns, rfl, hS, hl, fun _ => rfl⟩) (fun _ _ _ _ _ h => h)
  case F =>
    intro w mg fa h KX G hmg
    refine' NcK.all_mk KX G hmg ?a_is_integer ?l_is_integer ?c_is_integer ?k_is_integer ?a_sign ?l_sign ?c_sign ?k_sign ?a_is_place ?l_is_place ?c_is_place ?k_is_place ?a_is_short ?l_is_short ?c_is_short ?k_is_short ?a_check_place ?l_check_place ?c_check_place ?k_check_place ?a_check_direction ?l_check_direction ?c_check_direction ?k_check_direction ?a_are_sites ?l_are_sites ?c_are_sites ?k_are_sites ?a_ascending ?l_ascending ?c_ascending ?k_ascending ?a_turn ?l_turn ?c_turn ?k_turn ?a_turn_to_place ?l_turn_to_place ?c_turn_to_place ?k_turn_to_place ?a_is_on_way ?l_is_on_way ?c_is_on_way ?k_is_on_way ?a_is_row ?l_is_row ?c_is_row ?k_is_row ?a_chains_of ?l_chains_of ?c_chains_of ?k_chains_of ?a_border_of ?l_border_of ?c_border_of ?k_border_of ?a_corners_of ?l_corners_of ?c_corners_of ?k_corners_of ?a_double_area_of ?l_double_area_of ?c_double_area_of ?k_double_area_of ?a_side_of_hull ?l_side_of_hull ?c_side_of_hull ?k_side_of_hull ?a_side_of_polygon ?l_side_of_polygon ?c_side_of_polygon ?k_side_of_polygon ?a_hull ?l_hull ?c_hull ?k_hull ?a_border ?l_border ?c_border ?k_border ?a_double_hull ?l_double_hull ?c_double_hull ?k_double_hull ?a_where ?l_where ?c_where ?k_where ?a_extreme ?l_extreme ?c_extreme ?k_extreme ?a__law_purse ?l__law_purse ?c__law_purse ?k__law_purse ?a__law_coin ?l__law_coin ?c__law_coin ?k__law_coin ?a__law_pick ?l__law_pick ?c__law_pick ?k__law_pick ?a__law_ring ?l__law_ring ?c__law_ring ?k__law_ring ?a__law_places ?l__law_places ?c__law_places ?k__law_places ?a__law_sites ?l__law_sites ?c__law_sites ?k__law_sites ?a__law_lean ?l__law_lean ?c__law_lean ?k__law_lean ?a__law_flat ?l__law_flat ?c__law_flat ?k__law_flat ?a__law_border ?l__law_border ?c__law_border ?k__law_border ?a__law_common ?l__law_common ?c__law_common ?k__law_common ?a__law_point ?l__law_point ?c__law_point ?k__law_point ?a__law_off ?l__law_off ?c__law_off ?k__law_off ?a__law_between ?l__law_between ?c__law_between ?k__law_between ?a__law_some_point ?l__law_some_point ?c__law_some_point ?k__law_some_point ?a__law_corners ?l__law_corners ?c__law_corners ?k__law_corners ?a__law_where ?l__law_where ?c__law_where ?k__law_where ?a__law_extreme ?l__law_extreme ?c__law_extreme ?k__law_extreme ?a__law_right ?l__law_right ?c__law_right ?k__law_right ?aL ?lL ?cL ?kL ?zabs ?zall ?zbool ?zenumerate ?zint ?zisinstance ?zlen ?zlist ?zmax ?zmin ?zrange ?zset ?zsorted ?zsum ?ztuple ?zzip ?gMOST_SITES ?ggcd
    (case a_is_integer => k_is); (case l_is_integer => k_is); (case c_is_integer => k_is); (case k_is_integer => k_is); (case a_sign => k_is); (case l_sign => k_is); (case c_sign => k_is); (case k_sign => k_is); (case a_is_place => k_is); (case l_is_place => k_is); (case c_is_place => k_is); (case k_is_place => k_is); (case a_is_short => k_is); (case l_is_short => k_is); (case c_is_short => k_is); (case k_is_short => k_is); (case a_check_place => k_is); (case l_check_place => k_is); (case c_check_place => k_is); (case k_check_place => k_is); (case a_check_direction => k_is); (case l_check_direction => k_is); (case c_check_direction => k_is); (case k_check_direction => k_is); (case a_are_sites => k_is); (case l_are_sites => k_is); (case c_are_sites => k_is); (case k_are_sites => k_is); (case a_ascending => k_is); (case l_ascending => k_is); (case c_ascending => k_is); (case k_ascending => k_is); (case a_turn => k_is); (case l_turn => k_is); (case c_turn => k_is); (case k_turn => k_is); (case a_turn_to_place => k_is); (case l_turn_to_place => k_is); (case c_turn_to_place => k_is); (case k_turn_to_place => k_is); (case a_is_on_way => k_is); (case l_is_on_way => k_is); (case c_is_on_way => k_is); (case k_is_on_way => k_is); (case a_is_row => k_is); (case l_is_row => k_is); (case c_is_row => k_is); (case k_is_row => k_is); (case a_chains_of => k_is); (case l_chains_of => k_is); (case c_chains_of => k_is); (case k_chains_of => k_is); (case a_border_of => k_is); (case l_border_of => k_is); (case c_border_of => k_is); (case k_border_of => k_is); (case a_corners_of => k_is); (case l_corners_of => k_is); (case c_corners_of => k_is); (case k_corners_of => k_is); (case a_double_area_of => k_is); (case l_double_area_of => k_is); (case c_double_area_of => k_is); (case k_double_area_of => k_is); (case a_side_of_hull => k_is); (case l_side_of_hull => k_is); (case c_side_of_hull => k_is); (case k_side_of_hull => k_is); (case a_side_of_polygon => k_is); (case l_side_of_polygon => k_is); (case c_side_of_polygon => k_is); (case k_side_of_polygon => k_is); (case a_hull => k_is); (case l_hull => k_is); (case c_hull => k_is); (case k_hull => k_is); (case a_border => k_is); (case l_border => k_is); (case c_border => k_is); (case k_border => k_is); (case a_double_hull => k_is); (case l_double_hull => k_is); (case c_double_hull => k_is); (case k_double_hull => k_is); (case a_where => k_is); (case l_where => k_is); (case c_where => k_is); (case k_where => k_is); (case a_extreme => k_is); (case l_extreme => k_is); (case c_extreme => k_is); (case k_extreme => k_is); (case a__law_purse => k_is); (case l__law_purse => k_is); (case c__law_purse => k_is); (case k__law_purse => k_is); (case a__law_coin => k_is); (case l__law_coin => k_is); (case c__law_coin => k_is); (case k__law_coin => k_is); (case a__law_pick => k_is); (case l__law_pick => k_is); (case c__law_pick => k_is); (case k__law_pick => k_is); (case a__law_ring => k_is); (case l__law_ring => k_is); (case c__law_ring => k_is); (case k__law_ring => k_is); (case a__law_places => k_is); (case l__law_places => k_is); (case c__law_places => k_is); (case k__law_places => k_is); (case a__law_sites => k_is); (case l__law_sites => k_is); (case c__law_sites => k_is); (case k__law_sites => k_is); (case a__law_lean => k_is); (case l__law_lean => k_is); (case c__law_lean => k_is); (case k__law_lean => k_is); (case a__law_flat => k_is); (case l__law_flat => k_is); (case c__law_flat => k_is); (case k__law_flat => k_is); (case a__law_border => k_is); (case l__law_border => k_is); (case c__law_border => k_is); (case k__law_border => k_is); (case a__law_common => k_is); (case l__law_common => k_is); (case c__law_common => k_is); (case k__law_common => k_is); (case a__law_point => k_is); (case l__law_point => k_is); (case c__law_point => k_is); (case k__law_point => k_is); (case a__law_off => k_is); (case l__law_off => k_is); (case c__law_off => k_is); (case k__law_off => k_is); (case a__law_between => k_is); (case l__law_between => k_is); (case c__law_between => k_is); (case k__law_between => k_is); (case a__law_some_point => k_is); (case l__law_some_point => k_is); (case c__law_some_point => k_is); (case k__law_some_point => k_is); (case a__law_corners => k_is); (case l__law_corners => k_is); (case c__law_corners => k_is); (case k__law_corners => k_is); (case a__law_where => k_is); (case l__law_where => k_is); (case c__law_where => k_is); (case k__law_where => k_is); (case a__law_extreme => k_is); (case l__law_extreme => k_is); (case c__law_extreme => k_is); (case k__law_extreme => k_is); (case a__law_right => k_is); (case l__law_right => k_is); (case c__law_right => k_is); (case k__law_right => k_is); (case aL => k_is); (case lL => k_is); (case cL => k_is); (case kL => k_is); (case zabs => k_is); (case zall => k_is); (case zbool => k_is); (case zenumerate => k_is); (case zint => k_is); (case zisinstance => k_is); (case zlen => k_is); (case zlist => k_is); (case zmax => k_is); (case zmin => k_is); (case zrange => k_is); (case zset => k_is); (case zsorted => k_is); (case zsum => k_is); (case ztuple => k_is); (case zzip => k_is); (case gMOST_SITES => k_is); (case ggcd => k_is)
