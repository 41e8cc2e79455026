import PyProof.Rows.All
import Wide.All
import OpenK.AllK
import Wide.FinOn
import HandS.ForMost
import HandS.TupLe
import HandS.IsInst
import HandS.Wide
import HandS.Walk
import HandS.Gcd
import HandS.Codes
import HandS.Style
import KE.KMathG
import HandS.Exc
import HandS.ExcOwn
import HandS.ExcInit
import HandS.WordsExc
import HandS.TryMany
import HandS.ExcIs
import HandS.Lambda
import HandS.EndTab
import KE.KNestM
import KE.KLam
import PySem.Challenge.RW_nearcells_k02_circles_of_sites
set_option Elab.async false
set_option linter.all false
set_option maxRecDepth 100000
set_option maxHeartbeats 4000000
/-! Own rules: min and max of two things that are compared by the heap (pairs); a call by keywords alone. -/
namespace Nc
open PySem PySem.Spec PyProof.Rows L2
section
variable {prog : Program} {w : World} {A : Around} {E : Value → Shared → Prop} {s : Shared} {va vb : Value} {k : Bool}
/-- all that stood before stands -/
abbrev KeepH (h h' : Heap) : Prop := ∀ c o, h.get? c = some o → h'.get? c = some o


/-- the loop of min behind its first item: best so far vx (twice at S), one more item vy to come, or none -/
theorem min_round {R : Result → Shared → Prop} {I S T : Addr} {vx vy : Value} {its : Array Value} {b : Bool} {c i : Nat} {s : Shared} (hh : A.handled = none) (hIT : T ≠ I) (hIS : S ≠ I) (hST : S ≠ T)
    (hit : s.heap.IsTupleIter I T i ∧ s.heap.IsTuple T its) (hy : its[i]? = some vy) (hend : its.size = i + 1) (hS : s.heap.get? S = some { cls := .type "list", dict := none, data := .seq #[vx, vx] c, slots := #[] })
    (hc : ∀ h' tk, (∀ b o, b ≠ I → s.heap.get? b = some o → h'.get? b = some o) → Ob.RcOp .Lt A.in1 { s with heap := h', toks := tk } vy vx b)
    (hR : ∀ h' tk, (∀ b o, b ≠ I → b ≠ S → s.heap.get? b = some o → h'.get? b = some o) → R (.ok (.ret (if b = true then vy else vx))) { s with heap := h', toks := tk }) :
    codeAny (model prog w) A (.builtin "min.loop" ⟨[.ref I, .none, .ref S], []⟩) R s := by
  have nm : (toString "min" ++ toString ".loop" : String) = "min.loop" := by decide
  have W := Walks.tuple (prog := prog) (w := w) (A := A.in1) hh I T hIT its
  -- no item is left: vz is handed back
  have last : ∀ (vz : Value) (c' : Nat) (s1 : Shared), s1.heap.IsTupleIter I T (i + 1) ∧ s1.heap.IsTuple T its → s1.heap.get? S = some { cls := .type "list", dict := none, data := .seq #[vz, vz] c', slots := #[] } →
      (∀ h' tk, (∀ b o, b ≠ I → b ≠ S → s1.heap.get? b = some o → h'.get? b = some o) → R (.ok (.ret vz)) { s1 with heap := h', toks := tk }) → codeAny (model prog w) A (.builtin "min.loop" ⟨[.ref I, .none, .ref S], []⟩) R s1 := by
    intro vz c' s1 st1 g1 r1
    obtain ⟨hp, gg, dd, tt, os⟩ := s1
    refine codeAny_builtin PySem.F.entry_min_loop ?_
    rw [Around.under_plainId PySem.F.plain_min_loop _]
    refine wpAny_bind (wpAny_seqItems g1 rfl (wpAny_bind (wpAny_tryCatch (W.done _ _ _ (hend ▸ st1) fun hq tk hk => ?_))))
    have g2 := hk S _ (fun z => hIS (List.mem_singleton.mp z)) g1
    refine wpAny_bind (wpAny_updateSeq g2 rfl (wpAny_bind (wpAny_letGo (wpAny_pure ?_))))
    exact r1 _ tk fun d o n1 n2 e => (Heap.get?_update_other _ _ (Ne.symm n2)).trans (hk d o (fun z => n1 (List.mem_singleton.mp z)) e)
  obtain ⟨hp, gg, dd, tt, os⟩ := s
  refine codeAny_builtin PySem.F.entry_min_loop ?_
  rw [Around.under_plainId PySem.F.plain_min_loop _]
  refine wpAny_bind (wpAny_seqItems hS rfl (wpAny_bind (wpAny_tryCatch (W.item i _ _ _ (by omega) hit fun v hq tk hP st hk => ?_))))
  have ev : v = vy := Option.some.inj ((show its[i]? = some v from hP).symm.trans hy)
  subst ev
  have kk : ∀ d o, d ≠ I → hp.get? d = some o → hq.get? d = some o := fun d o n e => hk d o (fun z => n (List.mem_singleton.mp z)) e
  have g2 := kk S _ hIS hS
  refine wpAny_bind (wpAny_pure ?_)
  show wpAny _ _ (tryCatch (holding [v, v] (richCompare _ v vx >>= _)) _ >>= _) _ _ _
  refine wpAny_bind (wpAny_tryCatch (wpAny_holding (wpAny_bind ((hc hq tk kk) prog w _ _ ?_))))
  refine wpAny_bind (wpAny_holding (wpAny_truthy_bool (wpAny_bind (wpAny_letGo (wpAny_pure ?_)))))
  cases b with
  | true =>
    simp only [if_true]
    refine wpAny_bind (wpAny_updateSeq g2 rfl (wpAny_bind (wpAny_letGo ?_)))
    rw [nm]
    have fr : ∀ d o, d ≠ S → hq.get? d = some o → (hq.update S fun o => { o with data := .seq #[v, v] (c + 1) }).get? d = some o := fun d o n e => (Heap.get?_update_other _ _ (Ne.symm n)).trans e
    refine wpAny_pure ⟨plainId_quiet PySem.F.plain_min_loop _, last v _ _ (W.frame _ _ _ st fun d hd o e => ?_) (Heap.get?_update_self _ g2 rfl) fun h' tk' hk' => ?_⟩
    · refine (Heap.get?_update_other _ _ ?_).trans e
      intro z
      rcases List.mem_cons.mp hd with q | q
      · exact hIS (z.trans q)
      · exact hST (z.trans (List.mem_singleton.mp q))
    · exact hR h' tk' fun d o n1 n2 e => hk' d o n1 n2 ((Heap.get?_update_other _ _ (Ne.symm n2)).trans (kk d o n1 e))
  | false =>
    simp only [Bool.false_eq_true, if_false]
    refine wpAny_bind (wpAny_letGo ?_)
    rw [nm]
    refine wpAny_pure ⟨plainId_quiet PySem.F.plain_min_loop _, last vx _ _ st g2 fun h' tk' hk' => ?_⟩
    exact hR h' tk' fun d o n1 n2 e => hk' d o n1 n2 (kk d o n1 e)

theorem min2_by {Q : Value → Shared → Prop} (hh : A.handled = none)
    (hc : ∀ h' tk, KeepH s.heap h' → Ob.RcOp .Lt A.in1 { s with heap := h', toks := tk } vb va k)
    (hq : ∀ h' tk, KeepH s.heap h' → Q (if k = true then vb else va) { s with heap := h', toks := tk }) :
    wpAny (model prog w) A (call (.builtin "min") [va, vb]) Q E s := by
  have nm : (toString "min" ++ toString ".loop" : String) = "min.loop" := by decide
  obtain ⟨hp, gg, dd, tt, os⟩ := s
  refine call_function_tree PySem.F.kind_min PySem.F.plain_min PySem.F.entry_min (PySem.F.args_min2 _ _) ?_
  refine wpAny_bind (wpAny_of_eq (show Builtin.Builtins.bindParams "min" ["key", "default"] 0 ⟨[], []⟩ = pure [none, none] from rfl) ?_)
  show wpAny _ A.in1 (newTuple [va, vb] >>= _) _ _ _
  have hT : (hp.push { cls := .type "tuple", data := .seq #[va, vb] }).IsTuple hp.objs.size #[va, vb] := ⟨_, Heap.get?_push_size _ rfl, rfl, 0, rfl⟩
  have z1 : (hp.push { cls := .type "tuple", data := .seq #[va, vb] }).objs.size = hp.objs.size + 1 := Heap.size_push ..
  have k1 : KeepH hp (hp.push { cls := .type "tuple", data := .seq #[va, vb] }) := fun c o e => Heap.get?_push_of_some _ e
  refine wpAny_bind (wpAny_newObj_type (wpAny_bind (wpAny_pyIter_tuple hT (wpAny_bind (wpAny_newObj_type ?_)))))
  generalize hp.push { cls := .type "tuple", data := .seq #[va, vb] } = h1 at *
  generalize eT : hp.objs.size = T at *
  generalize eI : h1.objs.size = I at *
  have gI : (h1.push { cls := .type "tuple_iterator", data := .fields #[.ref T, .int 0 0] }).get? I = some { cls := .type "tuple_iterator", data := .fields #[.ref T, .int 0 0] } := by
    rw [← eI]
    exact Heap.get?_push_size _ rfl
  have k2 : KeepH h1 (h1.push { cls := .type "tuple_iterator", data := .fields #[.ref T, .int 0 0] }) := fun c o e => Heap.get?_push_of_some _ e
  have z2 : (h1.push { cls := .type "tuple_iterator", data := .fields #[.ref T, .int 0 0] }).objs.size = I + 1 := by
    rw [← eI]
    exact Heap.size_push ..
  have hIT : T ≠ I := by omega
  obtain ⟨oT, gT, cT, nT, dT⟩ := hT
  generalize h1.push { cls := .type "tuple_iterator", data := .fields #[.ref T, .int 0 0] } = h2 at *
  have gS : (h2.push { cls := .type "list", data := .seq #[] }).get? h2.objs.size = some { cls := .type "list", data := .seq #[] } := Heap.get?_push_size _ rfl
  have k3 : KeepH h2 (h2.push { cls := .type "list", data := .seq #[] }) := fun c o e => Heap.get?_push_of_some _ e
  show wpAny _ _ (pure (Fin.again (Code.builtin (toString "min" ++ toString ".loop") ⟨[.ref I, .none, .ref h2.objs.size], []⟩))) _ _ ⟨h2.push { cls := .type "list", data := .seq #[] }, gg, dd, tt, os⟩
  rw [nm]
  generalize eS : h2.objs.size = S at *
  generalize h2.push { cls := .type "list", data := .seq #[] } = h3 at *
  have hIS : S ≠ I := by
    omega
  have hST : S ≠ T := by omega
  have W := Walks.tuple (prog := prog) (w := w) (A := A.in1) hh I T hIT #[va, vb]
  refine wpAny_pure ⟨plainId_quiet PySem.F.plain_min_loop _, ?_⟩
  refine codeAny_builtin PySem.F.entry_min_loop ?_
  rw [Around.under_plainId PySem.F.plain_min_loop _]
  have st0 : h3.IsTupleIter I T 0 ∧ h3.IsTuple T #[va, vb] := ⟨⟨_, k3 _ _ gI, rfl, rfl⟩, ⟨oT, k3 _ _ (k2 _ _ gT), cT, nT, dT⟩⟩
  refine wpAny_bind (wpAny_seqItems gS rfl (wpAny_bind (wpAny_tryCatch (W.item 0 ⟨h3, gg, dd, tt, os⟩ _ _ (by show 0 < 2; decide) st0 fun v hq' tk hP st hk => ?_))))
  have ev : v = va := (Option.some.inj (show some va = some v from hP)).symm
  subst ev
  refine wpAny_bind (wpAny_pure ?_)
  have kk : ∀ d o, d ≠ I → h3.get? d = some o → hq'.get? d = some o := fun d o n e => hk d o (fun z => n (List.mem_singleton.mp z)) e
  have g2 := kk S _ hIS gS
  show wpAny _ _ (updateSeq S (fun _ => #[v, v]) >>= _) _ _ _
  refine wpAny_bind (wpAny_updateSeq g2 rfl ?_)
  rw [nm]
  have all : ∀ d o, hp.get? d = some o → d ≠ I ∧ d ≠ S ∧ hq'.get? d = some o := fun d o e => by
    have l : d < T := eT ▸ Heap.lt_size e
    have lI : T < I := by omega
    have lS : T < S := by omega
    have n1 : d ≠ I := Nat.ne_of_lt (Nat.lt_trans l lI)
    exact ⟨n1, Nat.ne_of_lt (Nat.lt_trans l lS), kk d o n1 (k3 _ _ (k2 _ _ (k1 _ _ e)))⟩
  refine wpAny_pure ⟨plainId_quiet PySem.F.plain_min_loop _, min_round (i := 1) (its := #[v, vb]) (vy := vb) (vx := v) (T := T) (b := k) hh hIT hIS hST ?_ rfl rfl (Heap.get?_update_self _ g2 rfl) (fun h' tk' kp => ?_) fun h' tk' kp => ?_⟩
  · refine W.frame _ _ _ st fun d hd o e => (Heap.get?_update_other _ _ ?_).trans e
    intro z
    rcases List.mem_cons.mp hd with q | q
    · exact hIS (z.trans q)
    · exact hST (z.trans (List.mem_singleton.mp q))
  · refine hc h' tk' fun d o e => ?_
    obtain ⟨n1, n2, e2⟩ := all d o e
    exact kp d o n1 ((Heap.get?_update_other _ _ (Ne.symm n2)).trans e2)
  · refine hq h' tk' fun d o e => ?_
    obtain ⟨n1, n2, e2⟩ := all d o e
    exact kp d o n1 n2 ((Heap.get?_update_other _ _ (Ne.symm n2)).trans e2)


/-- the loop of max behind its first item: best so far vx (twice at S), one more item vy to come, or none -/
theorem max_round {R : Result → Shared → Prop} {I S T : Addr} {vx vy : Value} {its : Array Value} {b : Bool} {c i : Nat} {s : Shared} (hh : A.handled = none) (hIT : T ≠ I) (hIS : S ≠ I) (hST : S ≠ T)
    (hit : s.heap.IsTupleIter I T i ∧ s.heap.IsTuple T its) (hy : its[i]? = some vy) (hend : its.size = i + 1) (hS : s.heap.get? S = some { cls := .type "list", dict := none, data := .seq #[vx, vx] c, slots := #[] })
    (hc : ∀ h' tk, (∀ b o, b ≠ I → s.heap.get? b = some o → h'.get? b = some o) → Ob.RcOp .Gt A.in1 { s with heap := h', toks := tk } vy vx b)
    (hR : ∀ h' tk, (∀ b o, b ≠ I → b ≠ S → s.heap.get? b = some o → h'.get? b = some o) → R (.ok (.ret (if b = true then vy else vx))) { s with heap := h', toks := tk }) :
    codeAny (model prog w) A (.builtin "max.loop" ⟨[.ref I, .none, .ref S], []⟩) R s := by
  have nm : (toString "max" ++ toString ".loop" : String) = "max.loop" := by decide
  have W := Walks.tuple (prog := prog) (w := w) (A := A.in1) hh I T hIT its
  -- no item is left: vz is handed back
  have last : ∀ (vz : Value) (c' : Nat) (s1 : Shared), s1.heap.IsTupleIter I T (i + 1) ∧ s1.heap.IsTuple T its → s1.heap.get? S = some { cls := .type "list", dict := none, data := .seq #[vz, vz] c', slots := #[] } →
      (∀ h' tk, (∀ b o, b ≠ I → b ≠ S → s1.heap.get? b = some o → h'.get? b = some o) → R (.ok (.ret vz)) { s1 with heap := h', toks := tk }) → codeAny (model prog w) A (.builtin "max.loop" ⟨[.ref I, .none, .ref S], []⟩) R s1 := by
    intro vz c' s1 st1 g1 r1
    obtain ⟨hp, gg, dd, tt, os⟩ := s1
    refine codeAny_builtin PySem.F.entry_max_loop ?_
    rw [Around.under_plainId PySem.F.plain_max_loop _]
    refine wpAny_bind (wpAny_seqItems g1 rfl (wpAny_bind (wpAny_tryCatch (W.done _ _ _ (hend ▸ st1) fun hq tk hk => ?_))))
    have g2 := hk S _ (fun z => hIS (List.mem_singleton.mp z)) g1
    refine wpAny_bind (wpAny_updateSeq g2 rfl (wpAny_bind (wpAny_letGo (wpAny_pure ?_))))
    exact r1 _ tk fun d o n1 n2 e => (Heap.get?_update_other _ _ (Ne.symm n2)).trans (hk d o (fun z => n1 (List.mem_singleton.mp z)) e)
  obtain ⟨hp, gg, dd, tt, os⟩ := s
  refine codeAny_builtin PySem.F.entry_max_loop ?_
  rw [Around.under_plainId PySem.F.plain_max_loop _]
  refine wpAny_bind (wpAny_seqItems hS rfl (wpAny_bind (wpAny_tryCatch (W.item i _ _ _ (by omega) hit fun v hq tk hP st hk => ?_))))
  have ev : v = vy := Option.some.inj ((show its[i]? = some v from hP).symm.trans hy)
  subst ev
  have kk : ∀ d o, d ≠ I → hp.get? d = some o → hq.get? d = some o := fun d o n e => hk d o (fun z => n (List.mem_singleton.mp z)) e
  have g2 := kk S _ hIS hS
  refine wpAny_bind (wpAny_pure ?_)
  show wpAny _ _ (tryCatch (holding [v, v] (richCompare _ v vx >>= _)) _ >>= _) _ _ _
  refine wpAny_bind (wpAny_tryCatch (wpAny_holding (wpAny_bind ((hc hq tk kk) prog w _ _ ?_))))
  refine wpAny_bind (wpAny_holding (wpAny_truthy_bool (wpAny_bind (wpAny_letGo (wpAny_pure ?_)))))
  cases b with
  | true =>
    simp only [if_true]
    refine wpAny_bind (wpAny_updateSeq g2 rfl (wpAny_bind (wpAny_letGo ?_)))
    rw [nm]
    have fr : ∀ d o, d ≠ S → hq.get? d = some o → (hq.update S fun o => { o with data := .seq #[v, v] (c + 1) }).get? d = some o := fun d o n e => (Heap.get?_update_other _ _ (Ne.symm n)).trans e
    refine wpAny_pure ⟨plainId_quiet PySem.F.plain_max_loop _, last v _ _ (W.frame _ _ _ st fun d hd o e => ?_) (Heap.get?_update_self _ g2 rfl) fun h' tk' hk' => ?_⟩
    · refine (Heap.get?_update_other _ _ ?_).trans e
      intro z
      rcases List.mem_cons.mp hd with q | q
      · exact hIS (z.trans q)
      · exact hST (z.trans (List.mem_singleton.mp q))
    · exact hR h' tk' fun d o n1 n2 e => hk' d o n1 n2 ((Heap.get?_update_other _ _ (Ne.symm n2)).trans (kk d o n1 e))
  | false =>
    simp only [Bool.false_eq_true, if_false]
    refine wpAny_bind (wpAny_letGo ?_)
    rw [nm]
    refine wpAny_pure ⟨plainId_quiet PySem.F.plain_max_loop _, last vx _ _ st g2 fun h' tk' hk' => ?_⟩
    exact hR h' tk' fun d o n1 n2 e => hk' d o n1 n2 (kk d o n1 e)

theorem max2_by {Q : Value → Shared → Prop} (hh : A.handled = none)
    (hc : ∀ h' tk, KeepH s.heap h' → Ob.RcOp .Gt A.in1 { s with heap := h', toks := tk } vb va k)
    (hq : ∀ h' tk, KeepH s.heap h' → Q (if k = true then vb else va) { s with heap := h', toks := tk }) :
    wpAny (model prog w) A (call (.builtin "max") [va, vb]) Q E s := by
  have nm : (toString "max" ++ toString ".loop" : String) = "max.loop" := by decide
  obtain ⟨hp, gg, dd, tt, os⟩ := s
  refine call_function_tree PySem.F.kind_max PySem.F.plain_max PySem.F.entry_max (PySem.F.args_max2 _ _) ?_
  refine wpAny_bind (wpAny_of_eq (show Builtin.Builtins.bindParams "max" ["key", "default"] 0 ⟨[], []⟩ = pure [none, none] from rfl) ?_)
  show wpAny _ A.in1 (newTuple [va, vb] >>= _) _ _ _
  have hT : (hp.push { cls := .type "tuple", data := .seq #[va, vb] }).IsTuple hp.objs.size #[va, vb] := ⟨_, Heap.get?_push_size _ rfl, rfl, 0, rfl⟩
  have z1 : (hp.push { cls := .type "tuple", data := .seq #[va, vb] }).objs.size = hp.objs.size + 1 := Heap.size_push ..
  have k1 : KeepH hp (hp.push { cls := .type "tuple", data := .seq #[va, vb] }) := fun c o e => Heap.get?_push_of_some _ e
  refine wpAny_bind (wpAny_newObj_type (wpAny_bind (wpAny_pyIter_tuple hT (wpAny_bind (wpAny_newObj_type ?_)))))
  generalize hp.push { cls := .type "tuple", data := .seq #[va, vb] } = h1 at *
  generalize eT : hp.objs.size = T at *
  generalize eI : h1.objs.size = I at *
  have gI : (h1.push { cls := .type "tuple_iterator", data := .fields #[.ref T, .int 0 0] }).get? I = some { cls := .type "tuple_iterator", data := .fields #[.ref T, .int 0 0] } := by
    rw [← eI]
    exact Heap.get?_push_size _ rfl
  have k2 : KeepH h1 (h1.push { cls := .type "tuple_iterator", data := .fields #[.ref T, .int 0 0] }) := fun c o e => Heap.get?_push_of_some _ e
  have z2 : (h1.push { cls := .type "tuple_iterator", data := .fields #[.ref T, .int 0 0] }).objs.size = I + 1 := by
    rw [← eI]
    exact Heap.size_push ..
  have hIT : T ≠ I := by omega
  obtain ⟨oT, gT, cT, nT, dT⟩ := hT
  generalize h1.push { cls := .type "tuple_iterator", data := .fields #[.ref T, .int 0 0] } = h2 at *
  have gS : (h2.push { cls := .type "list", data := .seq #[] }).get? h2.objs.size = some { cls := .type "list", data := .seq #[] } := Heap.get?_push_size _ rfl
  have k3 : KeepH h2 (h2.push { cls := .type "list", data := .seq #[] }) := fun c o e => Heap.get?_push_of_some _ e
  show wpAny _ _ (pure (Fin.again (Code.builtin (toString "max" ++ toString ".loop") ⟨[.ref I, .none, .ref h2.objs.size], []⟩))) _ _ ⟨h2.push { cls := .type "list", data := .seq #[] }, gg, dd, tt, os⟩
  rw [nm]
  generalize eS : h2.objs.size = S at *
  generalize h2.push { cls := .type "list", data := .seq #[] } = h3 at *
  have hIS : S ≠ I := by
    omega
  have hST : S ≠ T := by omega
  have W := Walks.tuple (prog := prog) (w := w) (A := A.in1) hh I T hIT #[va, vb]
  refine wpAny_pure ⟨plainId_quiet PySem.F.plain_max_loop _, ?_⟩
  refine codeAny_builtin PySem.F.entry_max_loop ?_
  rw [Around.under_plainId PySem.F.plain_max_loop _]
  have st0 : h3.IsTupleIter I T 0 ∧ h3.IsTuple T #[va, vb] := ⟨⟨_, k3 _ _ gI, rfl, rfl⟩, ⟨oT, k3 _ _ (k2 _ _ gT), cT, nT, dT⟩⟩
  refine wpAny_bind (wpAny_seqItems gS rfl (wpAny_bind (wpAny_tryCatch (W.item 0 ⟨h3, gg, dd, tt, os⟩ _ _ (by show 0 < 2; decide) st0 fun v hq' tk hP st hk => ?_))))
  have ev : v = va := (Option.some.inj (show some va = some v from hP)).symm
  subst ev
  refine wpAny_bind (wpAny_pure ?_)
  have kk : ∀ d o, d ≠ I → h3.get? d = some o → hq'.get? d = some o := fun d o n e => hk d o (fun z => n (List.mem_singleton.mp z)) e
  have g2 := kk S _ hIS gS
  show wpAny _ _ (updateSeq S (fun _ => #[v, v]) >>= _) _ _ _
  refine wpAny_bind (wpAny_updateSeq g2 rfl ?_)
  rw [nm]
  have all : ∀ d o, hp.get? d = some o → d ≠ I ∧ d ≠ S ∧ hq'.get? d = some o := fun d o e => by
    have l : d < T := eT ▸ Heap.lt_size e
    have lI : T < I := by omega
    have lS : T < S := by omega
    have n1 : d ≠ I := Nat.ne_of_lt (Nat.lt_trans l lI)
    exact ⟨n1, Nat.ne_of_lt (Nat.lt_trans l lS), kk d o n1 (k3 _ _ (k2 _ _ (k1 _ _ e)))⟩
  refine wpAny_pure ⟨plainId_quiet PySem.F.plain_max_loop _, max_round (i := 1) (its := #[v, vb]) (vy := vb) (vx := v) (T := T) (b := k) hh hIT hIS hST ?_ rfl rfl (Heap.get?_update_self _ g2 rfl) (fun h' tk' kp => ?_) fun h' tk' kp => ?_⟩
  · refine W.frame _ _ _ st fun d hd o e => (Heap.get?_update_other _ _ ?_).trans e
    intro z
    rcases List.mem_cons.mp hd with q | q
    · exact hIS (z.trans q)
    · exact hST (z.trans (List.mem_singleton.mp q))
  · refine hc h' tk' fun d o e => ?_
    obtain ⟨n1, n2, e2⟩ := all d o e
    exact kp d o n1 ((Heap.get?_update_other _ _ (Ne.symm n2)).trans e2)
  · refine hq h' tk' fun d o e => ?_
    obtain ⟨n1, n2, e2⟩ := all d o e
    exact kp d o n1 n2 ((Heap.get?_update_other _ _ (Ne.symm n2)).trans e2)

end
/-! ### min(t, u), max(t, u) of two tuples of ints -/
/-- t < u by the model's own look from place to place -/
def lexP (lt : Int → Int → Bool) (e : Bool) (ns ms : List Int) : Bool := Ob.lexAt (fun j => decide (ns.getD j 0 = ms.getD j 0)) (fun j => lt (ns.getD j 0) (ms.getD j 0)) e 0 (min ns.length ms.length)
section
variable {X : Cx}
theorem tup_ops {s : Shared} {pins : List (Addr × Obj)} {σ : L2.St} {H : Hp} {a b : Addr} {ns ms : List Int} (I : L2.Inv X pins σ H s) (ha : H a = some (.tup (ns.map V.int))) (hb : H b = some (.tup (ms.map V.int))) (hu : X.A.units + 1 < cLine) (h' : Heap) (tk : Nat) (kp : KeepH s.heap h') :
    Ob.RcOp .Lt X.A.in1 { s with heap := h', toks := tk } (.ref a) (.ref b) (lexP (fun x y => decide (x < y)) (decide (ns.length < ms.length)) ns ms) ∧
    Ob.RcOp .Gt X.A.in1 { s with heap := h', toks := tk } (.ref a) (.ref b) (lexP (fun x y => decide (x > y)) (decide (ns.length > ms.length)) ns ms) := by
  obtain ⟨its, r1, p1, _⟩ := I.tuple (SqT.of ha)
  obtain ⟨its2, r2, p2, _⟩ := I.tuple (SqT.of hb)
  have i1 : IntsAre its ns := Vals.ints r1
  have i2 : IntsAre its2 ms := Vals.ints r2
  have e1 : its.toArray.size = ns.length := by rw [List.size_toArray]; exact i1.length
  have e2 : its2.toArray.size = ms.length := by rw [List.size_toArray]; exact i2.length
  obtain ⟨o1, g1, c1, n1, d1⟩ := p1
  obtain ⟨o2, g2, c2, n2, d2⟩ := p2
  have q1 : Heap.IsTuple h' a its.toArray := ⟨o1, kp _ _ g1, c1, n1, d1⟩
  have q2 : Heap.IsTuple h' b its2.toArray := ⟨o2, kp _ _ g2, c2, n2, d2⟩
  have at1 : ∀ j (h1 : j < its.toArray.size), ∃ t, its.toArray[j] = .int (ns.getD j 0) t := fun j h1 => PyProof.Rows.IntsAre.int_at i1 _ _ (by simp at h1; simp [h1])
  have at2 : ∀ j (h1 : j < its2.toArray.size), ∃ t, its2.toArray[j] = .int (ms.getD j 0) t := fun j h1 => PyProof.Rows.IntsAre.int_at i2 _ _ (by simp at h1; simp [h1])
  have eqs : ∀ (B : Around) (s2 : Shared) j (h1 : j < its.toArray.size) (h2 : j < its2.toArray.size), SeqAt.EqAt B s2 its.toArray[j] its2.toArray[j] (decide (ns.getD j 0 = ms.getD j 0)) := fun B s2 j h1 h2 => by
    obtain ⟨t, et⟩ := at1 j h1
    obtain ⟨t', et'⟩ := at2 j h2
    rw [et, et', ← Bool.beq_eq_decide_eq]
    exact SeqAt.EqAt.int_int _ _ _ _
  constructor
  · have R := Ob.RcOp.tuples_lt (A := X.A.in1) (s := { s with heap := h', toks := tk }) (e := fun j => decide (ns.getD j 0 = ms.getD j 0)) (r := fun j => decide (ns.getD j 0 < ms.getD j 0)) q1 q2 hu (eqs _ _) (fun j h1 h2 _ => by
      obtain ⟨t, et⟩ := at1 j h1
      obtain ⟨t', et'⟩ := at2 j h2
      rw [et, et']
      exact Ob.RcOp.lt_int _ _ _ _)
    rw [e1, e2] at R
    exact R
  · have R := Ob.RcOp.tuples_gt (A := X.A.in1) (s := { s with heap := h', toks := tk }) (e := fun j => decide (ns.getD j 0 = ms.getD j 0)) (r := fun j => decide (ns.getD j 0 > ms.getD j 0)) q1 q2 hu (eqs _ _) (fun j h1 h2 _ => by
      obtain ⟨t, et⟩ := at1 j h1
      obtain ⟨t', et'⟩ := at2 j h2
      rw [et, et']
      exact Ob.RcOp.gt_int _ _ _ _)
    rw [e1, e2] at R
    exact R
/-- min(t, u), max(t, u), both tracked tuples of ints: one of the two themselves -/
def rBest (lt : List Int → List Int → Bool) : List V → Hp → VK → Prop := fun xs H Q => ∃ (a b : Addr) (ns ms : List Int), xs = [.ref a, .ref b] ∧ H a = some (.tup (ns.map V.int)) ∧ H b = some (.tup (ms.map V.int)) ∧ Q (.ref (if lt ms ns = true then b else a)) H
theorem call_minT (hc : X.calm = true) (hu : X.A.units + 1 < cLine) : CallR X (.builtin "min") (rBest fun ns ms => lexP (fun x y => decide (x < y)) (decide (ns.length < ms.length)) ns ms) := by
  intro pins s σ H xs us Q I r h
  obtain ⟨a, b, ns, ms, rfl, ha, hb, q⟩ := h
  obtain ⟨u, w', rfl, r1, r2⟩ := vals2 r
  cases r1
  cases r2
  refine min2_by (I.ok.hd hc) (fun h' tk kp => (tup_ops I hb ha hu h' tk kp).1) fun h' tk kp => ⟨_, H, I.kept kp, ?_, q⟩
  split <;> rfl
theorem call_maxT (hc : X.calm = true) (hu : X.A.units + 1 < cLine) : CallR X (.builtin "max") (rBest fun ns ms => lexP (fun x y => decide (x > y)) (decide (ns.length > ms.length)) ns ms) := by
  intro pins s σ H xs us Q I r h
  obtain ⟨a, b, ns, ms, rfl, ha, hb, q⟩ := h
  obtain ⟨u, w', rfl, r1, r2⟩ := vals2 r
  cases r1
  cases r2
  refine max2_by (I.ok.hd hc) (fun h' tk kp => (tup_ops I hb ha hu h' tk kp).2) fun h' tk kp => ⟨_, H, I.kept kp, ?_, q⟩
  split <;> rfl
end
/-! ### f(k = v, ..), keywords alone -/
section
variable {X : Cx} {CX : CXT} {k : Nat} {f : Addr} {fd : FuncData} {ps ks : List Str} {sp : Sp} {x : Str} {p pos : Pos} {E : XK} {tk : TA} {kws : List Keyword} {g : List Value → List Value → List Value} {gV : List V → List V → List V}
theorem pe_callKw (F : FnOk X.prog X.w X.K X.mg X.base CX k f fd ps sp) (hr : Room k X.A) (hg : Gl X x) (hm : X.mg x = some (.ref f)) (hk : PySem.W.keepIn X.K (.ref f) = true) (hb : KBinds X.K fd ps ks g gV) (hx : Passes CX X E)
    (hkw : PK X kws tk) (hall : (backToKw pos (keywordEach kws X.env)).all (·.1.isSome) = true := by rfl) (hks : (backToKw pos (keywordEach kws X.env)).filterMap (·.1) = ks := by rfl)
    (hdb : (x == ("__debug__" : Str)) = false := by decide) (hpl : ((backTo pos (starEach [] X.env)).any (·.1) || (backToKw pos (keywordEach kws X.env)).any (·.1.isNone)) = false := by rfl) :
    PE X (.Call (.Name x p) [] kws pos) (fun σ H Q => tk σ H fun zs H2 => sp (gV [] zs) H2 Q E) := by
  refine ⟨fun pins s σ H Q I h => ?_⟩
  refine wpAny_Call_Name_kw (ld_glob I hg hm ?_ hdb)
  refine PySem.W.callWith_KW0 (h₀ := X.base) I.ok.mod.kin hk hall (thn (hkw.run pos pins s σ H _ I h) fun ws s2 ⟨zs, H2, I2, rz, q2⟩ => ⟨I2.kIn, ?_⟩) hpl
  rw [hks]
  exact run_fnk (us := []) (vs := []) F hr hb hx I2 .nil rz q2
end
/-! ### what a source is, and what a step leaves -/
/-- a source at s: three ints -/
def Src (H : Hp) (s : Addr) : Prop := ∃ a b c : Int, H s = some (.lst [.int a, .int b, .int c])
theorem Src.ne {H : Hp} {s p : Addr} {o : HO} (h : Src H s) (e : H p = some o) (d : ∀ a b c : Int, o ≠ .lst [.int a, .int b, .int c]) : p ≠ s := by
  obtain ⟨a, b, c, q⟩ := h
  exact ne_of e q (d a b c)
theorem Src.nen {H : Hp} {s p : Addr} (h : Src H s) (e : H p = none) : p ≠ s := by
  obtain ⟨a, b, c, q⟩ := h
  exact (ne_of_none q e).symm
/-- from H to H' all stands but the source at s, which is still one -/
structure Stp (s : Addr) (H H' : Hp) : Prop where
  keep : ∀ b o, b ≠ s → H b = some o → H' b = some o
  src : Src H' s
theorem Stp.refl {s : Addr} {H : Hp} (h : Src H s) : Stp s H H := ⟨fun _ _ _ e => e, h⟩
theorem Stp.trans {s : Addr} {H H1 H2 : Hp} (a : Stp s H H1) (b : Stp s H1 H2) : Stp s H H2 := ⟨fun c o n e => b.keep c o n (a.keep c o n e), b.src⟩
theorem Stp.new {s : Addr} {H H' : Hp} {p : Addr} {o : HO} (a : Stp s H H') (n : H' p = none) : Stp s H (upd H' p o) := by
  obtain ⟨x, y, z, e⟩ := a.src
  refine ⟨fun b u nb eb => ?_, x, y, z, ?_⟩
  · have q := a.keep b u nb eb
    rw [upd_ne (ne_of_none q n)]
    exact q
  · rw [upd_ne (ne_of_none e n)]
    exact e
theorem Stp.turn {s : Addr} {H H' : Hp} (a : Stp s H H') (x y z : Int) : Stp s H (upd H' s (.lst [.int x, .int y, .int z])) :=
  ⟨fun b u nb eb => by rw [upd_ne nb]; exact a.keep b u nb eb, x, y, z, upd_same⟩
theorem Stp.free {s p : Addr} {H H' : Hp} (a : Stp s H H') (n : H' p = none) : H p = none := by
  cases q : H p with
  | none => rfl
  | some o =>
    have np : p ≠ s := a.src.nen n
    rw [a.keep _ _ np q] at n
    cases n
theorem Stp.set {s : Addr} {H H' : Hp} {p : Addr} {o : HO} (a : Stp s H H') (n : H p = none) (np : p ≠ s) : Stp s H (upd H' p o) := by
  obtain ⟨x, y, z, e⟩ := a.src
  refine ⟨fun b u nb eb => ?_, x, y, z, ?_⟩
  · rw [upd_ne (ne_of_none eb n)]
    exact a.keep b u nb eb
  · rw [upd_ne np.symm]
    exact e
/-- a site at t -/
def Sit (H : Hp) (t : Addr) (x y : Int) : Prop := H t = some (.tup [.int x, .int y])
theorem Sit.ne {H : Hp} {s t : Addr} {x y : Int} (h : Sit H t x y) (q : Src H s) : t ≠ s := q.ne h fun _ _ _ z => by cases z
theorem Sit.stp {H H' : Hp} {s t : Addr} {x y : Int} (h : Sit H t x y) (q : Src H s) (a : Stp s H H') : Sit H' t x y := a.keep _ _ (h.ne q) h
theorem Sit.same {H H' : Hp} {t : Addr} {x y : Int} (h : Sit H t x y) (a : Same H H') : Sit H' t x y := a _ _ h

theorem b2i_small (b : Bool) : -(2 ^ 64) < (if b = true then (1 : Int) else 0) ∧ (if b = true then (1 : Int) else 0) < 2 ^ 64 := by cases b <;> decide
theorem sm {m : Int} (h : m.natAbs < 2 ^ 64) : m.natAbs < 2 ^ 8000 := Nat.lt_of_lt_of_le h (Nat.pow_le_pow_right (by decide) (by decide))
theorem Same.upd {H : Hp} {p : Addr} {o : HO} (h : H p = none) : Same H (upd H p o) := fun b x e => by
  rw [upd_ne (ne_of_none e h)]
  exact e
theorem Stp.same {s : Addr} {H H1 H2 : Hp} (a : Stp s H H1) (b : Same H1 H2) : Stp s H H2 := by
  obtain ⟨x, y, z, e⟩ := a.src
  exact ⟨fun c o n q => b _ _ (a.keep c o n q), x, y, z, b _ _ e⟩
/-! ### ** 2 and // of great numbers, of either sign -/
def CSq (i j : Int) : Prop := j = 2 ∧ i.natAbs < 2 ^ 1000
theorem op_sq {X : Cx} : OpR X (binaryOp .Pow) (rI CSq fun i _ => .int (i * i)) := opI fun i j _ _ _ _ _ hc q => by
  obtain ⟨rfl, hb⟩ := hc
  refine pow_int (by decide) ?_ (by rw [show i ^ (2 : Int).toNat = i * i from Int.pow_succ i 1 ▸ by rw [Int.pow_one]]; exact q)
  have b : Builtin.Int.intBits i ≤ i.natAbs.log2 + 1 := by
    unfold Builtin.Int.intBits
    split <;> omega
  have l := PySem.Flt.log2_lt_of (by decide : 0 < 1000) hb
  omega
def CDivE (_ j : Int) : Prop := j ≠ 0 ∧ j.natAbs < 2 ^ 8000
theorem op_fdivE {X : Cx} : OpR X (binaryOp .FloorDiv) (rI CDivE fun i j => .int (i.fdiv j)) := opI fun i j _ _ _ _ _ hc q =>
  floordiv_int hc.1 q (.inl (PyProof.noPylong_of_log2 (Nat.lt_of_lt_of_le (PySem.Flt.log2_lt_of (by decide) hc.2) (by decide))))
/-! ### readings made weaker -/
theorem peOf {X : Cx} {e : Expr} {t t' : TE} (h : PE X e t) (m : ∀ σ H Q, t' σ H Q → t σ H Q) : PE X e t' := ⟨fun pins s σ H Q I hw => h.run pins s σ H Q I (m σ H Q hw)⟩
theorem paOf {X : Cx} {es : List Expr} {t t' : TA} (h : PA X es t) (m : ∀ σ H Q, t' σ H Q → t σ H Q) : PA X es t' := ⟨fun pos pins s σ H Q I hw => h.run pos pins s σ H Q I (m σ H Q hw)⟩
theorem psOf {X : Cx} {st : Stmt} {t t' : TS} (h : PS X st t) (m : ∀ D σ H, t' D σ H → t D σ H) : PS X st t' := ⟨fun pins s σ H D I hw => h.run pins s σ H D I (m D σ H hw)⟩
theorem pssOf {X : Cx} {st : List Stmt} {t t' : TS} (h : PSs X st t) (m : ∀ D σ H, t' D σ H → t D σ H) : PSs X st t' := ⟨fun pins s σ H D I hw => h.run pins s σ H D I (m D σ H hw)⟩
/-- a written number with a minus -/
theorem pe_neg {X : Cx} {i : Int} {j : Nat} {p p2 : Pos} : PE X (.UnaryOp .USub (.Constant (.int i) j p) p2) (tC (.int (-i))) := peOf (pe_un un_neg pe_int) fun _ _ _ h => ⟨_, rfl, h⟩
/-! ### displays of sites -/
def Bd (b x y : Int) : Prop := -b ≤ x ∧ x ≤ b ∧ -b ≤ y ∧ y ≤ b
theorem Bd.mono {b c x y : Int} (h : Bd b x y) (l : b ≤ c) : Bd c x y := by
  obtain ⟨h1, h2, h3, h4⟩ := h
  exact ⟨by omega, by omega, by omega, by omega⟩
/-- every address of ps a site within b -/
def Sits (b : Int) (H : Hp) (ps : List Addr) : Prop := ∀ p ∈ ps, ∃ x y, Sit H p x y ∧ Bd b x y
theorem Sits.same {b : Int} {H H' : Hp} {ps : List Addr} (h : Sits b H ps) (a : Same H H') : Sits b H' ps := fun p m => by
  obtain ⟨x, y, e, d⟩ := h p m
  exact ⟨x, y, a _ _ e, d⟩
theorem Sits.stp {b : Int} {s : Addr} {H H' : Hp} {ps : List Addr} (h : Sits b H ps) (q : Src H s) (a : Stp s H H') : Sits b H' ps := fun p m => by
  obtain ⟨x, y, e, d⟩ := h p m
  exact ⟨x, y, e.stp q a, d⟩
theorem Sits.put {b : Int} {H : Hp} {ps : List Addr} {p : Addr} {o : HO} (h : Sits b H ps) (n : ∀ x y, H p ≠ some (.tup [.int x, .int y])) : Sits b (upd H p o) ps := fun r m => by
  obtain ⟨x, y, e, d⟩ := h r m
  refine ⟨x, y, ?_, d⟩
  show upd H p o r = _
  rw [upd_ne (fun z => n x y (by rw [← z]; exact e))]
  exact e
def tSit (b : Int) : TE := fun _ H Q => ∀ (p : Addr) H' (x y : Int), Same H H' → H p = none → Sit H' p x y → Bd b x y → Q (.ref p) H'
def tSits (b : Int) (n : Nat) : TA := fun _ H Q => ∀ (ps : List Addr) H', Same H H' → ps.length = n → Sits b H' ps → Q (ps.map V.ref) H'
theorem two_line : 2 ≤ sizeLine := by decide
theorem pe_sit {X : Cx} {e1 e2 : Expr} {k : Nat} {pos : Pos} {x y b : Int} (h : PA X [e1, e2] (tCons (tC (.int x)) (tCons (tC (.int y)) tNil))) (hb : Bd b x y) : PE X (.Tuple [e1, e2] k pos) (tSit b) :=
  peOf (pe_tup h) fun _ H Q q => ⟨two_line, fun p np => q p _ x y (Same.upd np) np upd_same hb⟩
theorem sits_nil {b : Int} : ∀ σ H Q, tSits b 0 σ H Q → tNil σ H Q := fun _ H Q q => q [] H (Same.refl _) rfl (fun _ m => nomatch m)
theorem sits_cons {b : Int} {n : Nat} : ∀ σ H Q, tSits b (n + 1) σ H Q → tCons (tSit b) (tSits b n) σ H Q := fun _ H Q q p H1 x y s1 _ e d ps H2 s2 l h => by
  refine q (p :: ps) H2 (s1.trans s2) (by rw [List.length_cons, l]) fun r m => ?_
  rcases List.mem_cons.mp m with rfl | m
  · exact ⟨x, y, s2 _ _ e, d⟩
  · exact h r m
theorem pa_sits0 {X : Cx} {b : Int} : PA X [] (tSits b 0) := paOf pa_nil sits_nil
theorem pa_sits {X : Cx} {e : Expr} {es : List Expr} {b : Int} {n : Nat} (h : PE X e (tSit b)) (hs : PA X es (tSits b n)) (st : starEach (e :: es) X.env = (false, eval e X.env) :: starEach es X.env := by rfl) : PA X (e :: es) (tSits b (n + 1)) := paOf (pa_cons h hs st) sits_cons
end Nc


/-! Own rules: math.gcd of three ints. -/
namespace Nc
open PySem PySem.Spec PyProof.Rows L2
section
open PySem.Calls
theorem gcd3_run (a : Int) (t : Tok) (b : Int) (u : Tok) (c : Int) (v : Tok) :
    Gives (Builtin.«math.gcd» ⟨[.int a t, .int b u, .int c v], []⟩) (.int (((((Nat.gcd 0 a.natAbs).gcd b.natAbs).gcd c.natAbs : Nat) : Int))) :=
  .of_wp fun M A E s Q h => by obtain ⟨hp, g, d, tk, os⟩ := s; wp_walk; exact ⟨_, rfl, h⟩
theorem gcd3_args (a b c : Value) : argsOk "math.gcd" ⟨[a, b, c], []⟩ := by unfold argsOk; kernel_rfl
end
section
variable {X : Cx}
def rGcd3 : List V → Hp → VK → Prop := fun vs H Q => ∃ a b c : Int, vs = [.int a, .int b, .int c] ∧ Q (.int ((Nat.gcd (Nat.gcd a.natAbs b.natAbs) c.natAbs : Nat) : Int)) H
theorem cr_gcd3 : CallR X (.builtin "math.gcd") rGcd3 := by
  intro pins s σ H vs us Q I r h
  obtain ⟨a, b, c, rfl, q⟩ := h
  cases r with
  | cons r1 r => cases r with
    | cons r2 r => cases r with
      | cons r3 r =>
        cases r
        obtain ⟨t1, rfl⟩ := r1
        obtain ⟨t2, rfl⟩ := r2
        obtain ⟨t3, rfl⟩ := r3
        have g := gcd3_run a t1 b t2 c t3
        rw [Nat.gcd_zero_left] at g
        exact call_function_meets PySem.W.MGF.kind_gcd PySem.W.MGF.plain_gcd PySem.W.MGF.entry_gcd (gcd3_args _ _ _) g.meets ⟨.int _, H, I.tok _, ⟨_, rfl⟩, q⟩
end
end Nc

/-! Own rules: small steps that answer what a term asks: used by the local macros of walk.txt. -/
namespace Nc
open PySem PySem.Spec PyProof.Rows L2
section
variable {K : PySem.W.Frag} {H : Hp} {Q : VK} {p q : Addr} {xs ys : List V} {i j : Int} {v x y : V}
theorem w_ixT (h : H p = some (.tup xs)) (e : atI xs i = some v) (z : Q v H) : rIxT K (.ref p) (.int i) H Q := ⟨_, _, _, _, rfl, rfl, SqT.of h, e, z⟩
theorem w_ixL (h : H p = some (.lst xs)) (e : atI xs i = some v) (z : Q v H) : rIxL K (.ref p) (.int i) H Q := ⟨_, _, _, _, rfl, rfl, SqL.of h, e, z⟩
theorem w_gtup {n : Nat} {t : TGs} {σ : L2.St} {Qs : L2.St → Hp → Prop} (h : H p = some (.tup xs)) (e : xs.length = n) (z : t xs σ H Qs) : gTup K n t (.ref p) σ H Qs := ⟨_, _, rfl, SqT.of h, e, z⟩
theorem w_itt {p A B : Prop} [Decidable p] (h : p) (a : A) : if decide p = true then A else B := by
  rw [decide_eq_true h, if_pos rfl]
  exact a
theorem w_itf {p A B : Prop} [Decidable p] (h : ¬ p) (b : B) : if decide p = true then A else B := by
  rw [decide_eq_false h, if_neg (by decide)]
  exact b
theorem w_ntt {p A B : Prop} [Decidable p] (h : p) (b : B) : if (!decide p) = true then A else B := by
  rw [decide_eq_true h, if_neg (by decide)]
  exact b
theorem w_ntf {p A B : Prop} [Decidable p] (h : ¬ p) (a : A) : if (!decide p) = true then A else B := by
  rw [decide_eq_false h, if_pos (by decide)]
  exact a
theorem w_if {c : Bool} {A B : Prop} (h1 : c = true → A) (h2 : c = false → B) : if c = true then A else B := by
  cases c
  · exact h2 rfl
  · exact h1 rfl
end
/-! bits -/
theorem nbm {a b : Int} {k : Nat} (ha : a.natAbs < 2 ^ (k / 2)) (hb : b.natAbs < 2 ^ (k / 2)) : (a * b).natAbs < 2 ^ k := by
  have h : a.natAbs * b.natAbs < 2 ^ (k / 2) * 2 ^ (k / 2) := Nat.mul_lt_mul'' ha hb
  rw [Int.natAbs_mul]
  rw [← Nat.pow_add] at h
  exact Nat.lt_of_lt_of_le h (Nat.pow_le_pow_right (by decide) (by omega))
theorem nba {a b : Int} {k : Nat} (h : 0 < k) (ha : a.natAbs < 2 ^ (k - 1)) (hb : b.natAbs < 2 ^ (k - 1)) : (a + b).natAbs < 2 ^ k := by
  obtain ⟨m, rfl⟩ : ∃ m, k = m + 1 := ⟨k - 1, by omega⟩
  rw [Nat.add_sub_cancel] at ha hb
  rw [Nat.pow_succ]
  omega
theorem nbs {a b : Int} {k : Nat} (h : 0 < k) (ha : a.natAbs < 2 ^ (k - 1)) (hb : b.natAbs < 2 ^ (k - 1)) : (a - b).natAbs < 2 ^ k := by
  obtain ⟨m, rfl⟩ : ∃ m, k = m + 1 := ⟨k - 1, by omega⟩
  rw [Nat.add_sub_cancel] at ha hb
  rw [Nat.pow_succ]
  omega
theorem nbn {a : Int} {k : Nat} (ha : a.natAbs < 2 ^ k) : (-a).natAbs < 2 ^ k := by rwa [Int.natAbs_neg]
theorem nbu {a : Int} {j k : Nat} (ha : a.natAbs < 2 ^ j) (h : j ≤ k) : a.natAbs < 2 ^ k := Nat.lt_of_lt_of_le ha (Nat.pow_le_pow_right (by decide) h)
theorem nbd {a b : Int} {k : Nat} (ha : a.natAbs < 2 ^ k) : (a.fdiv b).natAbs < 2 ^ (k + 1) := by
  rw [Nat.pow_succ]
  have h := ha
  rcases Int.lt_trichotomy b 0 with hb | hb | hb
  · have e : a.fdiv b = (-a).fdiv (-b) := (Int.neg_fdiv_neg a b).symm
    rw [e, Int.fdiv_eq_ediv_of_nonneg _ (by omega)]
    have := Int.natAbs_ediv_le_natAbs (-a) (-b)
    omega
  · subst hb
    rw [Int.fdiv_zero]
    omega
  · rw [Int.fdiv_eq_ediv_of_nonneg _ (by omega)]
    have := Int.natAbs_ediv_le_natAbs a b
    omega
theorem cmw {a b : Int} (ha : a.natAbs < 2 ^ 8000) (hb : b.natAbs < 2 ^ 8000) : CMulW a b := wide_mul ha hb (by decide) (by decide) (by decide)
end Nc

/-! Own rules: C() of an own class over ArithmeticError whose __init__ passes; a try whose first clause is named and meets. -/
namespace Nc
open PySem PySem.Spec PyProof.Rows L2
abbrev aeTail : List Value := [.type "ArithmeticError", .type "Exception", .type "BaseException", .type "object"]
/-- the class at C stands under ArithmeticError, its constructor is the def at fI -/
structure PassC (K : PySem.W.Frag) (C fI : Addr) : Prop where
  cls : ∃ nm q N bs bm hd sn sub ab col dd k0 k1 k2 k3 k5, K.lookup C = some (excClassObj nm q C N bs bm hd sn sub ab col dd k0 k1 k2 k3 k5 "ArithmeticError.__new__") ∧ ∀ Y : String, bm.contains (.type Y) = aeTail.contains (.type Y)
  initF : PySem.W.findIn K (.ref C) "__init__" = some (some (.ref fI))
  isDef : PySem.W.typeIn K (.ref fI) = some (.type "function")
  ofBase : PySem.W.subIn K (.ref C) (.type "BaseException") = some true
  ofType : PySem.W.typeIn K (.ref C) = some (.type "type")
  stays : PySem.W.keepIn K (.ref C) = true
def spPass : Sp := fun vs H Q _ => ∃ a : Addr, vs = [.ref a] ∧ Q .non H
section
variable {X : Cx}
theorem pmk_pass {CX : CXT} {x : Str} {C fI : Addr} {k : Nat} {fd : FuncData} {p pos : Pos} (T : PassC X.K C fI) (F1 : FnOk X.prog X.w X.K X.mg X.base CX k fI fd ["self"] spPass) (hr : Room (k + 1) X.A) (hb : Binds X.K fd ["self"] [])
    (hx : Passes CX X (fun _ _ _ => False)) (hg : Gl X x) (hm : X.mg x = some (.ref C)) (hdb : (x == ("__debug__" : Str)) = false := by decide) :
    PMk X (.Call (.Name x p) [] [] pos) (fun _ H Q => Q (.ref C) none H) := by
  intro pins s σ H Q I h
  obtain ⟨nm, q, N, bs, bm, hd, sn, sub, ab, col, dd, k0, k1, k2, k3, k5, hC, hbm⟩ := T.cls
  refine wpAny_Call_Name_kw (ld_glob I hg hm ?_ hdb)
  refine PySem.W.callWith_K0 I.kIn T.stays ?_
  show wpAny _ _ (call (.ref C) []) _ _ _
  have I1 := I
  obtain ⟨h0, g, dr, tk, os⟩ := s
  have below : h0.objs.size ≤ h0.objs.size + 1 := Nat.le_succ _
  have hn : H (h0.objs.size + 1) = none := I1.hok.fresh below
  have old : ∀ b o, h0.get? b = some o → ((h0.push (PySem.W.kdv_tup [])).push (PySem.HandSPX.excO C h0.objs.size)).get? b = some o := fun b o e => Heap.get?_push_of_some _ (Heap.get?_push_of_some _ e)
  have hget : ((h0.push (PySem.W.kdv_tup [])).push (PySem.HandSPX.excO C h0.objs.size)).get? (h0.objs.size + 1) = some (PySem.HandSPX.excO C h0.objs.size) := by heap_get
  have I2 : Inv X pins σ H ⟨(h0.push (PySem.W.kdv_tup [])).push (PySem.HandSPX.excO C h0.objs.size), g, dr, tk, os⟩ := I1.kept (t' := tk) old
  have b := hb ⟨(h0.push (PySem.W.kdv_tup [])).push (PySem.HandSPX.excO C h0.objs.size), g, dr, tk, os⟩ [Value.ref (h0.objs.size + 1)] I2.kIn rfl
  have hsp : spPass [V.ref (h0.objs.size + 1)] H (fun v H2 => v = .non ∧ H2 = H) (fun _ _ _ => False) := ⟨_, rfl, rfl, rfl⟩
  refine wpAny_call (PySem.HandSPX.call_own F.excBase_ArithmeticError hbm (I1.kIn _ _ hC) (PySem.W.looks_findIn I1.kIn T.initF) (fun self => PySem.W.bind_fn I1.kIn self T.isDef) (Nat.zero_le _)
    (codeAny_mono (F1.run _ X.stack _ _ ⟨[Value.ref (h0.objs.size + 1)], []⟩ [Value.ref (h0.objs.size + 1)] [V.ref (h0.objs.size + 1)] _ (fun _ _ _ => False) (hr.make C [] []) (I2.env0.make C [] []) b (.cons rfl .nil) hsp) fun r s' got => ?_))
  cases r with
  | error err => exact hx pins σ _ _ err s' I2 got
  | ok flow =>
    cases flow with
    | ret u =>
      obtain ⟨v, H2, osE, bare, und, ok2, rv, ev, eH2⟩ := got
      subst ev
      subst eH2
      obtain ⟨h2, g2, d2, t2, os'⟩ := s'
      refine ⟨rv, ?_⟩
      have hfr : h0.objs.size + 1 ∉ frs X.stack := fun z => by
        obtain ⟨_, o, ho, hnf⟩ := I2.stack.mem z
        rw [hget] at ho
        cases ho
        exact hnf _ rfl
      have atE : h2.get? (h0.objs.size + 1) = some (PySem.HandSPX.excO C h0.objs.size) := und.keep _ _ hget hn hfr (by simp)
      obtain ⟨G, gA, gB⟩ := restrict h2 fun b => decide (b ≠ h0.objs.size + 1)
      have same : ∀ b, b ≠ h0.objs.size + 1 → G.get? b = h2.get? b := fun b hb => gA b (decide_eq_true hb)
      have gone : G.get? (h0.objs.size + 1) = none := gB _ (by simp)
      have notE : ∀ {b : Addr} {o : Obj}, h0.get? b = some o → b ≠ h0.objs.size + 1 := fun {b o} z => Nat.ne_of_lt (Nat.lt_of_lt_of_le (Heap.lt_size z) below)
      have UG : Un (frs X.stack) [] H2 H2 h0 G := {
        keep := fun p u e n k1 k2 => by
          rw [same p (notE e)]
          exact und.keep p u (old p u e) n k1 k2
        slot := fun p u e n k1 k2 => by
          rw [same p (notE e)]
          exact und.slot p u (old p u e) n k1 k2
        free := fun b o z n hx => n
        there := fun p u e k2 => by
          rw [same p (notE e)]
          exact und.there p u (old p u e) k2
        tups := fun b xs z => z
        frzs := fun b o v z => z
        tbls := fun b ps z => ⟨#[], by rw [z]; simp⟩ }
      have okG : HOk X.prog X.w H2 G := fun b o z => by
        have nb : ∀ {c : Addr} {o : HO}, H2 c = some o → c ≠ h0.objs.size + 1 := fun {c o} hc e => by
          rw [e, hn] at hc
          cases hc
        refine (ok2 b o z).stay (fun c v hc y => ?_) (fun _ r => r) fun _ _ r => r
        have hca : c ≠ h0.objs.size + 1 := by
          rcases hc with hc | hc
          · rw [hc]
            exact nb z
          · exact nb hc
        rw [same c hca]
        exact y
      have os2' : os' = os := osE
      have J : Inv X pins σ H2 ⟨G, g2, d2, t2, os'⟩ := I1.call' (ch := []) os2' UG okG bare (fun b z => absurd z (by simp))
      refine ⟨_, _, _, ⟨G, g2, d2, t2, os'⟩, H2, .ref C, none, rfl, J, fun b o z => ?_, gone, atE, ⟨rfl, rfl⟩, rfl, rfl, hn, rfl, bare, raises_own T.ofBase T.ofType, h⟩
      by_cases isE : b = h0.objs.size + 1
      · rw [isE, gone] at z
        cases z
      · exact (same b isE).symm.trans z
    | next => exact False.elim got
    | brk => exact False.elim got
    | cont => exact False.elim got
end
/-! ### a try whose first clause bears a name and meets -/
/-- an object with fields is no frame -/
theorem off_frames {B h : Heap} {l : List Env} {a : Addr} {o : Obj} {vs : Array Value} (ff : h.FunFrames B l) (e : h.get? a = some o) (d : o.data = .fields vs) : a ∉ frs l := by
  intro m
  rcases ff.mem m with ⟨_, o2, g, n⟩
  have z : o = o2 := Option.some.inj (e.symm.trans g)
  exact n vs (z ▸ d)
section
variable {X : Cx} {pins : List (Addr × Obj)} {σ : L2.St} {H : Hp} {s : Shared} {a : Addr} {cls : Value} {d : Option Addr}
/-- landed, the exception is one that a suite may hold -/
theorem in_suite {B : Heap} (hf : X.env.frame = some X.env.locals) (J : Inv X pins σ H s) (fl : HandSPX.FlyingZ B (X.env :: X.outer) a (Zc cls d) s.heap) (na : H a = none) :
    ∃ oe : Obj, Zc cls d oe ∧ (∃ vs, oe.data = .fields vs) ∧ s.heap.get? a = some oe ∧ Inv (X.suite a ((a, oe) :: (X.pn ++ pins))) [] σ H s := by
  rcases fl.there with ⟨oe, vs, g, z, w⟩
  have off := off_frames fl.2.2.1 g w
  have e : frs (X.env :: X.outer) = X.env.locals :: frs X.outer := List.filterMap_cons_some hf
  rw [e] at off
  exact ⟨oe, z, ⟨vs, w⟩, g, J.suite g w na (fun q => off (q ▸ List.mem_cons_self)) fun q => off (List.mem_cons_of_mem _ q)⟩
/-- the class that the clause names is looked up -/
theorem clause_name {x : Str} {c : Value} {np : Pos} {Q E : Value → Shared → Prop} {o : Obj} {pn : List (Addr × Obj)} (S : Inv (X.suite a ((a, o) :: pn)) [] σ H s) (hc : Names X x c) (q : Q c s) : wpAny (model X.prog X.w) (X.A.mark (some (.ref a))) (eval (.Name x np) X.env) Q E s :=
  hc.2.2.elim (fun m => ld_glob (X := X.suite a ((a, o) :: pn)) S hc.1 m q hc.2.1) fun m => ld_blt (X := X.suite a ((a, o) :: pn)) S hc.1 m.1 m.2.1 q m.2.2 hc.2.1
/-- the ends of a suite whose name i goes -/
abbrev dropI (i : Nat) (D : Ends) : Ends := { nx := fun σ H => D.nx (σ.set i none) H, rt := D.rt, bk := fun σ H => D.bk (σ.set i none) H, ct := fun σ H => D.ct (σ.set i none) H }
theorem sp_gone {i : Nat} {n : Str} {pos : Pos} {D : Ends} {f : Flow} {o : Obj} (ok : X.Ok) (hN : X.N.Nodup) (hi : X.N[i]? = some n) (hl : X.env.kindOf n = some .local) (h : SP (X.suite a ((a, o) :: (X.pn ++ pins))) [] (dropI i D) f s) :
    wpAny (model X.prog X.w) X.A (do bindName X.env n .none; unbindBehindTheSuite X.env n pos) (fun _ s7 => SP X pins D f s7) X.xe s := by
  cases f with
  | ret u =>
    rcases h with ⟨v, σ1, H1, I1, r, q⟩
    exact gone_ok (I1.unsuite ok) hN hi hl fun s2 I2 => ⟨v, _, H1, I2, r, q⟩
  | _ =>
    rcases h with ⟨σ1, H1, I1, q⟩
    exact gone_ok (I1.unsuite ok) hN hi hl fun s2 I2 => ⟨_, H1, I2, q⟩
theorem sp_body {D : Ends} {f : Flow} {xe : Value → Shared → Prop} (ok : X.Ok) (h : SP (X.tr (X.pn ++ pins) xe) [] D f s) : SP X pins D f s := by
  cases f with
  | ret u => exact h.elim fun v h => h.elim fun σ1 h => h.elim fun H1 h => ⟨v, σ1, H1, h.1.ofTry ok, h.2⟩
  | _ => exact h.elim fun σ1 h => h.elim fun H1 h => ⟨σ1, H1, h.1.ofTry ok, h.2⟩
/-- the wish: the clause's class is met, and the suite does the rest -/
def wAs1 (K : PySem.W.Frag) (c : Value) (i : Nat) (ts : Addr → Value → Option Addr → TS) (D : Ends) : WX := fun cls d σ H => PySem.W.exmOne K cls c = some true ∧ ∀ a, H a = none → ts a cls d (dropI i D) (σ.set i (some (.ref a))) H
theorem ps_try_as1 {x n : Str} {c : Value} {i : Nat} {body suite : List Stmt} {b₀ : Stmt} {hds : List ExceptHandler} {np pos pos' : Pos} {tb : WX → TS} {ts : Addr → Value → Option Addr → TS} (hs : X.stack = X.env :: X.outer) (hf : X.env.frame = some X.env.locals) (hN : X.N.Nodup) (hi : X.N[i]? = some n)
    (hln : X.env.kindOf n = some .local) (hc : Names X x c) (hb : ∀ (W : WX) (pn : List (Addr × Obj)) (xe : Value → Shared → Prop), Takes (X.tr pn xe) W → PSs (X.tr pn xe) body (tb W))
    (hsu : ∀ (a : Addr) (oe : Obj) (cls : Value) (d : Option Addr) (pn : List (Addr × Obj)), Zc cls d oe → (∃ vs, oe.data = .fields vs) → PSs (X.suite a ((a, oe) :: pn)) (b₀ :: suite) (ts a cls d)) :
    PS X (.Try body (.ExceptHandler (some (.Name x np)) (some n) (b₀ :: suite) pos' :: hds) [] [] pos) (fun D σ H => tb (wAs1 X.K c i ts D) D σ H) := ⟨fun pins s σ H D I h => by
  have ok := I.ok
  have hfr : X.A.frames = some (X.env :: X.outer) := ok.frames.trans (congrArg some hs)
  let caught : Value → Shared → Prop := fun u s₁ => wpAny (model X.prog X.w) X.A (noteFrame u X.env) (fun _ s₂ => wpAny (model X.prog X.w) X.A (setFlight u none) (fun _ s₃ =>
    wpAny (model X.prog X.w) X.A (handleBy u X.env (.ExceptHandler (some (.Name x np)) (some n) (b₀ :: suite) pos' :: hds)) (SP X pins D) X.xe s₃) X.xe s₂) X.xe s₁
  refine wpAny_Try_except (wpAny_mono ((hb (wAs1 X.K c i ts D) (X.pn ++ pins) caught (fun u s' air => ?_)).run [] s σ H D (I.toTry caught) h) (fun f s1 e => ?_) fun _ _ e => e)
  · rcases air with ⟨a, B, s0, _, σ1, H1, cls, d, rfl, I1, nb, up, sky, na, os, ag, meets, wish⟩
    have J0 : Inv X pins σ1 H1 s0 := I1.ofTry ok
    refine Sky.land (env := X.env) (outer := X.outer) Zc.steady hfr hf (hs ▸ sky) fun h2 fl2 up2 => ?_
    rcases in_suite hf (J0.landed nb fl2.1 (up.trans up2) os ag : Inv X pins σ1 H1 { s' with heap := h2 }) fl2 na with ⟨o2, z2, _, g2, S2⟩
    have look := PySem.W.exm_one (M := model X.prog X.w) (h := h2) S2.kIn (fun _ _ _ _ k q => wpAny_typeOf_ref (k _ _ g2) (z2.1.symm ▸ q)) meets
    refine wpAny_handleBy_cons (codeAny_handlers_test (clause_name S2 hc (look.here (codeAny_handlers_suite_as ?_)))) fun q => nomatch q
    refine HandSPX.lands_againZ fl2 fun h3 fl3 up3 => ?_
    rcases in_suite hf (J0.landed nb fl3.1 ((up.trans up2).trans up3) os ag : Inv X pins σ1 H1 { s' with heap := h3 }) fl3 na with ⟨o3, z3, v3, _, S3⟩
    exact store_ok (X := X.suite a ((a, o3) :: (X.pn ++ pins))) (v := V.ref a) S3 hN hi (.inl hln) rfl (fun s4 S4 => wpAny_mono ((hsu a o3 cls d _ z3 v3).run [] s4 _ H1 _ S4 (wish a na)) (fun f s5 e => sp_gone ok hN hi hln e) fun _ _ z => z.elim) (.inr hln)
  · cases f with
    | next => exact wpAny_execs_nil (sp_body ok e)
    | _ => exact sp_body ok e⟩
end
end Nc
namespace NcK
open PySem PySem.Spec PyProof.Rows L2 Nc
def topS (i : Nat) : Stmt := PySem.Challenge.pw_nearcells_k02_circles_of_sites.main.body.getD i (.Pass ⟨0, 0, 0, 0⟩)
/-! words of this text: bits, what stands in the heap, one step of a reading -/
local macro_rules | `(tactic| array_mem_dec) => `(tactic| first
  | (refine nbu (by assumption) (by decide); done)
  | (refine nbu (j := 21) (by omega) (by decide); done)
  | (refine nbm ?_ ?_ <;> array_mem_dec)
  | (refine nba (by decide) ?_ ?_ <;> array_mem_dec)
  | (refine nbs (by decide) ?_ ?_ <;> array_mem_dec)
  | (refine nbn ?_; array_mem_dec)
  | (refine nbu (j := 64) (by decide) (by decide); done))
local macro_rules | `(tactic| sizeOf_list_dec) => `(tactic| first
  | assumption
  | exact upd_same
  | (refine (by assumption : Same _ _) _ _ ?_; sizeOf_list_dec))
local macro_rules | `(tactic| array_get_dec) => `(tactic| first
  | refine ⟨_, rfl, ?_⟩
  | refine ⟨_, _, rfl, rfl, ?_⟩
  | refine ⟨_, _, _, _, rfl, rfl, SqT.of (by sizeOf_list_dec), by rfl, ?_⟩
  | refine ⟨_, _, _, _, rfl, rfl, SqL.of (by sizeOf_list_dec), by rfl, ?_⟩
  | refine ⟨_, _, rfl, SqT.of (by sizeOf_list_dec), by rfl, ?_⟩
  | refine ⟨_, _, _, _, _, rfl, .ty _, .base (.int _), kit_ty (r := true) (by decide +kernel), ?_⟩
  | refine ⟨_, _, _, _, _, rfl, .ty _, .base (.tup (by sizeOf_list_dec)), kit_ty (r := true) (by decide +kernel), ?_⟩
  | refine ⟨_, _, _, _, _, rfl, .ty _, .base (.lst (by sizeOf_list_dec)), kit_ty (r := true) (by decide +kernel), ?_⟩
  | refine ⟨_, _, rfl, .inr (SqT.of (by sizeOf_list_dec)), ?_⟩
  | refine ⟨_, _, rfl, .inl (SqL.of (by sizeOf_list_dec)), ?_⟩
  | refine w_itf (by omega) ?_
  | refine w_itt (by omega) ?_
  | refine w_ntt (by omega) ?_
  | refine w_ntf (by omega) ?_
  | refine ⟨_, _, rfl, ?_⟩
  | refine ⟨(by refine cmw ?_ ?_ <;> array_mem_dec : CMulW _ _), ?_⟩
  | refine ⟨⟨by decide, by decide, by decide⟩, ?_⟩
  | refine ⟨rfl, ?_⟩
  | refine ⟨_, _, _, rfl, ?_⟩)
abbrev sSrc : Stmt := topS 21
abbrev sNext : Stmt := topS 22
abbrev sOne : Stmt := topS 23
abbrev sCell : Stmt := topS 24
abbrev sSites : Stmt := topS 25
theorem scSrc : FnScope ["_law_number_here"] ["_law_number_here"] (defScope sSrc) := ⟨rfl, rfl, rfl, by decide +kernel, rfl, by decide +kernel, by decide +kernel⟩
theorem scNext : FnScope ["_law_source", "_law_many", "_law_found", "_law_prime", "_law_number"] ["_law_source", "_law_many"] (defScope sNext) := ⟨rfl, rfl, rfl, by decide +kernel, rfl, by decide +kernel, by decide +kernel⟩
theorem scOne : FnScope ["_law_source", "_law_some"] ["_law_source", "_law_some"] (defScope sOne) := ⟨rfl, rfl, rfl, by decide +kernel, rfl, by decide +kernel, by decide +kernel⟩
theorem scCell : FnScope ["_law_script", "_law_index"] ["_law_script", "_law_index"] (defScope sCell) := ⟨rfl, rfl, rfl, by decide +kernel, rfl, by decide +kernel, by decide +kernel⟩
section
variable {P : Program} {w : World} {K : PySem.W.Frag} {mg : Str → Option Value} {base : Heap}
/-! ### a source of a number -/
def spSrc : Sp := fun vs H Q _ => ∃ n : Int, vs = [.int n] ∧ ∀ p (a b c : Int), H p = none → Q (.ref p) (upd H p (.lst [.int a, .int b, .int c]))
theorem ok_src {f : Addr} {fd : FuncData} {k : Nat} (F : Fun K "_law_source_of" "_law_source_of" sSrc f fd) (mi : mg "int" = none) : FnOk P w K mg base CX0 (k + 1) f fd ["_law_number_here"] spSrc := by
  refine F.ok scSrc (fun vs H Q E h => ?_) (fun cdv A outer s H vs Q E hr h => ?_)
  · obtain ⟨n, rfl, _⟩ := h
    rfl
  · obtain ⟨n, rfl, q⟩ := h
    refine ⟨_, pss_cons (ps_set (i := 0) scSrc.nd rfl (.inl rfl) (pe_ifExp (pt_cmpR op_ge (pv 0) pe_int (nomark _)) (pv 0) (pe_op op_sub (pe_op op_sub pe_int (pe_op op_mul pe_int (pv 0))) pe_int)))
      (pss_one (ps_ret (pe_lst (pa_cons (pe_op op_mul (pv 0) (pe_callTy call_int1 (by rfl) mi (by decide +kernel) (pa_cons (pe_cmpR op_ge (pv 0) (pe_op op_pow pe_int pe_int) (nomark _)) pa_nil)))
        (pa_cons (pe_op op_mod (pe_callTy call_int1 (by rfl) mi (by decide +kernel) (pa_cons (pv 0) pa_nil)) pe_int) (pa_cons pe_int pa_nil)))))), ?_⟩
    refine ⟨_, rfl, _, _, rfl, rfl, _, rfl, ite2 (fun c => ?_) fun c => ?_⟩
    · refine ⟨_, rfl, _, rfl, _, rfl, _, _, rfl, rfl, ⟨by decide, by decide, by decide⟩, _, _, rfl, rfl, .inr ⟨_, rfl, _, _, rfl, rfl, .inr (b2i_small _), ?_⟩⟩
      exact ⟨_, rfl, .inl ⟨_, rfl, _, _, rfl, rfl, (by decide : (0 : Int) < 2147483647), by show 3 ≤ sizeLine; decide, fun p hp => q p _ _ _ hp⟩⟩
    · refine ⟨_, rfl, _, _, rfl, rfl, .inl ⟨by decide, by decide⟩, _, _, rfl, rfl, _, _, rfl, rfl, _, rfl, _, rfl, _, _, rfl, rfl, ⟨by decide, by decide, by decide⟩, _, _, rfl, rfl, .inr ⟨_, rfl, _, _, rfl, rfl, .inr (b2i_small _), ?_⟩⟩
      exact ⟨_, rfl, .inl ⟨_, rfl, _, _, rfl, rfl, (by decide : (0 : Int) < 2147483647), by show 3 ≤ sizeLine; decide, fun p hp => q p _ _ _ hp⟩⟩
end
section
variable {P : Program} {w : World} {K : PySem.W.Frag} {mg : Str → Option Value} {base : Heap}
/-! ### the next draw below many -/
def spNext : Sp := fun vs H Q _ => ∃ (s : Addr) (m : Int), vs = [.ref s, .int m] ∧ Src H s ∧ 0 < m ∧ m.natAbs < 2 ^ 8000 ∧ ∀ (r : Int) H', 0 ≤ r → r < m → Stp s H H' → Q (.int r) H'
theorem ok_next {f : Addr} {fd : FuncData} {k : Nat} (F : Fun K "_law_next" "_law_next" sNext f fd) (mi : mg "int" = none) : FnOk P w K mg base CX0 (k + 1) f fd ["_law_source", "_law_many"] spNext := by
  refine F.ok scNext (fun vs H Q E h => ?_) (fun cdv A outer s H vs Q E hr h => ?_)
  · obtain ⟨s, m, rfl, _⟩ := h
    rfl
  · obtain ⟨s, m, rfl, ⟨a, b, c, hs⟩, hm, hw, q⟩ := h
    have bi : bootBuiltins "int" = some (.type "int") := by decide +kernel
    refine ⟨_, pss_cons (ps_if (pt_cmpR op_gt (pe_ix ix_list (pv 0) pe_int (fun _ _ => rfl)) pe_int (nomark _))
        (pss_cons (ps_set (i := 2) scNext.nd rfl (.inl rfl) (pe_op op_mod (pe_callTy call_int1 (by rfl) mi bi (pa_cons (pe_ix ix_list (pv 0) pe_int (fun _ _ => rfl)) pa_nil)) (pv 1)))
          (pss_cons (ps_asg (pe_op op_fdivW (pe_ix ix_list (pv 0) pe_int (fun _ _ => rfl)) (pv 1)) (pg_sub (pv 0) pe_int set_list)) (pss_one (ps_ret (pv 2))))) pss_nil)
      (pss_cons (ps_asg (pe_op op_add (pe_ix ix_list (pv 0) pe_int (fun _ _ => rfl)) pe_int) (pg_sub (pv 0) pe_int set_list))
      (pss_cons (ps_set (i := 3) scNext.nd rfl (.inl rfl) pe_int)
      (pss_cons (ps_set (i := 4) scNext.nd rfl (.inl rfl) (pe_op op_mod (pe_callTy call_int1 (by rfl) mi bi (pa_cons (pe_op op_add (pe_op op_add (pe_ix ix_list (pv 0) pe_int (fun _ _ => rfl)) (pe_op op_mul pe_int (pe_ix ix_list (pv 0) pe_int (fun _ _ => rfl)))) pe_int) pa_nil)) (pv 3)))
      (pss_cons (ps_set (i := 4) scNext.nd rfl (.inl rfl) (pe_op op_mod (pe_callTy call_int1 (by rfl) mi bi (pa_cons (pe_op op_mul (pv 4) pe_int) pa_nil)) (pv 3)))
      (pss_cons (ps_set (i := 4) scNext.nd rfl (.inl rfl) (pe_op op_mod (pe_callTy call_int1 (by rfl) mi bi (pa_cons (pe_op op_mul (pv 4) (pe_op op_add (pe_op op_fdiv (pv 4) pe_int) pe_int)) pa_nil)) (pv 3)))
      (pss_cons (ps_set (i := 4) scNext.nd rfl (.inl rfl) (pe_op op_mod (pe_callTy call_int1 (by rfl) mi bi (pa_cons (pe_op op_mul (pv 4) (pe_op op_add (pe_op op_fdiv (pv 4) pe_int) pe_int)) pa_nil)) pe_int))
      (pss_one (ps_ret (pe_op op_mod (pe_callTy call_int1 (by rfl) mi bi (pa_cons (pe_op op_fdiv (pv 4) pe_int) pa_nil)) (pv 1)))))))))), ?_⟩
    have at0 : ∀ x y z : V, atI [x, y, z] 0 = some x := fun _ _ _ => rfl
    refine ⟨_, rfl, s, _, _, _, rfl, rfl, SqL.of hs, at0 _ _ _, _, _, rfl, rfl, _, rfl, ite2 (fun g => ?_) fun g => ?_⟩
    · refine ⟨_, rfl, s, _, _, _, rfl, rfl, SqL.of hs, at0 _ _ _, .inl ⟨_, rfl, _, rfl, _, _, rfl, rfl, hm, ?_⟩⟩
      refine ⟨_, rfl, s, _, _, _, rfl, rfl, SqL.of hs, at0 _ _ _, _, rfl, _, _, rfl, rfl, wide_div hm hw (by decide) (by decide), ?_⟩
      refine ⟨_, rfl, s, _, 0, 0, rfl, rfl, hs, rfl, ?_⟩
      exact ⟨_, rfl, q _ _ (Int.emod_nonneg _ (Int.ne_of_gt hm)) (Int.emod_lt_of_pos _ hm) ((Stp.refl ⟨a, b, c, hs⟩).turn _ _ _)⟩
    · refine ⟨_, rfl, s, _, _, _, rfl, rfl, SqL.of hs, rfl, _, _, rfl, rfl, ?_⟩
      refine ⟨_, rfl, s, _, 2, 2, rfl, rfl, hs, rfl, ?_⟩
      have h2 : (upd H s (.lst [.int a, .int b, .int (c + 1)])) s = some (.lst [.int a, .int b, .int (c + 1)]) := upd_same
      refine ⟨_, rfl, s, _, _, _, rfl, rfl, SqL.of h2, rfl, _, rfl, s, _, _, _, rfl, rfl, SqL.of h2, rfl, _, _, rfl, rfl, .inl ⟨by decide, by decide⟩, _, _, rfl, rfl, _, _, rfl, rfl, .inl ⟨_, rfl, ?_⟩⟩
      have hp : (0 : Int) < 2147483647 := by decide
      refine ⟨_, rfl, _, _, rfl, rfl, hp, ?_⟩
      refine ⟨_, rfl, _, _, rfl, rfl, .inr ⟨by decide, by decide⟩, .inl ⟨_, rfl, _, rfl, _, _, rfl, rfl, hp, ?_⟩⟩
      have b1 : 0 ≤ (b + 104729 * (c + 1) + 7919) % 2147483647 * 48271 % 2147483647 := Int.emod_nonneg _ (Int.ne_of_gt hp)
      have b2 : (b + 104729 * (c + 1) + 7919) % 2147483647 * 48271 % 2147483647 < 2147483647 := Int.emod_lt_of_pos _ hp
      generalize (b + 104729 * (c + 1) + 7919) % 2147483647 * 48271 % 2147483647 = n1 at b1 b2
      refine ⟨_, rfl, _, rfl, _, _, rfl, rfl, ⟨by decide, by decide⟩, _, _, rfl, rfl, _, _, rfl, rfl, .inl ⟨by omega, by omega⟩, .inl ⟨_, rfl, _, rfl, _, _, rfl, rfl, hp, ?_⟩⟩
      have c1 : 0 ≤ n1 * (n1 / 1009 + 69621) % 2147483647 := Int.emod_nonneg _ (Int.ne_of_gt hp)
      have c2 : n1 * (n1 / 1009 + 69621) % 2147483647 < 2147483647 := Int.emod_lt_of_pos _ hp
      generalize n1 * (n1 / 1009 + 69621) % 2147483647 = n2 at c1 c2
      refine ⟨_, rfl, _, rfl, _, _, rfl, rfl, ⟨by decide, by decide⟩, _, _, rfl, rfl, _, _, rfl, rfl, .inl ⟨by omega, by omega⟩, .inl ⟨_, rfl, _, _, rfl, rfl, (by decide : (0 : Int) < 2147483399), ?_⟩⟩
      refine ⟨_, rfl, _, _, rfl, rfl, ⟨by decide, by decide⟩, .inl ⟨_, rfl, _, rfl, _, _, rfl, rfl, hm, ?_⟩⟩
      exact q _ _ (Int.emod_nonneg _ (Int.ne_of_gt hm)) (Int.emod_lt_of_pos _ hm) ((Stp.refl ⟨a, b, c, hs⟩).turn _ _ _)
/-! ### one of some -/
/-- the source at s, some: a list of xs (another object than the source): one of xs -/
def spOne (K : PySem.W.Frag) : Sp := fun vs H Q _ => ∃ (s l : Addr) (xs : List V), vs = [.ref s, .ref l] ∧ Src H s ∧ H l = some (.lst xs) ∧ l ≠ s ∧ 0 < xs.length ∧ xs.length ≤ 1000 ∧ ∀ x H', x ∈ xs → Stp s H H' → Q x H'
theorem ok_one {f fN : Addr} {fd fdN : FuncData} {k : Nat} (F : Fun K "_law_one" "_law_one" sOne f fd) (GN : FnOk P w K mg base CX0 (k + 1) fN fdN ["_law_source", "_law_many"] spNext) (gN : mg "_law_next" = some (.ref fN)) (kN : PySem.W.keepIn K (.ref fN) = true) (bN : Binds K fdN ["_law_source", "_law_many"] [])
    (ml : mg "len" = none) : FnOk P w K mg base CX0 (k + 2) f fd ["_law_source", "_law_some"] (spOne K) := by
  refine F.ok scOne (fun vs H Q E h => ?_) (fun cdv A outer s H vs Q E hr h => ?_)
  · obtain ⟨s, l, xs, rfl, _⟩ := h
    rfl
  · obtain ⟨s, l, xs, rfl, hs, hl, hne, h0, h1, q⟩ := h
    refine ⟨_, pss_one (ps_ret (pe_ix ix_list (pv 1) (pe_call GN hr (by rfl) gN kN bN .nil pass0 (pa_cons (pv 0) (pa_cons (pe_callB call_len_seq (by rfl) ml (by decide +kernel) (pa_cons (pv 1) pa_nil)) pa_nil))) (fun _ _ => rfl))), ?_⟩
    refine ⟨_, rfl, _, rfl, _, rfl, l, xs, rfl, .inl (SqL.of hl), ?_⟩
    have small : ((xs.length : Nat) : Int).natAbs < 2 ^ 8000 := by
      rw [Int.natAbs_natCast]
      exact Nat.lt_of_le_of_lt h1 (Nat.lt_of_lt_of_le (by decide : 1000 < 2 ^ 10) (Nat.pow_le_pow_right (by decide) (by decide)))
    refine ⟨s, xs.length, rfl, hs, by omega, small, fun r H' r0 r1 st => ?_⟩
    have hl' := st.keep l _ hne hl
    have hr : r.toNat < xs.length := by omega
    have at1 : atI xs r = some xs[r.toNat] := by
      have z := atI_nat (List.getElem?_eq_getElem hr)
      rwa [Int.toNat_of_nonneg r0] at z
    exact ⟨l, xs, r, _, rfl, rfl, SqL.of hl', at1, q _ _ (List.getElem_mem hr) st⟩
/-! ### a cell of the script, 0 beyond its end -/
def spCell (K : PySem.W.Frag) : Sp := fun vs H Q _ => ∃ (a : Addr) (ns : List Int), vs = [.ref a, .int 0] ∧ SqL K H a (ns.map V.int) ∧ ns.length ≤ 1000 ∧ ∀ (n : Int) H', Same H H' → Q (.int n) H'
theorem ok_cell {f : Addr} {fd : FuncData} {k : Nat} (F : Fun K "_law_cell_at" "_law_cell_at" sCell f fd) : FnOk P w K mg base CX0 (k + 1) f fd ["_law_script", "_law_index"] (spCell K) := by
  refine F.ok scCell (fun vs H Q E h => ?_) (fun cdv A outer s H vs Q E hr h => ?_)
  · obtain ⟨a, ns, rfl, _⟩ := h
    rfl
  · obtain ⟨a, ns, rfl, hS, hlen, q⟩ := h
    refine ⟨_, pss_one (ps_ret (pe_ix ix_list (pe_op op_cat (pe_slice sl_list (pv 0) (po_some (pv 1)) (po_some (pe_op op_add (pv 1) pe_int))) (pe_lst (pa_cons pe_int pa_nil))) pe_int (fun _ _ => rfl))), ?_⟩
    refine ⟨_, rfl, _, rfl, _, rfl, _, rfl, _, _, rfl, rfl, _, rfl, a, ns.map V.int, rfl, hS, fun p np => ?_⟩
    refine ⟨by show 1 ≤ sizeLine; decide, fun p2 np2 => ?_⟩
    have e1 : (upd (upd H p (.lst (cutV (ns.map V.int) (some 0) (some (0 + 1))))) p2 (.lst [.int 0])) p = some (.lst (cutV (ns.map V.int) (some 0) (some (0 + 1)))) := by
      rw [upd_ne (ne_of_none upd_same np2)]
      exact upd_same
    have len : (cutV (ns.map V.int) (some 0) (some (0 + 1))).length ≤ ns.length := by
      have z := cutV_length (ns.map V.int) (some 0) (some (0 + 1))
      rwa [List.length_map] at z
    refine ⟨p, p2, _, _, rfl, rfl, e1, upd_same, ?_, fun p3 np3 => ?_⟩
    · refine Nat.le_trans (Nat.add_le_add_right (Nat.le_trans len hlen) _) (by decide)
    · obtain ⟨n, en⟩ : ∃ n : Int, (cutV (ns.map V.int) (some 0) (some (0 + 1)) ++ [V.int 0])[0]? = some (V.int n) := by
        unfold cutV
        rw [← List.map_drop, ← List.map_take]
        cases (List.take (HT.sIx (ns.map V.int).length (ns.map V.int).length (some (0 + 1)) - HT.sIx (ns.map V.int).length 0 (some 0)) (List.drop (HT.sIx (ns.map V.int).length 0 (some 0)) ns)) with
        | nil => exact ⟨0, rfl⟩
        | cons x r => exact ⟨x, rfl⟩
      refine ⟨p3, _, 0, .int n, rfl, rfl, SqL.of upd_same, atI_nat (j := 0) en, q n _ ?_⟩
      exact ((Same.upd np).trans (Same.upd np2)).trans (Same.upd np3)
end
/-! ### drawn sites -/
theorem scSites : FnScope ["_law_source", "_law_most", "_law_round_one", "_law_way", "_law_found", "_law_u", "_law_v", "_law_k", "_law_site", "_law_x", "_law_y"] ["_law_source", "_law_most"] (defScope sSites) := ⟨rfl, rfl, rfl, by decide +kernel, rfl, by decide +kernel, by decide +kernel⟩
section
variable {P : Program} {w : World} {K : PySem.W.Frag} {mg : Str → Option Value} {base : Heap}
/-- the source at s, a new list of sites, at least one, at most as many as are asked -/
def spSites : Sp := fun vs H Q _ => ∃ (s : Addr) (most : Int), vs = [.ref s, .int most] ∧ Src H s ∧ 0 < most ∧ most ≤ 1000 ∧
  ∀ (p : Addr) (ts : List Addr) H', Stp s H H' → H p = none → H' p = some (.lst (ts.map V.ref)) → 0 < ts.length → (ts.length : Int) ≤ most → Sits 1000000 H' ts → Q (.ref p) H'
/-- within the loop: what stands -/
structure SL (s R d : Addr) (rs : List Addr) (H H' : Hp) (kvs : List (List Key × V)) : Prop where
  st : Stp s H H'
  nR : H R = none
  nd : H d = none
  lR : H' R = some (.lst (rs.map V.ref))
  sR : Sits 5 H' rs
  dd : H' d = some (.dT kvs)
  kk : ∀ kv ∈ kvs, ∃ x y : Int, kv.1 = [Sum.inl x, Sum.inl y] ∧ Bd 999000 x y
theorem put_keys {kvs : List (List Key × V)} {x y : Int} {v : V} (h : ∀ kv ∈ kvs, ∃ x y : Int, kv.1 = [Sum.inl x, Sum.inl y] ∧ Bd 999000 x y) (b : Bd 999000 x y) : ∀ kv ∈ putK kvs [Sum.inl x, Sum.inl y] v, ∃ x y : Int, kv.1 = [Sum.inl x, Sum.inl y] ∧ Bd 999000 x y := by
  intro kv m
  unfold putK at m
  split at m
  · obtain ⟨u, mu, e⟩ := List.mem_map.mp m
    obtain ⟨x', y', e1, b1⟩ := h u mu
    refine ⟨x', y', ?_, b1⟩
    rw [← e]
    split
    · exact e1
    · exact e1
  · rcases List.mem_append.mp m with m | m
    · exact h kv m
    · have e := List.mem_singleton.mp m
      subst e
      exact ⟨x, y, rfl, b⟩
theorem put_pos {kvs : List (List Key × V)} {k : List Key} {v : V} : 0 < (putK kvs k v).length := by
  unfold putK
  split
  · rename_i h
    rw [List.length_map]
    cases kvs with
    | nil => cases h
    | cons a r => exact Nat.zero_lt_succ _
  · rw [List.length_append]
    exact Nat.lt_of_lt_of_le (Nat.zero_lt_succ _) (Nat.le_add_left _ _)
theorem SL.step {s R d : Addr} {rs : List Addr} {H H1 H2 : Hp} {kvs : List (List Key × V)} (h : SL s R d rs H H1 kvs) (q : Src H s) (a : Stp s H1 H2) : SL s R d rs H H2 kvs :=
  ⟨h.st.trans a, h.nR, h.nd, a.keep _ _ (q.nen h.nR) h.lR, h.sR.stp h.st.src a, a.keep _ _ (q.nen h.nd) h.dd, h.kk⟩
theorem ok_sites {f fN fO : Addr} {fd fdN fdO : FuncData} {k : Nat} (F : Fun K "_law_sites" "_law_sites" sSites f fd)
    (GN : FnOk P w K mg base CX0 (k + 1) fN fdN ["_law_source", "_law_many"] spNext) (gN : mg "_law_next" = some (.ref fN)) (kN : PySem.W.keepIn K (.ref fN) = true) (bN : Binds K fdN ["_law_source", "_law_many"] [])
    (GO : FnOk P w K mg base CX0 (k + 2) fO fdO ["_law_source", "_law_some"] (spOne K)) (gO : mg "_law_one" = some (.ref fO)) (kO : PySem.W.keepIn K (.ref fO) = true) (bO : Binds K fdO ["_law_source", "_law_some"] [])
    (mr : mg "range" = none) : FnOk P w K mg base CX0 (k + 3) f fd ["_law_source", "_law_most"] spSites := by
  refine F.ok scSites (fun vs H Q E h => ?_) (fun cdv A outer s H vs Q E hr h => ?_)
  · obtain ⟨s, m, rfl, _⟩ := h
    rfl
  · obtain ⟨s, most, rfl, hs, m0, m1, q⟩ := h
    have hr1 : Room (k + 1) _ := hr.mono (by omega)
    have nd := scSites.nd
    have bd : ∀ {x y : Int}, x.natAbs ≤ 5 → y.natAbs ≤ 5 → Bd 5 x y := fun h1 h2 => ⟨by omega, by omega, by omega, by omega⟩
    refine ⟨_, pss_cons (ps_set (i := 2) nd rfl (.inl rfl) (pe_lst
        (pa_sits (pe_sit (b := 5) (pa_cons pe_int (pa_cons pe_int pa_nil)) (bd (by decide) (by decide)))
        (pa_sits (pe_sit (b := 5) (pa_cons pe_int (pa_cons pe_int pa_nil)) (bd (by decide) (by decide)))
        (pa_sits (pe_sit (b := 5) (pa_cons pe_int (pa_cons pe_int pa_nil)) (bd (by decide) (by decide)))
        (pa_sits (pe_sit (b := 5) (pa_cons pe_int (pa_cons pe_int pa_nil)) (bd (by decide) (by decide)))
        (pa_sits (pe_sit (b := 5) (pa_cons pe_neg (pa_cons pe_int pa_nil)) (bd (by decide) (by decide)))
        (pa_sits (pe_sit (b := 5) (pa_cons pe_neg (pa_cons pe_int pa_nil)) (bd (by decide) (by decide)))
        (pa_sits (pe_sit (b := 5) (pa_cons pe_neg (pa_cons pe_int pa_nil)) (bd (by decide) (by decide)))
        (pa_sits (pe_sit (b := 5) (pa_cons pe_neg (pa_cons pe_neg pa_nil)) (bd (by decide) (by decide))) pa_sits0))))))))))
      (pss_cons (ps_set (i := 2) nd rfl (.inl rfl) (pe_op op_cat (pv 2) (pe_lst
        (pa_sits (pe_sit (b := 5) (pa_cons pe_neg (pa_cons pe_neg pa_nil)) (bd (by decide) (by decide)))
        (pa_sits (pe_sit (b := 5) (pa_cons pe_int (pa_cons pe_neg pa_nil)) (bd (by decide) (by decide)))
        (pa_sits (pe_sit (b := 5) (pa_cons pe_int (pa_cons pe_neg pa_nil)) (bd (by decide) (by decide)))
        (pa_sits (pe_sit (b := 5) (pa_cons pe_int (pa_cons pe_neg pa_nil)) (bd (by decide) (by decide))) pa_sits0)))))))
      (pss_cons (ps_par (i := 3) (j := 4) (by rfl) nd rfl rfl (by decide) rfl rfl (pa_cons (pe_call GN hr1 (by rfl) gN kN bN .nil pass0 (pa_cons (pv 0) (pa_cons pe_int pa_nil))) (pa_cons pe_dnewT pa_nil)) (by rfl))
      (pss_cons (ps_asg (pe_tup (pa_cons (pe_op op_sub (pe_call GN hr1 (by rfl) gN kN bN .nil pass0 (pa_cons (pv 0) (pa_cons pe_int pa_nil))) pe_int) (pa_cons (pe_op op_sub (pe_call GN hr1 (by rfl) gN kN bN .nil pass0 (pa_cons (pv 0) (pa_cons pe_int pa_nil))) pe_int) pa_nil)))
          (pg_tup (by rfl) (pgs_cons (pg_name (i := 5) nd rfl (.inr rfl)) (pgs_cons (pg_name (i := 6) nd rfl (.inr rfl)) pgs_nil))))
      (C8.pss_cut (ps_for PassesOwn.never rfl (pi_range1 (by rfl) mr (pa_cons (pe_op op_add pe_int (pe_call GN hr1 (by rfl) gN kN bN .nil pass0 (pa_cons (pv 0) (pa_cons (pv 1) pa_nil)))) pa_nil)) (pg_name (i := 7) nd rfl (.inl rfl))
          (pss_cons (ps_set (i := 8) nd rfl (.inl rfl) (pe_tup (pa_cons (pe_call GN hr1 (by rfl) gN kN bN .nil pass0 (pa_cons (pv 0) (pa_cons pe_int pa_nil))) (pa_cons (pe_call GN hr1 (by rfl) gN kN bN .nil pass0 (pa_cons (pv 0) (pa_cons pe_int pa_nil))) pa_nil))))
          (C8.pss_cut (ps_if (PW.pt (pw_and (pt_cmpR op_eq (pv 3) pe_int (nomark _)) (pw_and1 (pt_cmpR op_gt (pe_call GN hr1 (by rfl) gN kN bN .nil pass0 (pa_cons (pv 0) (pa_cons pe_int pa_nil))) pe_int (nomark _)))))
              (pss_one (ps_set (i := 8) nd rfl (.inl rfl) (pe_call GO hr (by rfl) gO kO bO .nil pass0 (pa_cons (pv 0) (pa_cons (pv 2) pa_nil))))) pss_nil)
          (C8.pss_cut (ps_if (pt_cmpR op_eq (pv 3) pe_int (nomark _))
              (pss_one (ps_set (i := 8) nd rfl (.inl rfl) (pe_tup (pa_cons (pe_op op_mul (pe_call GN hr1 (by rfl) gN kN bN .nil pass0 (pa_cons (pv 0) (pa_cons pe_int pa_nil))) pe_int)
                (pa_cons (pe_op op_mul (pe_call GN hr1 (by rfl) gN kN bN .nil pass0 (pa_cons (pv 0) (pa_cons pe_int pa_nil))) (pe_call GN hr1 (by rfl) gN kN bN .nil pass0 (pa_cons (pv 0) (pa_cons pe_int pa_nil)))) pa_nil))))) pss_nil)
          (C8.pss_cut (ps_if (pt_cmpR op_eq (pv 3) pe_int (nomark _))
              (pss_one (ps_set (i := 8) nd rfl (.inl rfl) (pe_tup (pa_cons (pe_op op_sub (pe_call GN hr1 (by rfl) gN kN bN .nil pass0 (pa_cons (pv 0) (pa_cons pe_int pa_nil))) pe_int)
                (pa_cons (pe_op op_sub (pe_call GN hr1 (by rfl) gN kN bN .nil pass0 (pa_cons (pv 0) (pa_cons pe_int pa_nil))) pe_int) pa_nil))))) pss_nil)
          (C8.pss_cut (ps_if (pt_cmpR op_eq (pv 3) pe_int (nomark _))
              (pss_one (ps_set (i := 8) nd rfl (.inl rfl) (pe_tup (pa_cons (pe_op op_sub (pe_call GN hr1 (by rfl) gN kN bN .nil pass0 (pa_cons (pv 0) (pa_cons pe_int pa_nil))) pe_int)
                (pa_cons (pe_op op_sub (pe_call GN hr1 (by rfl) gN kN bN .nil pass0 (pa_cons (pv 0) (pa_cons pe_int pa_nil))) pe_int) pa_nil))))) pss_nil)
          (pss_one (ps_dput (hu_of hr) (pv 4) (pv 8) pe_bl rfl))))))))
      (pss_one (ps_ret (pe_lock (pe_lc (own := [("_law_x", 9), ("_law_y", 10)]) (g := gTup K 2 (gCons (gName 9) (gCons (gName 10) gNil))) (tt := tYes) (te := tTup (tCons (tOp (rI0 fun i j => .int (i + j)) (tVar 9) (tVar 5)) (tCons (tOp (rI0 fun i j => .int (i + j)) (tVar 10) (tVar 6)) tNil))) rfl nd (pi_keys (pv 4)) (blkOk_by (own := [("_law_x", 9), ("_law_y", 10)]) (N := ["_law_source", "_law_most", "_law_round_one", "_law_way", "_law_found", "_law_u", "_law_v", "_law_k", "_law_site", "_law_x", "_law_y"]) (sc := defScope sSites) (by decide +kernel))
          (fun _ _ _ _ _ => by exact pg_tup rfl (pgs_cons (pg_name (i := 9) nd rfl (.inl rfl)) (pgs_cons (pg_name (i := 10) nd rfl (.inl rfl)) pgs_nil)))
          (fun _ _ _ _ _ => pts_nil)
          (fun _ _ _ _ _ => by exact pe_tup (pa_cons (pe_op op_add (pv 9) (pv 5)) (pa_cons (pe_op op_add (pv 10) (pv 6)) pa_nil))))))))))), ?_⟩
    -- the round ones
    refine fun ps1 H1 sm1 l1 st1 => ⟨by rw [List.length_map, l1]; decide, fun p1 np1 => ?_⟩
    have e1 : (upd H1 p1 (.lst (ps1.map V.ref))) p1 = some (.lst (ps1.map V.ref)) := upd_same
    have s1 : Same H (upd H1 p1 (.lst (ps1.map V.ref))) := sm1.trans (Same.upd np1)
    have t1 : Sits 5 (upd H1 p1 (.lst (ps1.map V.ref))) ps1 := st1.same (Same.upd np1)
    generalize upd H1 p1 (.lst (ps1.map V.ref)) = G1 at e1 s1 t1
    refine ⟨_, rfl, fun ps2 H2 sm2 l2 st2 => ⟨by rw [List.length_map, l2]; decide, fun p2 np2 => ?_⟩⟩
    have s2 : Same G1 (upd H2 p2 (.lst (ps2.map V.ref))) := sm2.trans (Same.upd np2)
    have e2 : (upd H2 p2 (.lst (ps2.map V.ref))) p2 = some (.lst (ps2.map V.ref)) := upd_same
    have t2 : Sits 5 (upd H2 p2 (.lst (ps2.map V.ref))) (ps1 ++ ps2) := fun r m => by
      rcases List.mem_append.mp m with m | m
      · exact (t1.same s2) r m
      · exact (st2.same (Same.upd np2)) r m
    have n2 : ∀ p, (upd H2 p2 (.lst (ps2.map V.ref))) p = none → H p = none := fun p e => (s1.trans s2).free e
    have s2' := s1.trans s2
    generalize upd H2 p2 (.lst (ps2.map V.ref)) = G2 at s2 e2 t2 n2 s2'
    refine ⟨p1, p2, _, _, rfl, rfl, s2 _ _ e1, e2, by rw [List.length_map, List.length_map, l1, l2]; decide, fun R nR => ?_⟩
    have eR : (upd G2 R (.lst (ps1.map V.ref ++ ps2.map V.ref))) R = some (.lst ((ps1 ++ ps2).map V.ref)) := by
      rw [List.map_append]
      exact upd_same
    have tR : Sits 5 (upd G2 R (.lst (ps1.map V.ref ++ ps2.map V.ref))) (ps1 ++ ps2) := t2.same (Same.upd nR)
    have sR : Stp s H (upd G2 R (.lst (ps1.map V.ref ++ ps2.map V.ref))) := (Stp.refl hs).same (s2'.trans (Same.upd nR))
    have lR : (ps1 ++ ps2).length = 12 := by rw [List.length_append, l1, l2]
    have nRH := n2 R nR
    generalize upd G2 R (.lst (ps1.map V.ref ++ ps2.map V.ref)) = G3 at eR tR sR
    generalize ps1 ++ ps2 = rs at eR tR lR
    -- way, found
    refine ⟨_, rfl, s, 5, rfl, sR.src, by decide, sm (by decide), fun w H4 w0 w1 st4 d nd4 => ⟨_, _, rfl, ?_⟩⟩
    have hRs : R ≠ s := hs.nen nRH
    have st04 := sR.trans st4
    have keep4 := st4.keep _ _ hRs eR
    have eR4 : (upd H4 d (.dT [])) R = some (.lst (rs.map V.ref)) := by
      rw [upd_ne (ne_of_none keep4 nd4)]
      exact keep4
    have sl4 : SL s R d rs H (upd H4 d (.dT [])) [] :=
      ⟨st04.new nd4, nRH, st04.free nd4, eR4, (tR.stp sR.src st4).same (Same.upd nd4), upd_same, fun _ m => nomatch m⟩
    generalize upd H4 d (.dT []) = G4 at sl4
    -- u, v
    refine ⟨_, rfl, s, 2001, rfl, sl4.st.src, by decide, sm (by decide), fun u0 H5 u1 u2 st5 => ⟨_, _, rfl, rfl, _, rfl, s, 2001, rfl, st5.src, by decide, sm (by decide), fun v0 H6 v1 v2 st6 => ⟨_, _, rfl, rfl, two_line, fun p4 np4 => ?_⟩⟩⟩
    have sl6 := ((sl4.step hs st5).step hs st6).step hs ((Stp.refl st6.src).new (o := .tup [.int (u0 - 1000), .int (v0 - 1000)]) np4)
    refine ⟨p4, _, rfl, SqT.of upd_same, rfl, _, _, rfl, _, _, rfl, rfl, ?_⟩
    generalize upd H6 p4 (.tup [.int (u0 - 1000), .int (v0 - 1000)]) = G6 at sl6
    refine ⟨fun σ' H' => ∃ y7 y8 kvs, σ' = [some (.ref s), some (.int most), some (.ref R), some (.int w), some (.ref d), some (.int (u0 - 1000)), some (.int (v0 - 1000)), y7, y8, none, none] ∧ SL s R d rs H H' kvs ∧ 0 < kvs.length ∧ (kvs.length : Int) ≤ most, ?_, ?_⟩
    · -- the loop
      refine ⟨_, rfl, _, rfl, s, most, rfl, sl6.st.src, m0, sm (by omega), fun n H7 n0 n1 st7 => ⟨_, _, rfl, rfl, _, rfl, by omega, by omega, ?_⟩⟩
      have sl7 := sl6.step hs st7
      refine for_range (lo := 0) (n := (1 + n).toNat) (fun i σ' H' => ∃ y7 y8 kvs, σ' = [some (.ref s), some (.int most), some (.ref R), some (.int w), some (.ref d), some (.int (u0 - 1000)), some (.int (v0 - 1000)), y7, y8, none, none] ∧ SL s R d rs H H' kvs ∧ (0 < i → 0 < kvs.length) ∧ kvs.length ≤ i)
        ⟨none, none, [], rfl, sl7, fun z => absurd z (Nat.lt_irrefl _), Nat.le_refl _⟩ ?_ ?_
      · rintro i σ' H' hi ⟨y7, y8, kvs, rfl, sl, c1, c2⟩
        refine ⟨_, rfl, s, 4, rfl, sl.st.src, by decide, sm (by decide), fun a Ha a0 a1 sta => ⟨_, rfl, s, 4, rfl, sta.src, by decide, sm (by decide), fun b Hb b0 b1 stb => ⟨two_line, fun t nt => ?_⟩⟩⟩
        have sl1 := ((sl.step hs sta).step hs stb).step hs ((Stp.refl stb.src).new (o := .tup [.int a, .int b]) nt)
        have e1 : Sit (upd Hb t (.tup [.int a, .int b])) t a b := upd_same
        have d1 : Bd 999000 a b := ⟨by omega, by omega, by omega, by omega⟩
        generalize upd Hb t (.tup [.int a, .int b]) = Hc at sl1 e1
        -- between the ifs
        let M : L2.St → Hp → Prop := fun σ' H' => ∃ (t : Addr) (x y : Int), σ' = [some (V.ref s), some (V.int most), some (V.ref R), some (V.int w), some (V.ref d), some (V.int (u0 - 1000)), some (V.int (v0 - 1000)), some (V.int (0 + i)), some (V.ref t), none, none] ∧ SL s R d rs H H' kvs ∧ Sit H' t x y ∧ Bd 999000 x y
        have m1 : M [some (V.ref s), some (V.int most), some (V.ref R), some (V.int w), some (V.ref d), some (V.int (u0 - 1000)), some (V.int (v0 - 1000)), some (V.int (0 + i)), some (V.ref t), none, none] Hc := ⟨t, a, b, rfl, sl1, e1, d1⟩
        refine ⟨M, ⟨_, rfl, rfl, _, rfl, ?_⟩, ?_⟩
        · refine ite2 (fun _ => ?_) (fun _ => m1)
          refine ⟨_, rfl, s, 4, rfl, sl1.st.src, by decide, sm (by decide), fun a Ha a0 a1 sta => ⟨_, _, rfl, rfl, _, rfl, ite2 (fun _ => ?_) fun _ => ⟨t, _, _, rfl, sl1.step hs sta, e1.stp sl1.st.src sta, d1⟩⟩⟩
          have sl2 := sl1.step hs sta
          refine ⟨_, rfl, _, rfl, s, R, _, rfl, sl2.st.src, sl2.lR, hRs, by rw [List.length_map, lR]; decide, by rw [List.length_map, lR]; decide, fun x H' mx st => ?_⟩
          obtain ⟨r, mr', rfl⟩ := List.mem_map.mp mx
          obtain ⟨x, y, er, dr⟩ := sl2.sR r mr'
          exact ⟨r, x, y, rfl, sl2.step hs st, er.stp sl2.st.src st, dr.mono (by decide)⟩
        rintro σ' H' ⟨t, x, y, rfl, sl, et, dt⟩
        -- the others
        refine ⟨M, ⟨_, rfl, rfl, _, rfl, ite2 (fun _ => ?_) fun _ => ⟨t, x, y, rfl, sl, et, dt⟩⟩, ?_⟩
        · refine ⟨_, rfl, s, 9, rfl, sl.st.src, by decide, sm (by decide), fun a Ha a0 a1 sta => ⟨_, _, rfl, rfl, .inr ⟨by decide, by decide⟩, _, rfl, s, 9, rfl, sta.src, by decide, sm (by decide), fun b Hb b0 b1 stb => ?_⟩⟩
          refine ⟨_, rfl, s, 2, rfl, stb.src, by decide, sm (by decide), fun c Hd c0 c1 stc => ⟨_, _, rfl, rfl, .inr ⟨by omega, by omega⟩, two_line, fun t nt => ?_⟩⟩
          refine ⟨t, _, _, rfl, (((sl.step hs sta).step hs stb).step hs stc).step hs ((Stp.refl stc.src).new nt), upd_same, ?_⟩
          have hc : c = 0 ∨ c = 1 := by omega
          rcases hc with rfl | rfl
          · exact ⟨by omega, by omega, by omega, by omega⟩
          · exact ⟨by omega, by omega, by omega, by omega⟩
        rintro σ' H' ⟨t, x, y, rfl, sl, et, dt⟩
        refine ⟨M, ⟨_, rfl, rfl, _, rfl, ite2 (fun _ => ?_) fun _ => ⟨t, x, y, rfl, sl, et, dt⟩⟩, ?_⟩
        · refine ⟨_, rfl, s, 41, rfl, sl.st.src, by decide, sm (by decide), fun a Ha a0 a1 sta => ⟨_, _, rfl, rfl, _, rfl, s, 41, rfl, sta.src, by decide, sm (by decide), fun b Hb b0 b1 stb => ⟨_, _, rfl, rfl, two_line, fun t nt => ?_⟩⟩⟩
          exact ⟨t, _, _, rfl, ((sl.step hs sta).step hs stb).step hs ((Stp.refl stb.src).new nt), upd_same, by omega, by omega, by omega, by omega⟩
        rintro σ' H' ⟨t, x, y, rfl, sl, et, dt⟩
        refine ⟨M, ⟨_, rfl, rfl, _, rfl, ite2 (fun _ => ?_) fun _ => ⟨t, x, y, rfl, sl, et, dt⟩⟩, ?_⟩
        · refine ⟨_, rfl, s, 1998001, rfl, sl.st.src, by decide, sm (by decide), fun a Ha a0 a1 sta => ⟨_, _, rfl, rfl, _, rfl, s, 1998001, rfl, sta.src, by decide, sm (by decide), fun b Hb b0 b1 stb => ⟨_, _, rfl, rfl, two_line, fun t nt => ?_⟩⟩⟩
          exact ⟨t, _, _, rfl, ((sl.step hs sta).step hs stb).step hs ((Stp.refl stb.src).new nt), upd_same, by omega, by omega, by omega, by omega⟩
        rintro σ' H' ⟨t, x, y, rfl, sl, et, dt⟩
        -- found[site] = True
        have nds : d ≠ s := hs.nen sl.nd
        have hlen : kvs.length < sizeLine := Nat.lt_of_lt_of_le (Nat.lt_of_le_of_lt c2 hi) (Nat.le_trans (by omega) (by decide : 1000 ≤ sizeLine))
        refine ⟨_, rfl, _, rfl, d, _, rfl, DPut.t (k := [Sum.inl x, Sum.inl y]) sl.dd et hlen, ?_⟩
        refine ⟨_, _, _, rfl, ⟨sl.st.set sl.nd nds, sl.nR, sl.nd, ?_, sl.sR.put fun x y z => ?_, upd_same, put_keys sl.kk dt⟩, fun _ => put_pos, ?_⟩
        · rw [upd_ne (ne_of sl.lR sl.dd (by intro z; cases z))]
          exact sl.lR
        · rw [sl.dd] at z
          cases z
        · exact Nat.le_trans (length_putK _ _ _) (Nat.succ_le_succ c2)
      · rintro σ' H' ⟨y7, y8, kvs, rfl, sl, c1, c2⟩
        exact ⟨y7, y8, kvs, rfl, sl, c1 (by omega), by omega⟩
    · -- the sites, moved
      rintro σ' H' ⟨y7, y8, kvs, rfl, sl, c1, c2⟩
      have nds : d ≠ s := hs.nen sl.nd
      refine ⟨d, _, sl.dd, True.intro, fun od => ⟨_, rfl, d, od, rfl, .inr ⟨kvs, upd_same, fun D nD => ?_⟩⟩⟩
      have nDd : D ≠ d := fun z => by
        rw [z, upd_same] at nD
        cases nD
      refine lc_it walk_keysT (fun i Hc => Same (upd H' d (.frz od (.dT kvs))) Hc ∧ ∃ ts : List Addr, Hc D = some (.lst (ts.map V.ref)) ∧ ts.length = i ∧ Sits 1000000 Hc ts)
        ⟨Same.upd nD, [], upd_same, rfl, fun _ m => nomatch m⟩ (fun i Hc _ z => z.1 _ _ upd_same) ?_ ?_
      · rintro i x Hc0 Hc hi ⟨sm', ts, eD, lt, tt⟩ ⟨rfl, k, v, p, ek, rfl, ep⟩
        obtain ⟨x, y, e1, b1⟩ := sl.kk (k, v) (List.mem_of_getElem? ek)
        have e1 : k = [Sum.inl x, Sum.inl y] := e1
        subst e1
        refine ⟨p, _, rfl, SqT.of ep, rfl, _, _, rfl, _, _, rfl, rfl, rfl, ?_⟩
        refine ⟨_, rfl, _, rfl, _, _, rfl, rfl, _, rfl, _, rfl, _, _, rfl, rfl, two_line, fun r nr => ?_⟩
        have eD' : (upd Hc r (.tup [.int (x + (u0 - 1000)), .int (y + (v0 - 1000))])) D = some (.lst (ts.map V.ref)) := (Same.upd nr) _ _ eD
        refine ⟨_, eD', ?_, ?_⟩
        · rw [List.length_map, lt]
          exact Nat.lt_of_lt_of_le hi (Nat.le_trans (by omega) (by decide : 1000 ≤ sizeLine))
        · have nr' : r ≠ D := (ne_of_none eD nr).symm
          refine ⟨fun b o e => ?_, ts ++ [r], ?_, by rw [List.length_append, lt]; rfl, fun q m => ?_⟩
          · have nbD : b ≠ D := ne_of_none e nD
            rw [upd_ne nbD]
            exact (Same.upd nr) _ _ (sm' b o e)
          · rw [List.map_append]
            exact upd_same
          · obtain ⟨h1, h2, h3, h4⟩ := b1
            rcases List.mem_append.mp m with m | m
            · have z := (tt.same (Same.upd (o := .tup [.int (x + (u0 - 1000)), .int (y + (v0 - 1000))]) nr)).put (p := D) (o := .lst (ts.map V.ref ++ [.ref r])) (fun x y z => by rw [eD'] at z; cases z)
              exact z q m
            · have e : q = r := List.mem_singleton.mp m
              subst e
              refine ⟨x + (u0 - 1000), y + (v0 - 1000), ?_, by omega, by omega, by omega, by omega⟩
              show upd _ D _ q = _
              rw [upd_ne nr', upd_same]
      · rintro Hc ⟨sm', ts, eD, lt, tt⟩
        refine ⟨sm' _ _ upd_same, q D ts _ ⟨fun b o nb e => ?_, ?_⟩ ?_ ?_ (by omega) (by omega) (tt.put fun x y z => ?_)⟩
        · have nbd : b ≠ d := ne_of_none e sl.nd
          rw [upd_ne nbd]
          refine sm' _ _ ?_
          rw [upd_ne nbd]
          exact sl.st.keep b o nb e
        · obtain ⟨x, y, z, e⟩ := sl.st.src
          refine ⟨x, y, z, ?_⟩
          rw [upd_ne nds.symm]
          refine sm' _ _ ?_
          rw [upd_ne nds.symm]
          exact e
        · rw [upd_ne nDd] at nD
          exact sl.st.free nD
        · rw [upd_ne nDd]
          exact eD
        · rw [sm' _ _ upd_same] at z
          cases z
end
/-! ### the program's own defs: what a site is -/
abbrev sIsSite : Stmt := topS 9
abbrev sToS : Stmt := topS 10
abbrev sCheck : Stmt := topS 11
theorem scIsSite : FnScope ["value", "x", "y"] ["value"] (defScope sIsSite) := ⟨rfl, rfl, rfl, by decide +kernel, rfl, by decide +kernel, by decide +kernel⟩
theorem scToS : FnScope ["a", "b", "c", "ax", "ay", "bx", "by", "cx", "cy"] ["a", "b", "c"] (defScope sToS) := ⟨rfl, rfl, rfl, by decide +kernel, rfl, by decide +kernel, by decide +kernel⟩
theorem scCheck : FnScope ["value", "name"] ["value", "name"] (defScope sCheck) := ⟨rfl, rfl, rfl, by decide +kernel, rfl, by decide +kernel, by decide +kernel⟩
section
variable {P : Program} {w : World} {K : PySem.W.Frag} {mg : Str → Option Value} {base : Heap}
/-- a number is neither True nor False -/
theorem op_isIB {X : Cx} : OpR X (compareOp .Is) (fun x y H Q => ∃ (n : Int) (b : Bool), x = .int n ∧ y = .bl b ∧ Q (.bl false) H) := by
  intro pins s σ H x y v u Q I rx ry h
  obtain ⟨n, b, rfl, rfl, q⟩ := h
  obtain ⟨t, rfl⟩ := rx
  cases (show u = Value.bool b from ry)
  exact wpAny_is_other rfl (fun z => by cases z) ⟨.bl false, H, I, rfl, q⟩
theorem itf {p A B : Prop} [Decidable p] (h : ¬ p) (b : B) : if decide p = true then A else B := by
  rw [decide_eq_false h]
  exact b
theorem itt {p A B : Prop} [Decidable p] (h : p) (a : A) : if decide p = true then A else B := by
  rw [decide_eq_true h]
  exact a
theorem kTT (K : PySem.W.Frag) : PySem.W.kitOne K (.type "tuple") (.type "tuple") = some true := kit_ty (by decide +kernel)
theorem kII (K : PySem.W.Frag) : PySem.W.kitOne K (.type "int") (.type "int") = some true := kit_ty (by decide +kernel)
/-- a site -/
def spIsSite : Sp := fun vs H Q _ => ∃ (t : Addr) (x y : Int), vs = [.ref t] ∧ Sit H t x y ∧ Bd 1000000 x y ∧ Q (.bl true) H
theorem ok_issite {f : Addr} {fd : FuncData} {k : Nat} (F : Fun K "is_site" "is_site" sIsSite f fd) (misinstance : mg "isinstance" = none) (mtuple : mg "tuple" = none) (mint : mg "int" = none) (mlen : mg "len" = none) : FnOk P w K mg base CX0 (k + 1) f fd ["value"] spIsSite := by
  refine F.ok scIsSite (fun vs H Q E h => ?_) (fun cdv A outer s H vs Q E hr h => ?_)
  · obtain ⟨t, x, y, rfl, _⟩ := h
    rfl
  · obtain ⟨t, x, y, rfl, h, d, q⟩ := h
    have nd := scIsSite.nd
    obtain ⟨d1, d2, d3, d4⟩ := d
    refine ⟨_, (pss_cons (ps_if (PW.pt (pw_or (pt_not (pt_val (pe_callB call_isi (by rfl) misinstance (by decide +kernel) (pa_cons (pv 0) (pa_cons (pe_bltn (v := .ty "tuple") (by rfl) mtuple (by decide +kernel) rfl) pa_nil))))) (pw_or1 (pt_cmpR op_ne (pe_callB call_len_seq (by rfl) mlen (by decide +kernel) (pa_cons (pv 0) pa_nil)) pe_int (nomark _))))) (pss_one (ps_ret pe_bl)) pss_nil) (pss_cons (ps_asg (pv 0) (pg_tup (by rfl) (pgs_cons (pg_name (i := 1) nd rfl (.inl rfl)) (pgs_cons (pg_name (i := 2) nd rfl (.inl rfl)) pgs_nil)))) (pss_cons (ps_if (PW.pt (pw_or (pt_not (pt_val (pe_callB call_isi (by rfl) misinstance (by decide +kernel) (pa_cons (pv 1) (pa_cons (pe_bltn (v := .ty "int") (by rfl) mint (by decide +kernel) rfl) pa_nil))))) (pw_or1 (pt_not (pt_val (pe_callB call_isi (by rfl) misinstance (by decide +kernel) (pa_cons (pv 2) (pa_cons (pe_bltn (v := .ty "int") (by rfl) mint (by decide +kernel) rfl) pa_nil)))))))) (pss_one (ps_ret pe_bl)) pss_nil) (pss_cons (ps_if (PW.pt (pw_or (pt_cmpR op_isIB (pv 1) pe_bl (nomark _)) (pw_or (pt_cmpR op_isIB (pv 1) pe_bl (nomark _)) (pw_or (pt_cmpR op_isIB (pv 2) pe_bl (nomark _)) (pw_or1 (pt_cmpR op_isIB (pv 2) pe_bl (nomark _))))))) (pss_one (ps_ret pe_bl)) pss_nil) (pss_cons (ps_if (PW.pt (pw_or (pt_cmpR op_gt (pv 1) pe_int (nomark _)) (pw_or (pt_cmpR op_lt (pv 1) pe_neg (nomark _)) (pw_or (pt_cmpR op_gt (pv 2) pe_int (nomark _)) (pw_or1 (pt_cmpR op_lt (pv 2) pe_neg (nomark _))))))) (pss_one (ps_ret pe_bl)) pss_nil) (pss_one (ps_ret pe_bl))))))), ?_⟩
    exact ⟨_, rfl, _, _, _, _, _, rfl, .ty "tuple", .base (.tup h), kTT K, _, rfl, _, rfl, _, _, rfl, .inr (SqT.of h), rfl, _, rfl, _, rfl, _, _, rfl, SqT.of h, rfl, _, _, rfl, _, _, rfl, rfl, _, rfl, _, _, _, _, _, rfl, .ty "int", .base (.int _), kII K, _, rfl, _, rfl, _, _, _, _, _, rfl, .ty "int", .base (.int _), kII K, _, rfl, _, rfl, _, _, rfl, rfl, _, rfl, _, rfl, _, _, rfl, rfl, _, rfl, _, rfl, _, _, rfl, rfl, _, rfl, _, rfl, _, _, rfl, rfl, _, rfl, _, rfl, _, _, rfl, rfl, _, rfl, itf (by omega) ⟨_, rfl, _, _, rfl, rfl, _, rfl, itf (by omega) ⟨_, rfl, _, _, rfl, rfl, _, rfl, itf (by omega) ⟨_, rfl, _, _, rfl, rfl, _, rfl, itf (by omega) q⟩⟩⟩⟩
def spCheck : Sp := fun vs H Q _ => ∃ (t : Addr) (x y : Int) (z : Str), vs = [.ref t, .str z] ∧ Sit H t x y ∧ Bd 1000000 x y ∧ Q .non H
theorem ok_check {f fS : Addr} {fd fdS : FuncData} {k : Nat} (F : Fun K "check_site" "check_site" sCheck f fd)
    (GS : FnOk P w K mg base CX0 (k + 1) fS fdS ["value"] spIsSite) (gS : mg "is_site" = some (.ref fS)) (kS : PySem.W.keepIn K (.ref fS) = true) (bS : Binds K fdS ["value"] []) : FnOk P w K mg base CX0 (k + 2) f fd ["value", "name"] spCheck := by
  refine F.ok scCheck (fun vs H Q E h => ?_) (fun cdv A outer s H vs Q E hr h => ?_)
  · obtain ⟨t, x, y, z, rfl, _⟩ := h
    rfl
  · obtain ⟨t, x, y, z, rfl, hx, d, q⟩ := h
    exact ⟨_, pss_one (ps_if (pt_not (pt_val (pe_call GS hr (by rfl) gS kS bS .nil pass0 (pa_cons (pv 0) pa_nil)))) (pss_one ps_never) pss_nil), _, rfl, t, x, y, rfl, hx, d, _, rfl, q⟩
/-- the double area -/
def tri (ax ay bx by' cx cy : Int) : Int := (bx - ax) * (cy - ay) - (by' - ay) * (cx - ax)
/-- three sites, and what is told of their numbers -/
def sp3 (K : PySem.W.Frag) (v : Int → Int → Int → Int → Int → Int → V) : Sp := fun vs H Q _ => ∃ (a b c : Addr) (ax ay bx by' cx cy : Int), vs = [.ref a, .ref b, .ref c] ∧ Sit H a ax ay ∧ Sit H b bx by' ∧ Sit H c cx cy ∧
  Bd 1000000 ax ay ∧ Bd 1000000 bx by' ∧ Bd 1000000 cx cy ∧ Q (v ax ay bx by' cx cy) H
theorem tri_m1 {ax ay bx cy : Int} (a : -1000000 ≤ ax ∧ ax ≤ 1000000) (b : -1000000 ≤ bx ∧ bx ≤ 1000000) : CMul (bx - ax) (cy - ay) := .inl ⟨by omega, by omega⟩
theorem ok_tos {f : Addr} {fd : FuncData} {k : Nat} (F : Fun K "turn_of_sites" "turn_of_sites" sToS f fd) (misinstance : mg "isinstance" = none) (mtuple : mg "tuple" = none) (mint : mg "int" = none) (mlen : mg "len" = none) : FnOk P w K mg base CX0 (k + 1) f fd ["a", "b", "c"] (sp3 K fun ax ay bx by' cx cy => .int (tri ax ay bx by' cx cy)) := by
  refine F.ok scToS (fun vs H Q E h => ?_) (fun cdv A outer s H vs Q E hr h => ?_)
  · obtain ⟨a, b, c, ax, ay, bx, by', cx, cy, rfl, _⟩ := h
    rfl
  · obtain ⟨a, b, c, ax, ay, bx, by', cx, cy, rfl, ha, hb, hc, da, db, dc, q⟩ := h
    have m1 : CMul (bx - ax) (cy - ay) := tri_m1 ⟨da.1, da.2.1⟩ ⟨db.1, db.2.1⟩
    have m2 : CMul (by' - ay) (cx - ax) := tri_m1 da.2.2 db.2.2
    have nd := scToS.nd
    obtain ⟨a1, a2, a3, a4⟩ := da
    obtain ⟨b1, b2, b3, b4⟩ := db
    obtain ⟨c1, c2, c3, c4⟩ := dc
    refine ⟨_, (pss_cons (ps_if (PW.pt (pw_or (pt_not (pt_val (pe_callB call_isi (by rfl) misinstance (by decide +kernel) (pa_cons (pv 0) (pa_cons (pe_bltn (v := .ty "tuple") (by rfl) mtuple (by decide +kernel) rfl) pa_nil))))) (pw_or (pt_not (pt_val (pe_callB call_isi (by rfl) misinstance (by decide +kernel) (pa_cons (pv 1) (pa_cons (pe_bltn (v := .ty "tuple") (by rfl) mtuple (by decide +kernel) rfl) pa_nil))))) (pw_or1 (pt_not (pt_val (pe_callB call_isi (by rfl) misinstance (by decide +kernel) (pa_cons (pv 2) (pa_cons (pe_bltn (v := .ty "tuple") (by rfl) mtuple (by decide +kernel) rfl) pa_nil))))))))) (pss_one (ps_ret pe_non)) pss_nil) (pss_cons (ps_if (PW.pt (pw_or (pt_cmpR op_ne (pe_callB call_len_seq (by rfl) mlen (by decide +kernel) (pa_cons (pv 0) pa_nil)) pe_int (nomark _)) (pw_or (pt_cmpR op_ne (pe_callB call_len_seq (by rfl) mlen (by decide +kernel) (pa_cons (pv 1) pa_nil)) pe_int (nomark _)) (pw_or1 (pt_cmpR op_ne (pe_callB call_len_seq (by rfl) mlen (by decide +kernel) (pa_cons (pv 2) pa_nil)) pe_int (nomark _)))))) (pss_one (ps_ret pe_non)) pss_nil) (pss_cons (ps_asg (pv 0) (pg_tup (by rfl) (pgs_cons (pg_name (i := 3) nd rfl (.inl rfl)) (pgs_cons (pg_name (i := 4) nd rfl (.inl rfl)) pgs_nil)))) (pss_cons (ps_asg (pv 1) (pg_tup (by rfl) (pgs_cons (pg_name (i := 5) nd rfl (.inl rfl)) (pgs_cons (pg_name (i := 6) nd rfl (.inl rfl)) pgs_nil)))) (pss_cons (ps_asg (pv 2) (pg_tup (by rfl) (pgs_cons (pg_name (i := 7) nd rfl (.inl rfl)) (pgs_cons (pg_name (i := 8) nd rfl (.inl rfl)) pgs_nil)))) (pss_cons (ps_if (PW.pt (pw_or (pt_not (pt_val (pe_callB call_isi (by rfl) misinstance (by decide +kernel) (pa_cons (pv 3) (pa_cons (pe_bltn (v := .ty "int") (by rfl) mint (by decide +kernel) rfl) pa_nil))))) (pw_or (pt_not (pt_val (pe_callB call_isi (by rfl) misinstance (by decide +kernel) (pa_cons (pv 5) (pa_cons (pe_bltn (v := .ty "int") (by rfl) mint (by decide +kernel) rfl) pa_nil))))) (pw_or1 (pt_not (pt_val (pe_callB call_isi (by rfl) misinstance (by decide +kernel) (pa_cons (pv 7) (pa_cons (pe_bltn (v := .ty "int") (by rfl) mint (by decide +kernel) rfl) pa_nil))))))))) (pss_one (ps_ret pe_non)) pss_nil) (pss_cons (ps_if (PW.pt (pw_or (pt_not (pt_val (pe_callB call_isi (by rfl) misinstance (by decide +kernel) (pa_cons (pv 4) (pa_cons (pe_bltn (v := .ty "int") (by rfl) mint (by decide +kernel) rfl) pa_nil))))) (pw_or (pt_not (pt_val (pe_callB call_isi (by rfl) misinstance (by decide +kernel) (pa_cons (pv 6) (pa_cons (pe_bltn (v := .ty "int") (by rfl) mint (by decide +kernel) rfl) pa_nil))))) (pw_or1 (pt_not (pt_val (pe_callB call_isi (by rfl) misinstance (by decide +kernel) (pa_cons (pv 8) (pa_cons (pe_bltn (v := .ty "int") (by rfl) mint (by decide +kernel) rfl) pa_nil))))))))) (pss_one (ps_ret pe_non)) pss_nil) (pss_cons (ps_if (PW.pt (pw_or (pt_cmpR op_isIB (pv 3) pe_bl (nomark _)) (pw_or (pt_cmpR op_isIB (pv 3) pe_bl (nomark _)) (pw_or (pt_cmpR op_isIB (pv 5) pe_bl (nomark _)) (pw_or (pt_cmpR op_isIB (pv 5) pe_bl (nomark _)) (pw_or (pt_cmpR op_isIB (pv 7) pe_bl (nomark _)) (pw_or1 (pt_cmpR op_isIB (pv 7) pe_bl (nomark _))))))))) (pss_one (ps_ret pe_non)) pss_nil) (pss_cons (ps_if (PW.pt (pw_or (pt_cmpR op_isIB (pv 4) pe_bl (nomark _)) (pw_or (pt_cmpR op_isIB (pv 4) pe_bl (nomark _)) (pw_or (pt_cmpR op_isIB (pv 6) pe_bl (nomark _)) (pw_or (pt_cmpR op_isIB (pv 6) pe_bl (nomark _)) (pw_or (pt_cmpR op_isIB (pv 8) pe_bl (nomark _)) (pw_or1 (pt_cmpR op_isIB (pv 8) pe_bl (nomark _))))))))) (pss_one (ps_ret pe_non)) pss_nil) (pss_cons (ps_if (PW.pt (pw_or (pt_cmpR op_gt (pv 3) pe_int (nomark _)) (pw_or (pt_cmpR op_lt (pv 3) pe_neg (nomark _)) (pw_or (pt_cmpR op_gt (pv 5) pe_int (nomark _)) (pw_or1 (pt_cmpR op_lt (pv 5) pe_neg (nomark _))))))) (pss_one (ps_ret pe_non)) pss_nil) (pss_cons (ps_if (PW.pt (pw_or (pt_cmpR op_gt (pv 4) pe_int (nomark _)) (pw_or (pt_cmpR op_lt (pv 4) pe_neg (nomark _)) (pw_or (pt_cmpR op_gt (pv 6) pe_int (nomark _)) (pw_or1 (pt_cmpR op_lt (pv 6) pe_neg (nomark _))))))) (pss_one (ps_ret pe_non)) pss_nil) (pss_cons (ps_if (PW.pt (pw_or (pt_cmpR op_gt (pv 7) pe_int (nomark _)) (pw_or (pt_cmpR op_lt (pv 7) pe_neg (nomark _)) (pw_or (pt_cmpR op_gt (pv 8) pe_int (nomark _)) (pw_or1 (pt_cmpR op_lt (pv 8) pe_neg (nomark _))))))) (pss_one (ps_ret pe_non)) pss_nil) (pss_one (ps_ret (pe_op op_sub (pe_op op_mul (pe_op op_sub (pv 5) (pv 3)) (pe_op op_sub (pv 8) (pv 4))) (pe_op op_mul (pe_op op_sub (pv 6) (pv 4)) (pe_op op_sub (pv 7) (pv 3)))))))))))))))))), ?_⟩
    exact ⟨_, rfl, _, _, _, _, _, rfl, .ty "tuple", .base (.tup ha), kTT K, _, rfl, _, rfl, _, _, _, _, _, rfl, .ty "tuple", .base (.tup hb), kTT K, _, rfl, _, rfl, _, _, _, _, _, rfl, .ty "tuple", .base (.tup hc), kTT K, _, rfl, _, rfl, _, _, rfl, .inr (SqT.of ha), rfl, _, rfl, _, rfl, _, _, rfl, .inr (SqT.of hb), rfl, _, rfl, _, rfl, _, _, rfl, .inr (SqT.of hc), rfl, _, rfl, _, rfl, _, _, rfl, SqT.of ha, rfl, _, _, rfl, _, _, rfl, rfl, _, rfl, _, _, rfl, SqT.of hb, rfl, _, _, rfl, _, _, rfl, rfl, _, rfl, _, _, rfl, SqT.of hc, rfl, _, _, rfl, _, _, rfl, rfl, _, rfl, _, _, _, _, _, rfl, .ty "int", .base (.int _), kII K, _, rfl, _, rfl, _, _, _, _, _, rfl, .ty "int", .base (.int _), kII K, _, rfl, _, rfl, _, _, _, _, _, rfl, .ty "int", .base (.int _), kII K, _, rfl, _, rfl, _, _, _, _, _, rfl, .ty "int", .base (.int _), kII K, _, rfl, _, rfl, _, _, _, _, _, rfl, .ty "int", .base (.int _), kII K, _, rfl, _, rfl, _, _, _, _, _, rfl, .ty "int", .base (.int _), kII K, _, rfl, _, rfl, _, _, rfl, rfl, _, rfl, _, rfl, _, _, rfl, rfl, _, rfl, _, rfl, _, _, rfl, rfl, _, rfl, _, rfl, _, _, rfl, rfl, _, rfl, _, rfl, _, _, rfl, rfl, _, rfl, _, rfl, _, _, rfl, rfl, _, rfl, _, rfl, _, _, rfl, rfl, _, rfl, _, rfl, _, _, rfl, rfl, _, rfl, _, rfl, _, _, rfl, rfl, _, rfl, _, rfl, _, _, rfl, rfl, _, rfl, _, rfl, _, _, rfl, rfl, _, rfl, _, rfl, _, _, rfl, rfl, _, rfl, _, rfl, _, _, rfl, rfl, _, rfl, itf (by omega) ⟨_, rfl, _, _, rfl, rfl, _, rfl, itf (by omega) ⟨_, rfl, _, _, rfl, rfl, _, rfl, itf (by omega) ⟨_, rfl, _, _, rfl, rfl, _, rfl, itf (by omega) ⟨_, rfl, _, _, rfl, rfl, _, rfl, itf (by omega) ⟨_, rfl, _, _, rfl, rfl, _, rfl, itf (by omega) ⟨_, rfl, _, _, rfl, rfl, _, rfl, itf (by omega) ⟨_, rfl, _, _, rfl, rfl, _, rfl, itf (by omega) ⟨_, rfl, _, _, rfl, rfl, _, rfl, itf (by omega) ⟨_, rfl, _, _, rfl, rfl, _, rfl, itf (by omega) ⟨_, rfl, _, _, rfl, rfl, _, rfl, itf (by omega) ⟨_, rfl, _, _, rfl, rfl, _, rfl, itf (by omega) ⟨_, rfl, _, rfl, _, _, rfl, rfl, _, rfl, _, rfl, _, _, rfl, rfl, _, _, rfl, rfl, m1, _, rfl, _, rfl, _, _, rfl, rfl, _, rfl, _, rfl, _, _, rfl, rfl, _, _, rfl, rfl, m2, _, _, rfl, rfl, q⟩⟩⟩⟩⟩⟩⟩⟩⟩⟩⟩⟩⟩
end
/-! ### signs, sites that are alike -/
section
variable {P : Program} {w : World} {K : PySem.W.Frag} {mg : Str → Option Value} {base : Heap}
def sg (n : Int) : Int := if n = 0 then 0 else if 0 < n then 1 else -1
theorem dpSit {H : Hp} {t : Addr} {x y : Int} (h : Sit H t x y) : Dp K H (.ref t) (.tuple [.int x, .int y]) := .tup (SqT.of h) (.cons (.int x) (.cons (.int y) .nil))
theorem eqv_sit (x y u v : Int) : PyData.eqv (.tuple [.int x, .int y]) (.tuple [.int u, .int v]) = decide (x = u ∧ y = v) := by
  simp [PyData.eqv, PyData.eqvAll, Bool.decide_and, Bool.beq_eq_decide_eq]
theorem at0_ (u v : V) : atI [u, v] 0 = some u := rfl
theorem at1_ (u v : V) : atI [u, v] 1 = some v := rfl
end
abbrev sSign : Stmt := topS 6
theorem scSign : FnScope ["number"] ["number"] (defScope sSign) := ⟨rfl, rfl, rfl, by decide +kernel, rfl, by decide +kernel, by decide +kernel⟩
section
variable {P : Program} {w : World} {K : PySem.W.Frag} {mg : Str → Option Value} {base : Heap}
def spSign : Sp := fun vs H Q _ => ∃ n : Int, vs = [.int n] ∧ Q (.int (sg n)) H
theorem ok_sign {f : Addr} {fd : FuncData} {k : Nat} (F : Fun K "sign" "sign" sSign f fd) : FnOk P w K mg base CX0 (k + 1) f fd ["number"] spSign := by
  refine F.ok scSign (fun vs H Q E h => ?_) (fun cdv A outer s H vs Q E hr h => ?_)
  · obtain ⟨n, rfl, _⟩ := h
    rfl
  · obtain ⟨n, rfl, q⟩ := h
    refine ⟨_, pss_cons (ps_if (pt_cmpR op_eq (pv 0) pe_int (nomark _)) (pss_one (ps_ret pe_int)) pss_nil)
      (pss_one (ps_ret (pe_ifExp (pt_cmpR op_gt (pv 0) pe_int (nomark _)) pe_int pe_neg))), ?_⟩
    unfold sg at q
    refine ⟨_, rfl, rfl, _, rfl, ite2 (fun c => ?_) fun c => ⟨_, rfl, _, _, rfl, rfl, _, rfl, ite2 (fun d => ?_) fun d => ?_⟩⟩
    · rw [if_pos (V.int.inj (of_decide_eq_true c))] at q
      exact q
    · rw [if_neg (fun z => c (by rw [z]; exact decide_eq_true rfl)), if_pos (of_decide_eq_true d)] at q
      exact q
    · rw [if_neg (fun z => c (by rw [z]; exact decide_eq_true rfl)), if_neg (fun z => d (decide_eq_true z))] at q
      exact q
end
/-! ### places, fractions: the mathematics -/
def g3 (x y d : Int) : Nat := Nat.gcd (Nat.gcd x.natAbs y.natAbs) d.natAbs
theorem g3_is (x y d : Int) : Nat.gcd (((Nat.gcd x.natAbs y.natAbs : Nat) : Int)).natAbs d.natAbs = g3 x y d := by
  rw [Int.natAbs_natCast]
  rfl
theorem g3_dx (x y d : Int) : ((g3 x y d : Nat) : Int) ∣ x := Int.ofNat_dvd_left.mpr (Nat.dvd_trans (Nat.gcd_dvd_left _ _) (Nat.gcd_dvd_left _ _))
theorem g3_dy (x y d : Int) : ((g3 x y d : Nat) : Int) ∣ y := Int.ofNat_dvd_left.mpr (Nat.dvd_trans (Nat.gcd_dvd_left _ _) (Nat.gcd_dvd_right _ _))
theorem g3_dd (x y d : Int) : ((g3 x y d : Nat) : Int) ∣ d := Int.ofNat_dvd_left.mpr (Nat.gcd_dvd_right _ _)
theorem g3_pos {x y d : Int} (h : d ≠ 0) : 0 < g3 x y d := Nat.gcd_pos_of_pos_right _ (Int.natAbs_pos.mpr h)
theorem g3_le {x y d : Int} (h : d ≠ 0) : g3 x y d ≤ d.natAbs := Nat.le_of_dvd (Int.natAbs_pos.mpr h) (Nat.gcd_dvd_right _ _)
/-- the divisor that makes the last number one of 1 and more -/
def gs (x y d : Int) : Int := if d < 0 then -((g3 x y d : Nat) : Int) else ((g3 x y d : Nat) : Int)
theorem gs_ne {x y d : Int} (h : d ≠ 0) : gs x y d ≠ 0 := by
  have := g3_pos (x := x) (y := y) h
  unfold gs
  split <;> omega
theorem gs_abs (x y d : Int) : (gs x y d).natAbs = g3 x y d := by
  unfold gs
  split <;> omega
theorem gs_dvd {x y d z : Int} (h : ((g3 x y d : Nat) : Int) ∣ z) : gs x y d ∣ z := by
  unfold gs
  split
  · exact Int.neg_dvd.mpr h
  · exact h
/-- a tuple of three numbers is a place -/
structure PlOk (x y d : Int) : Prop where
  x1 : -(10 ^ 30) < x
  x2 : x < 10 ^ 30
  y1 : -(10 ^ 30) < y
  y2 : y < 10 ^ 30
  d1 : 1 ≤ d
  d2 : d < 10 ^ 30
  g1 : g3 x y d = 1
theorem mul_fdiv {g z : Int} (h : g ∣ z) : g * z.fdiv g = z := by
  rw [Int.fdiv_eq_ediv_of_dvd h]
  exact Int.mul_ediv_cancel' h
theorem abs_le_of_mul {g z x : Int} (e : g * z = x) (h : g ≠ 0) : z.natAbs ≤ x.natAbs := by
  rw [← e, Int.natAbs_mul]
  exact Nat.le_mul_of_pos_left _ (Int.natAbs_pos.mpr h)
theorem place_ok {x y d : Int} (h : d ≠ 0) (hx : x.natAbs < 10 ^ 30) (hy : y.natAbs < 10 ^ 30) (hd : d.natAbs < 10 ^ 30) : PlOk (x.fdiv (gs x y d)) (y.fdiv (gs x y d)) (d.fdiv (gs x y d)) := by
  have ex := mul_fdiv (gs_dvd (g3_dx x y d))
  have ey := mul_fdiv (gs_dvd (g3_dy x y d))
  have ed := mul_fdiv (gs_dvd (g3_dd x y d))
  have hn := gs_ne (x := x) (y := y) h
  have bx := abs_le_of_mul ex hn
  have by' := abs_le_of_mul ey hn
  have bd := abs_le_of_mul ed hn
  have pos : 0 < d.fdiv (gs x y d) := by
    have gp := g3_pos (x := x) (y := y) h
    generalize d.fdiv (gs x y d) = D at ed
    unfold gs at ed
    split at ed
    · rename_i hneg
      rcases Int.lt_trichotomy D 0 with z | z | z
      · exfalso
        have w : 0 < -((g3 x y d : Nat) : Int) * D := Int.mul_pos_of_neg_of_neg (by omega) z
        omega
      · rw [z, Int.mul_zero] at ed
        omega
      · exact z
    · rcases Int.lt_trichotomy D 0 with z | z | z
      · exfalso
        have w : ((g3 x y d : Nat) : Int) * D < 0 := Int.mul_neg_of_pos_of_neg (by omega) z
        omega
      · rw [z, Int.mul_zero] at ed
        omega
      · exact z
  refine ⟨by omega, by omega, by omega, by omega, by omega, by omega, ?_⟩
  have nx : g3 x y d * (x.fdiv (gs x y d)).natAbs = x.natAbs := by rw [← gs_abs, ← Int.natAbs_mul, ex]
  have ny : g3 x y d * (y.fdiv (gs x y d)).natAbs = y.natAbs := by rw [← gs_abs, ← Int.natAbs_mul, ey]
  have nd : g3 x y d * (d.fdiv (gs x y d)).natAbs = d.natAbs := by rw [← gs_abs, ← Int.natAbs_mul, ed]
  have key : g3 x y d * g3 (x.fdiv (gs x y d)) (y.fdiv (gs x y d)) (d.fdiv (gs x y d)) = g3 x y d := by
    generalize hg : g3 x y d = g at nx ny nd
    unfold g3
    rw [← Nat.gcd_mul_left, ← Nat.gcd_mul_left, nx, ny, nd]
    exact hg
  exact Nat.eq_of_mul_eq_mul_left (g3_pos (x := x) (y := y) h) (by rw [key, Nat.mul_one])
theorem nb_add {i j : Int} {a : Nat} (hi : i.natAbs < 2 ^ a) (hj : j.natAbs < 2 ^ a) : (i + j).natAbs < 2 ^ (a + 1) := by
  rw [Nat.pow_succ]
  omega
theorem nb_sub {i j : Int} {a : Nat} (hi : i.natAbs < 2 ^ a) (hj : j.natAbs < 2 ^ a) : (i - j).natAbs < 2 ^ (a + 1) := by
  rw [Nat.pow_succ]
  omega
theorem nb_up {i : Int} {a b : Nat} (hi : i.natAbs < 2 ^ a) (h : a ≤ b) : i.natAbs < 2 ^ b := Nat.lt_of_lt_of_le hi (Nat.pow_le_pow_right (by decide) h)
theorem PlOk.bits {x y d : Int} (h : PlOk x y d) : x.natAbs < 2 ^ 100 ∧ y.natAbs < 2 ^ 100 ∧ d.natAbs < 2 ^ 100 := by
  obtain ⟨h1, h2, h3, h4, h5, h6, _⟩ := h
  refine ⟨by omega, by omega, by omega⟩
/-- the squared distance of a place and a site, times d * d -/
def spread (x y d u v : Int) : Int := (x - d * u) * (x - d * u) + (y - d * v) * (y - d * v)
theorem sq_nn (x : Int) : 0 ≤ x * x := by
  rw [← Int.natAbs_mul_self]
  exact Int.natCast_nonneg _
theorem spread_nonneg (x y d u v : Int) : 0 ≤ spread x y d u v := Int.add_nonneg (sq_nn _) (sq_nn _)
theorem far_bits {x d u : Int} (hx : x.natAbs < 2 ^ 100) (hd : d.natAbs < 2 ^ 100) (hu : -1000000 ≤ u ∧ u ≤ 1000000) : (x - d * u).natAbs < 2 ^ 121 := by
  have h1 : (d * u).natAbs < 2 ^ (100 + 20) := wide_lt hd (by omega)
  exact nb_sub (nb_up hx (by decide)) h1
/-- what lifts from a site are -/
def lz (u v : Int) : Int := u * u + v * v
def vol (ax ay bx by' cx cy dx dy : Int) : Int :=
  (dx - ax) * ((by' - ay) * lz (cx - ax) (cy - ay) - lz (bx - ax) (by' - ay) * (cy - ay)) + (dy - ay) * (lz (bx - ax) (by' - ay) * (cx - ax) - (bx - ax) * lz (cx - ax) (cy - ay)) + lz (dx - ax) (dy - ay) * ((bx - ax) * (cy - ay) - (by' - ay) * (cx - ax))
theorem vol_turn (ax ay bx by' cx cy dx dy : Int) : vol cx cy ax ay bx by' dx dy = vol ax ay bx by' cx cy dx dy := by
  unfold vol lz
  grind
theorem tri_turn (ax ay bx by' cx cy : Int) : tri cx cy ax ay bx by' = tri ax ay bx by' cx cy := by
  unfold tri
  grind
/-! ### fractions, places, circles, lifts -/
abbrev sFrac : Stmt := topS 7
abbrev sCirT : Stmt := topS 13
abbrev sHov : Stmt := topS 14
abbrev sCircle : Stmt := topS 17
abbrev sInC : Stmt := topS 18
abbrev sLSide : Stmt := topS 19
theorem scFrac : FnScope ["top", "bottom", "common"] ["top", "bottom"] (defScope sFrac) := ⟨rfl, rfl, rfl, by decide +kernel, rfl, by decide +kernel, by decide +kernel⟩
theorem scCirT : FnScope ["a", "b", "c", "ax", "ay", "bx", "by", "cx", "cy", "bz", "cz", "x", "y", "d", "common"] ["a", "b", "c"] (defScope sCirT) := ⟨rfl, rfl, rfl, by decide +kernel, rfl, by decide +kernel, by decide +kernel⟩
theorem scHov : FnScope ["a", "b", "c", "d", "dx", "dy", "ax", "ay", "bx", "by", "cx", "cy"] ["a", "b", "c", "d"] (defScope sHov) := ⟨rfl, rfl, rfl, by decide +kernel, rfl, by decide +kernel, by decide +kernel⟩
theorem scCircle : FnScope ["a", "b", "c", "area"] ["a", "b", "c"] (defScope sCircle) := ⟨rfl, rfl, rfl, by decide +kernel, rfl, by decide +kernel, by decide +kernel⟩
theorem scInC : FnScope ["a", "b", "c", "d"] ["a", "b", "c", "d"] (defScope sInC) := ⟨rfl, rfl, rfl, by decide +kernel, rfl, by decide +kernel, by decide +kernel⟩
theorem scLSide : FnScope ["a", "b", "c", "d", "area"] ["a", "b", "c", "d"] (defScope sLSide) := ⟨rfl, rfl, rfl, by decide +kernel, rfl, by decide +kernel, by decide +kernel⟩
section
variable {P : Program} {w : World} {K : PySem.W.Frag} {mg : Str → Option Value} {base : Heap}
theorem three_line : 3 ≤ sizeLine := by decide
theorem a30_ (u v z : V) : atI [u, v, z] 0 = some u := rfl
theorem a31_ (u v z : V) : atI [u, v, z] 1 = some v := rfl
theorem a32_ (u v z : V) : atI [u, v, z] 2 = some z := rfl
def Tup2 (H : Hp) (p : Addr) (x y : Int) : Prop := H p = some (.tup [.int x, .int y])
def Pla (H : Hp) (p : Addr) (x y d : Int) : Prop := H p = some (.tup [.int x, .int y, .int d])
/-- a new thing is handed back, all else stands -/
def newRes (H : Hp) (Q : VK) (o : HO) : Prop := ∀ (p : Addr) H', Same H H' → H p = none → H' p = some o → Q (.ref p) H'
/-! fraction -/
def gcf (t b : Int) : Int := ((Nat.gcd t.natAbs b.natAbs : Nat) : Int)
def spFrac : Sp := fun vs H Q _ => ∃ t b : Int, vs = [.int t, .int b] ∧ 0 < b ∧ b.natAbs < 2 ^ 8000 ∧ newRes H Q (.tup [.int (t / gcf t b), .int (b / gcf t b)])
theorem gcf_pos {t b : Int} (h : 0 < b) : 0 < gcf t b := Int.natCast_pos.mpr (Nat.gcd_pos_of_pos_right _ (by omega))
theorem gcf_le {t b : Int} (h : 0 < b) : (gcf t b).natAbs ≤ b.natAbs := by
  unfold gcf
  rw [Int.natAbs_natCast]
  exact Nat.le_of_dvd (by omega) (Nat.gcd_dvd_right _ _)
theorem ok_frac {f : Addr} {fd : FuncData} {k : Nat} (F : Fun K "fraction" "fraction" sFrac f fd) (mgcd : mg "gcd" = some (.builtin "math.gcd")) : FnOk P w K mg base CX0 (k + 1) f fd ["top", "bottom"] spFrac := by
  refine F.ok scFrac (fun vs H Q E h => ?_) (fun cdv A outer s H vs Q E hr h => ?_)
  · obtain ⟨t, b, rfl, _⟩ := h
    rfl
  · obtain ⟨t, b, rfl, hb, hw, q⟩ := h
    have c1 : CDivE t (gcf t b) := ⟨Int.ne_of_gt (gcf_pos hb), Nat.lt_of_le_of_lt (gcf_le hb) hw⟩
    have c2 : CDivE b (gcf t b) := ⟨Int.ne_of_gt (gcf_pos hb), Nat.lt_of_le_of_lt (gcf_le hb) hw⟩
    have e1 : t.fdiv (gcf t b) = t / gcf t b := Int.fdiv_eq_ediv_of_nonneg _ (Int.le_of_lt (gcf_pos hb))
    have e2 : b.fdiv (gcf t b) = b / gcf t b := Int.fdiv_eq_ediv_of_nonneg _ (Int.le_of_lt (gcf_pos hb))
    refine ⟨_, (pss_cons (ps_set (i := 2) scFrac.nd rfl (.inl rfl) (pe_callBfun cr_gcd (by rfl) mgcd (pa_cons (pv 0) (pa_cons (pv 1) pa_nil)))) (pss_one (ps_ret (pe_tup (pa_cons (pe_op op_fdivE (pv 0) (pv 2)) (pa_cons (pe_op op_fdivE (pv 1) (pv 2)) pa_nil)))))), ?_⟩
    refine ⟨_, rfl, _, rfl, _, _, rfl, ?_⟩
    refine ⟨_, rfl, _, rfl, _, _, rfl, rfl, c1, _, rfl, _, rfl, _, _, rfl, rfl, c2, two_line, fun p np => q p _ (Same.upd np) np ?_⟩
    rw [← e1, ← e2]
    exact upd_same
/-! places -/
/-- a place -/
def spIsPl : Sp := fun vs H Q _ => ∃ (t : Addr) (x y d : Int), vs = [.ref t] ∧ Pla H t x y d ∧ PlOk x y d ∧ Q (.bl true) H
set_option pp.maxSteps 300 in
def spCheckP : Sp := fun vs H Q _ => ∃ (t : Addr) (x y d : Int) (z : Str), vs = [.ref t, .str z] ∧ Pla H t x y d ∧ PlOk x y d ∧ Q .non H
end
/-! ### circles: the mathematics -/
def cX1 (ax ay bx by' cx cy : Int) : Int := lz (bx - ax) (by' - ay) * (cy - ay) - lz (cx - ax) (cy - ay) * (by' - ay)
def cY1 (ax ay bx by' cx cy : Int) : Int := lz (cx - ax) (cy - ay) * (bx - ax) - lz (bx - ax) (by' - ay) * (cx - ax)
def cXn (ax ay bx by' cx cy : Int) : Int := ax * (2 * tri ax ay bx by' cx cy) + cX1 ax ay bx by' cx cy
def cYn (ax ay bx by' cx cy : Int) : Int := ay * (2 * tri ax ay bx by' cx cy) + cY1 ax ay bx by' cx cy
def cDn (ax ay bx by' cx cy : Int) : Int := 2 * tri ax ay bx by' cx cy
def cTop (ax ay bx by' cx cy : Int) : Int := cX1 ax ay bx by' cx cy * cX1 ax ay bx by' cx cy + cY1 ax ay bx by' cx cy * cY1 ax ay bx by' cx cy
def cBot (ax ay bx by' cx cy : Int) : Int := 2 * tri ax ay bx by' cx cy * (2 * tri ax ay bx by' cx cy)
/-- the centre's numbers -/
def ctx (ax ay bx by' cx cy : Int) : Int := (cXn ax ay bx by' cx cy).fdiv (gs (cXn ax ay bx by' cx cy) (cYn ax ay bx by' cx cy) (cDn ax ay bx by' cx cy))
def cty (ax ay bx by' cx cy : Int) : Int := (cYn ax ay bx by' cx cy).fdiv (gs (cXn ax ay bx by' cx cy) (cYn ax ay bx by' cx cy) (cDn ax ay bx by' cx cy))
def ctd (ax ay bx by' cx cy : Int) : Int := (cDn ax ay bx by' cx cy).fdiv (gs (cXn ax ay bx by' cx cy) (cYn ax ay bx by' cx cy) (cDn ax ay bx by' cx cy))
theorem cmL {i j : Int} (h : i.natAbs < 2 ^ 63) : CMul i j := .inl ⟨by omega, by omega⟩
theorem cmR {i j : Int} (h : j.natAbs < 2 ^ 63) : CMul i j := .inr ⟨by omega, by omega⟩
theorem df_bits {a b : Int} (ha : -1000000 ≤ a ∧ a ≤ 1000000) (hb : -1000000 ≤ b ∧ b ≤ 1000000) : (b - a).natAbs < 2 ^ 21 := by omega
theorem lz_bits {u v : Int} (hu : u.natAbs < 2 ^ 21) (hv : v.natAbs < 2 ^ 21) : (lz u v).natAbs < 2 ^ 43 := nb_add (wide_lt hu hu) (wide_lt hv hv)
structure Six (ax ay bx by' cx cy : Int) : Prop where
  a : Bd 1000000 ax ay
  b : Bd 1000000 bx by'
  c : Bd 1000000 cx cy
section
variable {ax ay bx by' cx cy : Int}
theorem Six.u1 (h : Six ax ay bx by' cx cy) : (bx - ax).natAbs < 2 ^ 21 := df_bits ⟨h.a.1, h.a.2.1⟩ ⟨h.b.1, h.b.2.1⟩
theorem Six.v1 (h : Six ax ay bx by' cx cy) : (by' - ay).natAbs < 2 ^ 21 := df_bits h.a.2.2 h.b.2.2
theorem Six.u2 (h : Six ax ay bx by' cx cy) : (cx - ax).natAbs < 2 ^ 21 := df_bits ⟨h.a.1, h.a.2.1⟩ ⟨h.c.1, h.c.2.1⟩
theorem Six.v2 (h : Six ax ay bx by' cx cy) : (cy - ay).natAbs < 2 ^ 21 := df_bits h.a.2.2 h.c.2.2
theorem Six.l1 (h : Six ax ay bx by' cx cy) : (lz (bx - ax) (by' - ay)).natAbs < 2 ^ 43 := lz_bits h.u1 h.v1
theorem Six.l2 (h : Six ax ay bx by' cx cy) : (lz (cx - ax) (cy - ay)).natAbs < 2 ^ 43 := lz_bits h.u2 h.v2
theorem Six.t (h : Six ax ay bx by' cx cy) : (tri ax ay bx by' cx cy).natAbs < 2 ^ 43 := nb_sub (wide_lt h.u1 h.v2) (wide_lt h.v1 h.u2)
theorem Six.t2 (h : Six ax ay bx by' cx cy) : (2 * tri ax ay bx by' cx cy).natAbs < 2 ^ 44 := by
  have := h.t
  omega
theorem Six.x1 (h : Six ax ay bx by' cx cy) : (cX1 ax ay bx by' cx cy).natAbs < 2 ^ 65 := nb_sub (wide_lt h.l1 h.v2) (wide_lt h.l2 h.v1)
theorem Six.y1 (h : Six ax ay bx by' cx cy) : (cY1 ax ay bx by' cx cy).natAbs < 2 ^ 65 := nb_sub (wide_lt h.l2 h.u1) (wide_lt h.l1 h.u2)
theorem Six.xn (h : Six ax ay bx by' cx cy) : (cXn ax ay bx by' cx cy).natAbs < 2 ^ 66 := nb_add (wide_lt (a := 21) (by have := h.a.1; have := h.a.2.1; omega) h.t2) h.x1
theorem Six.yn (h : Six ax ay bx by' cx cy) : (cYn ax ay bx by' cx cy).natAbs < 2 ^ 66 := nb_add (wide_lt (a := 21) (by have := h.a.2.2; omega) h.t2) h.y1
theorem Six.place (h : Six ax ay bx by' cx cy) (t : tri ax ay bx by' cx cy ≠ 0) : PlOk (ctx ax ay bx by' cx cy) (cty ax ay bx by' cx cy) (ctd ax ay bx by' cx cy) := by
  have h1 := h.xn
  have h2 := h.yn
  have h3 := h.t2
  exact place_ok (show cDn ax ay bx by' cx cy ≠ 0 by unfold cDn; omega) (by omega) (by omega) (by unfold cDn; omega)
/-- the centre is as far from all three, times its last number's square -/
theorem centre_far (t : tri ax ay bx by' cx cy ≠ 0) : ∃ g : Int, g ≠ 0 ∧ g * ctx ax ay bx by' cx cy = cXn ax ay bx by' cx cy ∧ g * cty ax ay bx by' cx cy = cYn ax ay bx by' cx cy ∧ g * ctd ax ay bx by' cx cy = cDn ax ay bx by' cx cy := by
  have hd : cDn ax ay bx by' cx cy ≠ 0 := by unfold cDn; omega
  exact ⟨_, gs_ne hd, mul_fdiv (gs_dvd (g3_dx _ _ _)), mul_fdiv (gs_dvd (g3_dy _ _ _)), mul_fdiv (gs_dvd (g3_dd _ _ _))⟩
theorem spread_scale (g x y d u v : Int) : g * g * spread x y d u v = spread (g * x) (g * y) (g * d) u v := by
  unfold spread
  grind
theorem far_a : spread (cXn ax ay bx by' cx cy) (cYn ax ay bx by' cx cy) (cDn ax ay bx by' cx cy) ax ay = cTop ax ay bx by' cx cy := by
  unfold spread cXn cYn cDn cTop
  grind
theorem far_b : spread (cXn ax ay bx by' cx cy) (cYn ax ay bx by' cx cy) (cDn ax ay bx by' cx cy) bx by' = cTop ax ay bx by' cx cy := by
  unfold spread cXn cYn cDn cTop cX1 cY1 tri lz
  grind
theorem far_c : spread (cXn ax ay bx by' cx cy) (cYn ax ay bx by' cx cy) (cDn ax ay bx by' cx cy) cx cy = cTop ax ay bx by' cx cy := by
  unfold spread cXn cYn cDn cTop cX1 cY1 tri lz
  grind
theorem sq_cancel {g p q : Int} (h : g ≠ 0) (e : g * g * p = g * g * q) : p = q := Int.eq_of_mul_eq_mul_left (Int.mul_ne_zero h h) e
theorem centre_ab (t : tri ax ay bx by' cx cy ≠ 0) : spread (ctx ax ay bx by' cx cy) (cty ax ay bx by' cx cy) (ctd ax ay bx by' cx cy) ax ay = spread (ctx ax ay bx by' cx cy) (cty ax ay bx by' cx cy) (ctd ax ay bx by' cx cy) bx by' := by
  obtain ⟨g, hg, e1, e2, e3⟩ := centre_far t
  refine sq_cancel hg ?_
  rw [spread_scale, spread_scale, e1, e2, e3, far_a, far_b]
theorem centre_ac (t : tri ax ay bx by' cx cy ≠ 0) : spread (ctx ax ay bx by' cx cy) (cty ax ay bx by' cx cy) (ctd ax ay bx by' cx cy) ax ay = spread (ctx ax ay bx by' cx cy) (cty ax ay bx by' cx cy) (ctd ax ay bx by' cx cy) cx cy := by
  obtain ⟨g, hg, e1, e2, e3⟩ := centre_far t
  refine sq_cancel hg ?_
  rw [spread_scale, spread_scale, e1, e2, e3, far_a, far_c]
end
section
variable {P : Program} {w : World} {K : PySem.W.Frag} {mg : Str → Option Value} {base : Heap}
def spLift : Sp := fun vs H Q _ => ∃ (a b : Addr) (ax ay bx by' : Int), vs = [.ref a, .ref b] ∧ Sit H a ax ay ∧ Sit H b bx by' ∧ Bd 1000000 ax ay ∧ Bd 1000000 bx by' ∧ newRes H Q (.tup [.int (bx - ax), .int (by' - ay), .int (lz (bx - ax) (by' - ay))])
def spPlOf : Sp := fun vs H Q _ => ∃ x y d : Int, vs = [.int x, .int y, .int d] ∧ d ≠ 0 ∧ d.natAbs < 2 ^ 8000 ∧ newRes H Q (.tup [.int (x.fdiv (gs x y d)), .int (y.fdiv (gs x y d)), .int (d.fdiv (gs x y d))])
theorem gs_div {x y d : Int} (h : d ≠ 0) (hd : d.natAbs < 2 ^ 8000) (z : Int) : CDivE z (gs x y d) := ⟨gs_ne h, by rw [gs_abs]; exact Nat.lt_of_le_of_lt (g3_le h) hd⟩
/-- the circle's tuple: a place and a fraction -/
structure Cir (H : Hp) (p : Addr) (X Y D n m : Int) : Prop where
  ex : ∃ pc pf : Addr, H p = some (.tup [.ref pc, .ref pf]) ∧ Pla H pc X Y D ∧ Tup2 H pf n m
def spCirT (K : PySem.W.Frag) : Sp := fun vs H Q _ => ∃ (a b c : Addr) (ax ay bx by' cx cy : Int), vs = [.ref a, .ref b, .ref c] ∧ Sit H a ax ay ∧ Sit H b bx by' ∧ Sit H c cx cy ∧ Six ax ay bx by' cx cy ∧ tri ax ay bx by' cx cy ≠ 0 ∧
  ∀ (p : Addr) H', Same H H' → H p = none → Cir H' p (ctx ax ay bx by' cx cy) (cty ax ay bx by' cx cy) (ctd ax ay bx by' cx cy) (cTop ax ay bx by' cx cy / gcf (cTop ax ay bx by' cx cy) (cBot ax ay bx by' cx cy)) (cBot ax ay bx by' cx cy / gcf (cTop ax ay bx by' cx cy) (cBot ax ay bx by' cx cy)) → Q (.ref p) H'
theorem sq_pos {t : Int} (h : t ≠ 0) : 0 < t * t := by
  have z := sq_nn t
  have w : t * t ≠ 0 := Int.mul_ne_zero h h
  omega
theorem g3_shift (a b x y d : Int) : g3 (a * d + x) (b * d + y) d = g3 x y d := by
  have key : ∀ a b x y : Int, g3 x y d ∣ g3 (a * d + x) (b * d + y) d := fun a b x y => by
    have h1 := g3_dx x y d
    have h2 := g3_dy x y d
    have h3 := g3_dd x y d
    refine Nat.dvd_gcd (Nat.dvd_gcd ?_ ?_) (Int.ofNat_dvd_left.mp h3)
    · exact Int.ofNat_dvd_left.mp (Int.dvd_add (Int.dvd_mul_of_dvd_right h3) h1)
    · exact Int.ofNat_dvd_left.mp (Int.dvd_add (Int.dvd_mul_of_dvd_right h3) h2)
  refine Nat.dvd_antisymm ?_ (key a b x y)
  have z := key (-a) (-b) (a * d + x) (b * d + y)
  rwa [show -a * d + (a * d + x) = x by grind, show -b * d + (b * d + y) = y by grind] at z
theorem gs_shift (a b x y d : Int) : gs (a * d + x) (b * d + y) d = gs x y d := by
  unfold gs
  rw [g3_shift]
theorem shift_fdiv {g a d x : Int} (hg : g ≠ 0) (hd : g ∣ d) (hx : g ∣ x) : (a * d + x).fdiv g = a * d.fdiv g + x.fdiv g := by
  have e1 := mul_fdiv hd
  have e2 := mul_fdiv hx
  have : a * d + x = g * (a * d.fdiv g + x.fdiv g) := by grind
  rw [this]
  exact Int.mul_fdiv_cancel_left _ hg
theorem cgcf_scale {s t b : Int} (h : 0 < s) : gcf (s * t) (s * b) = s * gcf t b := by
  unfold gcf
  rw [Int.natAbs_mul, Int.natAbs_mul, Nat.gcd_mul_left, Int.natCast_mul, Int.natAbs_of_nonneg (Int.le_of_lt h)]
theorem cfrac_scale {s t b z : Int} (h : 0 < s) : s * z / gcf (s * t) (s * b) = z / gcf t b := by
  rw [cgcf_scale h]
  exact Int.mul_ediv_mul_of_pos _ _ h
theorem cir_is {ax ay bx by' cx cy : Int} (t : tri ax ay bx by' cx cy ≠ 0) : ∃ X Y D : Int, X = (cX1 ax ay bx by' cx cy).fdiv (gs (cX1 ax ay bx by' cx cy) (cY1 ax ay bx by' cx cy) (2 * tri ax ay bx by' cx cy)) ∧ Y = (cY1 ax ay bx by' cx cy).fdiv (gs (cX1 ax ay bx by' cx cy) (cY1 ax ay bx by' cx cy) (2 * tri ax ay bx by' cx cy)) ∧ D = (2 * tri ax ay bx by' cx cy).fdiv (gs (cX1 ax ay bx by' cx cy) (cY1 ax ay bx by' cx cy) (2 * tri ax ay bx by' cx cy)) ∧
    ctx ax ay bx by' cx cy = ax * D + X ∧ cty ax ay bx by' cx cy = ay * D + Y ∧ ctd ax ay bx by' cx cy = D ∧ 0 < D * D ∧ cTop ax ay bx by' cx cy / gcf (cTop ax ay bx by' cx cy) (cBot ax ay bx by' cx cy) = (X * X + Y * Y) / gcf (X * X + Y * Y) (D * D) ∧ cBot ax ay bx by' cx cy / gcf (cTop ax ay bx by' cx cy) (cBot ax ay bx by' cx cy) = D * D / gcf (X * X + Y * Y) (D * D) := by
  have hd : 2 * tri ax ay bx by' cx cy ≠ 0 := by omega
  have hg := gs_ne (x := cX1 ax ay bx by' cx cy) (y := cY1 ax ay bx by' cx cy) hd
  have ex := mul_fdiv (gs_dvd (g3_dx (cX1 ax ay bx by' cx cy) (cY1 ax ay bx by' cx cy) (2 * tri ax ay bx by' cx cy)))
  have ey := mul_fdiv (gs_dvd (g3_dy (cX1 ax ay bx by' cx cy) (cY1 ax ay bx by' cx cy) (2 * tri ax ay bx by' cx cy)))
  have ed := mul_fdiv (gs_dvd (g3_dd (cX1 ax ay bx by' cx cy) (cY1 ax ay bx by' cx cy) (2 * tri ax ay bx by' cx cy)))
  have sh := gs_shift ax ay (cX1 ax ay bx by' cx cy) (cY1 ax ay bx by' cx cy) (2 * tri ax ay bx by' cx cy)
  refine ⟨_, _, _, rfl, rfl, rfl, ?_, ?_, ?_, ?_⟩
  · unfold ctx cXn cYn cDn
    rw [sh]
    exact shift_fdiv hg (gs_dvd (g3_dd _ _ _)) (gs_dvd (g3_dx _ _ _))
  · unfold cty cXn cYn cDn
    rw [sh]
    exact shift_fdiv hg (gs_dvd (g3_dd _ _ _)) (gs_dvd (g3_dy _ _ _))
  · unfold ctd cXn cYn cDn
    rw [sh]
  · unfold cTop cBot
    generalize (gs (cX1 ax ay bx by' cx cy) (cY1 ax ay bx by' cx cy) (2 * tri ax ay bx by' cx cy)) = g at *
    generalize (cX1 ax ay bx by' cx cy).fdiv g = X at *
    generalize (cY1 ax ay bx by' cx cy).fdiv g = Y at *
    generalize hD : (2 * tri ax ay bx by' cx cy).fdiv g = D at *
    rw [← ex, ← ey, ← ed]
    have D0 : D ≠ 0 := fun z => hd (by rw [← ed, z, Int.mul_zero])
    have e1 : g * X * (g * X) + g * Y * (g * Y) = g * g * (X * X + Y * Y) := by grind
    have e2 : g * D * (g * D) = g * g * (D * D) := by grind
    rw [e1, e2]
    exact ⟨sq_pos D0, cfrac_scale (sq_pos hg), cfrac_scale (sq_pos hg)⟩
set_option pp.maxSteps 300 in
theorem ok_cirt {f fF : Addr} {fd fdF : FuncData} {k : Nat} (F : Fun K "circle_through" "circle_through" sCirT f fd)
    (GF : FnOk P w K mg base CX0 (k + 1) fF fdF ["top", "bottom"] spFrac) (gF : mg "fraction" = some (.ref fF)) (kF : PySem.W.keepIn K (.ref fF) = true) (bF : Binds K fdF ["top", "bottom"] []) (mgcd : mg "gcd" = some (.builtin "math.gcd")) : FnOk P w K mg base CX0 (k + 2) f fd ["a", "b", "c"] (spCirT K) := by
  refine F.ok scCirT (fun vs H Q E h => ?_) (fun cdv A outer s H vs Q E hr h => ?_)
  · obtain ⟨a, b, c, ax, ay, bx, by', cx, cy, rfl, _⟩ := h
    rfl
  · obtain ⟨a, b, c, ax, ay, bx, by', cx, cy, rfl, ha, hb, hc, six, t, q⟩ := h
    have nd := scCirT.nd
    have six1 := six.u1
    have six2 := six.v1
    have six3 := six.u2
    have six4 := six.v2
    refine ⟨_, (pss_cons (ps_asg (pv 0) (pg_tup (by rfl) (pgs_cons (pg_name (i := 3) nd rfl (.inl rfl)) (pgs_cons (pg_name (i := 4) nd rfl (.inl rfl)) pgs_nil)))) (pss_cons (ps_par (i := 5) (j := 6) (by rfl) nd rfl rfl (by decide) rfl rfl (pa_cons (pe_op op_sub (pe_ix ix_tup (pv 1) pe_int (fun _ _ => rfl)) (pv 3)) (pa_cons (pe_op op_sub (pe_ix ix_tup (pv 1) pe_int (fun _ _ => rfl)) (pv 4)) pa_nil)) (by rfl)) (pss_cons (ps_par (i := 7) (j := 8) (by rfl) nd rfl rfl (by decide) rfl rfl (pa_cons (pe_op op_sub (pe_ix ix_tup (pv 2) pe_int (fun _ _ => rfl)) (pv 3)) (pa_cons (pe_op op_sub (pe_ix ix_tup (pv 2) pe_int (fun _ _ => rfl)) (pv 4)) pa_nil)) (by rfl)) (pss_cons (ps_par (i := 9) (j := 10) (by rfl) nd rfl rfl (by decide) rfl rfl (pa_cons (pe_op op_add (pe_op op_mulW (pv 5) (pv 5)) (pe_op op_mulW (pv 6) (pv 6))) (pa_cons (pe_op op_add (pe_op op_mulW (pv 7) (pv 7)) (pe_op op_mulW (pv 8) (pv 8))) pa_nil)) (by rfl)) (pss_cons (ps_par3 (i := 11) (j := 12) (l := 13) (by rfl) nd rfl rfl rfl (by decide) (by decide) (by decide) rfl rfl rfl (pa_cons (pe_op op_sub (pe_op op_mulW (pv 9) (pv 8)) (pe_op op_mulW (pv 10) (pv 6))) (pa_cons (pe_op op_sub (pe_op op_mulW (pv 10) (pv 5)) (pe_op op_mulW (pv 9) (pv 7))) (pa_cons (pe_op op_mulW pe_int (pe_op op_sub (pe_op op_mulW (pv 5) (pv 8)) (pe_op op_mulW (pv 6) (pv 7)))) pa_nil))) (by rfl)) (pss_cons (ps_set (i := 14) nd rfl (.inl rfl) (pe_callBfun cr_gcd3 (by rfl) mgcd (pa_cons (pv 11) (pa_cons (pv 12) (pa_cons (pv 13) pa_nil))))) (C8.pss_cut (ps_if (pt_cmpR op_lt (pv 13) pe_int (nomark _)) (pss_one (ps_set (i := 14) nd rfl (.inl rfl) (pe_un un_neg (pv 14)))) pss_nil) (pss_cons (ps_par3 (i := 11) (j := 12) (l := 13) (by rfl) nd rfl rfl rfl (by decide) (by decide) (by decide) rfl rfl rfl (pa_cons (pe_op op_fdivE (pv 11) (pv 14)) (pa_cons (pe_op op_fdivE (pv 12) (pv 14)) (pa_cons (pe_op op_fdivE (pv 13) (pv 14)) pa_nil))) (by rfl)) (pss_one (ps_ret (pe_tup (pa_cons (pe_tup (pa_cons (pe_op op_add (pe_op op_mulW (pv 3) (pv 13)) (pv 11)) (pa_cons (pe_op op_add (pe_op op_mulW (pv 4) (pv 13)) (pv 12)) (pa_cons (pv 13) pa_nil)))) (pa_cons (pe_call GF hr (by rfl) gF kF bF .nil pass0 (pa_cons (pe_op op_add (pe_op op_mulW (pv 11) (pv 11)) (pe_op op_mulW (pv 12) (pv 12))) (pa_cons (pe_op op_mulW (pv 13) (pv 13)) pa_nil))) pa_nil))))))))))))), ?_⟩
    repeat array_get_dec
    refine ⟨fun σ' H' => σ' = [some (.ref a), some (.ref b), some (.ref c), some (.int ax), some (.int ay), some (.int (bx - ax)), some (.int (by' - ay)), some (.int (cx - ax)), some (.int (cy - ay)), some (.int (lz (bx - ax) (by' - ay))), some (.int (lz (cx - ax) (cy - ay))), some (.int (cX1 ax ay bx by' cx cy)), some (.int (cY1 ax ay bx by' cx cy)), some (.int (2 * tri ax ay bx by' cx cy)), some (.int (gs (cX1 ax ay bx by' cx cy) (cY1 ax ay bx by' cx cy) (2 * tri ax ay bx by' cx cy)))] ∧ H = H', ?_, ?_⟩
    · refine ⟨_, rfl, _, _, rfl, rfl, _, rfl, ite2 (fun c => ?_) fun c => ?_⟩
      · refine ⟨_, rfl, _, rfl, ?_, rfl⟩
        show [_, _, _, _, _, _, _, _, _, _, _, _, _, _, some (V.int (-((g3 (cX1 ax ay bx by' cx cy) (cY1 ax ay bx by' cx cy) (2 * tri ax ay bx by' cx cy) : Nat) : Int)))] = _
        unfold gs
        rw [if_pos (show 2 * tri ax ay bx by' cx cy < 0 from of_decide_eq_true c)]
        rfl
      · refine ⟨?_, rfl⟩
        show [_, _, _, _, _, _, _, _, _, _, _, _, _, _, some (V.int (((g3 (cX1 ax ay bx by' cx cy) (cY1 ax ay bx by' cx cy) (2 * tri ax ay bx by' cx cy) : Nat) : Int)))] = _
        unfold gs
        rw [if_neg (show ¬ 2 * tri ax ay bx by' cx cy < 0 from fun z => c (decide_eq_true z))]
        rfl
    · rintro _ _ ⟨rfl, rfl⟩
      have hd : 2 * tri ax ay bx by' cx cy ≠ 0 := by omega
      have c := gs_div (x := cX1 ax ay bx by' cx cy) (y := cY1 ax ay bx by' cx cy) hd (nb_up six.t2 (by decide))
      obtain ⟨X, Y, D, rfl, rfl, rfl, r1, r2, r3, r4, r5, r6⟩ := cir_is t
      have wX := nbd (b := gs (cX1 ax ay bx by' cx cy) (cY1 ax ay bx by' cx cy) (2 * tri ax ay bx by' cx cy)) six.x1
      have wY := nbd (b := gs (cX1 ax ay bx by' cx cy) (cY1 ax ay bx by' cx cy) (2 * tri ax ay bx by' cx cy)) six.y1
      have wD := nbd (b := gs (cX1 ax ay bx by' cx cy) (cY1 ax ay bx by' cx cy) (2 * tri ax ay bx by' cx cy)) six.t2
      have wx : ax.natAbs < 2 ^ 21 := by have := six.a.1; have := six.a.2.1; omega
      have wy : ay.natAbs < 2 ^ 21 := by have := six.a.2.2; omega
      refine ⟨_, rfl, _, rfl, _, _, rfl, rfl, c _, _, rfl, _, rfl, _, _, rfl, rfl, c _, _, rfl, _, rfl, _, _, rfl, rfl, c _, _, _, _, rfl, ?_⟩
      repeat array_get_dec
      refine ⟨three_line, fun p4 n4 => ?_⟩
      repeat array_get_dec
      refine ⟨r4, nb_up (wide_lt wD wD) (by decide), fun p5 H5 s5 n5 e5 => ⟨two_line, fun p n => ?_⟩⟩
      have s4 := Same.upd (o := .tup [.int (ax * (2 * tri ax ay bx by' cx cy).fdiv (gs (cX1 ax ay bx by' cx cy) (cY1 ax ay bx by' cx cy) (2 * tri ax ay bx by' cx cy)) + (cX1 ax ay bx by' cx cy).fdiv (gs (cX1 ax ay bx by' cx cy) (cY1 ax ay bx by' cx cy) (2 * tri ax ay bx by' cx cy))), .int (ay * (2 * tri ax ay bx by' cx cy).fdiv (gs (cX1 ax ay bx by' cx cy) (cY1 ax ay bx by' cx cy) (2 * tri ax ay bx by' cx cy)) + (cY1 ax ay bx by' cx cy).fdiv (gs (cX1 ax ay bx by' cx cy) (cY1 ax ay bx by' cx cy) (2 * tri ax ay bx by' cx cy))), .int ((2 * tri ax ay bx by' cx cy).fdiv (gs (cX1 ax ay bx by' cx cy) (cY1 ax ay bx by' cx cy) (2 * tri ax ay bx by' cx cy)))]) n4
      have S5 : Same H H5 := s4.trans s5
      refine q p _ (S5.trans (Same.upd n)) (S5.free n) ⟨p4, p5, upd_same, ?_, ?_⟩
      · rw [r1, r2, r3]
        exact (Same.upd n) _ _ (s5 _ _ upd_same)
      · rw [r5, r6]
        exact (Same.upd n) _ _ e5
/-- four sites -/
def sp4 (K : PySem.W.Frag) (ok : Int → Int → Int → Int → Int → Int → Int → Int → Prop) (v : Int → Int → Int → Int → Int → Int → Int → Int → V) : Sp := fun vs H Q _ => ∃ (a b c d : Addr) (ax ay bx by' cx cy dx dy : Int), vs = [.ref a, .ref b, .ref c, .ref d] ∧ Sit H a ax ay ∧ Sit H b bx by' ∧ Sit H c cx cy ∧ Sit H d dx dy ∧ Six ax ay bx by' cx cy ∧ Bd 1000000 dx dy ∧ ok ax ay bx by' cx cy dx dy ∧ ∀ H', Same H H' → Q (v ax ay bx by' cx cy dx dy) H'
theorem sg_small (n : Int) : -1 ≤ sg n ∧ sg n ≤ 1 := by
  unfold sg
  split
  · omega
  · split <;> omega
def lsd (ax ay bx by' cx cy dx dy : Int) : Int := sg (vol ax ay bx by' cx cy dx dy) * sg (tri ax ay bx by' cx cy)
theorem hov_is (ax ay bx by' cx cy dx dy : Int) : ((ax - dx) * (ax - dx) + (ay - dy) * (ay - dy)) * ((by' - dy) * (cx - dx) - (bx - dx) * (cy - dy)) + ((bx - dx) * (bx - dx) + (by' - dy) * (by' - dy)) * ((ax - dx) * (cy - dy) - (ay - dy) * (cx - dx)) + ((cx - dx) * (cx - dx) + (cy - dy) * (cy - dy)) * ((ay - dy) * (bx - dx) - (ax - dx) * (by' - dy)) = vol ax ay bx by' cx cy dx dy := by
  unfold vol lz
  grind
theorem ok_hov {f : Addr} {fd : FuncData} {k : Nat} (F : Fun K "height_over" "height_over" sHov f fd) : FnOk P w K mg base CX0 (k + 1) f fd ["a", "b", "c", "d"] (sp4 K (fun _ _ _ _ _ _ _ _ => True) fun ax ay bx by' cx cy dx dy => .int (vol ax ay bx by' cx cy dx dy)) := by
  refine F.ok scHov (fun vs H Q E h => ?_) (fun cdv A outer s H vs Q E hr h => ?_)
  · obtain ⟨a, b, c, d, ax, ay, bx, by', cx, cy, dx, dy, rfl, _⟩ := h
    rfl
  · obtain ⟨a, b, c, d, ax, ay, bx, by', cx, cy, dx, dy, rfl, ha, hb, hc, hd, six, dd, _, q⟩ := h
    have nd := scHov.nd
    have ua : (ax - dx).natAbs < 2 ^ 21 := df_bits ⟨dd.1, dd.2.1⟩ ⟨six.a.1, six.a.2.1⟩
    have va : (ay - dy).natAbs < 2 ^ 21 := df_bits dd.2.2 six.a.2.2
    have ub : (bx - dx).natAbs < 2 ^ 21 := df_bits ⟨dd.1, dd.2.1⟩ ⟨six.b.1, six.b.2.1⟩
    have vb : (by' - dy).natAbs < 2 ^ 21 := df_bits dd.2.2 six.b.2.2
    have uc : (cx - dx).natAbs < 2 ^ 21 := df_bits ⟨dd.1, dd.2.1⟩ ⟨six.c.1, six.c.2.1⟩
    have vc : (cy - dy).natAbs < 2 ^ 21 := df_bits dd.2.2 six.c.2.2
    have la : ((ax - dx) * (ax - dx) + (ay - dy) * (ay - dy)).natAbs < 2 ^ 43 := lz_bits ua va
    have lb : ((bx - dx) * (bx - dx) + (by' - dy) * (by' - dy)).natAbs < 2 ^ 43 := lz_bits ub vb
    have lc : ((cx - dx) * (cx - dx) + (cy - dy) * (cy - dy)).natAbs < 2 ^ 43 := lz_bits uc vc
    have q : Q (.int (vol ax ay bx by' cx cy dx dy)) H := q H (Same.refl H)
    rw [← hov_is] at q
    refine ⟨_, (pss_cons (ps_asg (pv 3) (pg_tup (by rfl) (pgs_cons (pg_name (i := 4) nd rfl (.inl rfl)) (pgs_cons (pg_name (i := 5) nd rfl (.inl rfl)) pgs_nil)))) (pss_cons (ps_par (i := 6) (j := 7) rfl nd rfl rfl (by decide) rfl rfl (pa_cons (pe_op op_sub (pe_ix ix_tup (pv 0) pe_int (fun _ _ => rfl)) (pv 4)) (pa_cons (pe_op op_sub (pe_ix ix_tup (pv 0) pe_int (fun _ _ => rfl)) (pv 5)) pa_nil)) rfl) (pss_cons (ps_par (i := 8) (j := 9) rfl nd rfl rfl (by decide) rfl rfl (pa_cons (pe_op op_sub (pe_ix ix_tup (pv 1) pe_int (fun _ _ => rfl)) (pv 4)) (pa_cons (pe_op op_sub (pe_ix ix_tup (pv 1) pe_int (fun _ _ => rfl)) (pv 5)) pa_nil)) rfl) (pss_cons (ps_par (i := 10) (j := 11) rfl nd rfl rfl (by decide) rfl rfl (pa_cons (pe_op op_sub (pe_ix ix_tup (pv 2) pe_int (fun _ _ => rfl)) (pv 4)) (pa_cons (pe_op op_sub (pe_ix ix_tup (pv 2) pe_int (fun _ _ => rfl)) (pv 5)) pa_nil)) rfl) (pss_one (ps_ret (pe_op op_add (pe_op op_add (pe_op op_mul (pe_op op_add (pe_op op_mul (pv 6) (pv 6)) (pe_op op_mul (pv 7) (pv 7))) (pe_op op_sub (pe_op op_mul (pv 9) (pv 10)) (pe_op op_mul (pv 8) (pv 11)))) (pe_op op_mul (pe_op op_add (pe_op op_mul (pv 8) (pv 8)) (pe_op op_mul (pv 9) (pv 9))) (pe_op op_sub (pe_op op_mul (pv 6) (pv 11)) (pe_op op_mul (pv 7) (pv 10))))) (pe_op op_mul (pe_op op_add (pe_op op_mul (pv 10) (pv 10)) (pe_op op_mul (pv 11) (pv 11))) (pe_op op_sub (pe_op op_mul (pv 7) (pv 8)) (pe_op op_mul (pv 6) (pv 9))))))))))), ?_⟩
    refine ⟨_, rfl, _, _, rfl, SqT.of hd, rfl, _, _, rfl, _, _, rfl, rfl, _, rfl, _, _, _, _, rfl, rfl, SqT.of ha, at0_ _ _, _, rfl, _, _, rfl, rfl, _, rfl, _, _, _, _, rfl, rfl, SqT.of ha, at1_ _ _, _, rfl, _, _, rfl, rfl, _, _, rfl, _, rfl, _, _, _, _, rfl, rfl, SqT.of hb, at0_ _ _, _, rfl, _, _, rfl, rfl, _, rfl, _, _, _, _, rfl, rfl, SqT.of hb, at1_ _ _, _, rfl, _, _, rfl, rfl, _, _, rfl, _, rfl, _, _, _, _, rfl, rfl, SqT.of hc, at0_ _ _, _, rfl, _, _, rfl, rfl, _, rfl, _, _, _, _, rfl, rfl, SqT.of hc, at1_ _ _, _, rfl, _, _, rfl, rfl, _, _, rfl, _, rfl, _, rfl, _, _, rfl, rfl, cmL (nb_up ua (by decide)), _, rfl, _, rfl, _, _, rfl, rfl, cmL (nb_up va (by decide)), _, _, rfl, rfl, _, rfl, _, rfl, _, _, rfl, rfl, cmL (nb_up vb (by decide)), _, rfl, _, rfl, _, _, rfl, rfl, cmL (nb_up ub (by decide)), _, _, rfl, rfl, _, _, rfl, rfl, cmL (nb_up la (by decide)), _, rfl, _, rfl, _, _, rfl, rfl, cmL (nb_up ub (by decide)), _, rfl, _, rfl, _, _, rfl, rfl, cmL (nb_up vb (by decide)), _, _, rfl, rfl, _, rfl, _, rfl, _, _, rfl, rfl, cmL (nb_up ua (by decide)), _, rfl, _, rfl, _, _, rfl, rfl, cmL (nb_up va (by decide)), _, _, rfl, rfl, _, _, rfl, rfl, cmL (nb_up lb (by decide)), _, _, rfl, rfl, _, rfl, _, rfl, _, _, rfl, rfl, cmL (nb_up uc (by decide)), _, rfl, _, rfl, _, _, rfl, rfl, cmL (nb_up vc (by decide)), _, _, rfl, rfl, _, rfl, _, rfl, _, _, rfl, rfl, cmL (nb_up va (by decide)), _, rfl, _, rfl, _, _, rfl, rfl, cmL (nb_up ua (by decide)), _, _, rfl, rfl, _, _, rfl, rfl, cmL (nb_up lc (by decide)), _, _, rfl, rfl, ?_⟩
    exact q
def spSpread : Sp := fun vs H Q _ => ∃ (p s : Addr) (x y d u v : Int), vs = [.ref p, .ref s] ∧ Pla H p x y d ∧ PlOk x y d ∧ Sit H s u v ∧ Bd 1000000 u v ∧ Q (.int (spread x y d u v)) H
theorem tri_ne {t : Int} (h : t ≠ 0) : ¬ (V.int t = V.int 0) := fun z => h (V.int.inj z)
theorem ok_circle {f fA fT : Addr} {fd fdA fdT : FuncData} {k : Nat} (F : Fun K "circle" "circle" sCircle f fd)
    (GA : FnOk P w K mg base CX0 (k + 1) fA fdA ["a", "b", "c"] (sp3 K fun ax ay bx by' cx cy => .int (tri ax ay bx by' cx cy))) (gA : mg "turn_of_sites" = some (.ref fA)) (kA : PySem.W.keepIn K (.ref fA) = true) (bA : Binds K fdA ["a", "b", "c"] []) (GT : FnOk P w K mg base CX0 (k + 1) fT fdT ["a", "b", "c"] (spCirT K)) (gT : mg "circle_through" = some (.ref fT)) (kT : PySem.W.keepIn K (.ref fT) = true) (bT : Binds K fdT ["a", "b", "c"] []) : FnOk P w K mg base CX0 (k + 2) f fd ["a", "b", "c"] (spCirT K) := by
  refine F.ok scCircle (fun vs H Q E h => ?_) (fun cdv A outer s H vs Q E hr h => ?_)
  · obtain ⟨a, b, c, ax, ay, bx, by', cx, cy, rfl, _⟩ := h
    rfl
  · obtain ⟨a, b, c, ax, ay, bx, by', cx, cy, rfl, ha, hb, hc, six, t, q⟩ := h
    have nd := scCircle.nd
    refine ⟨_, (pss_cons (ps_set (i := 3) nd rfl (.inl rfl) (pe_call GA hr (by rfl) gA kA bA .nil pass0 (pa_cons (pv 0) (pa_cons (pv 1) (pa_cons (pv 2) pa_nil))))) (pss_cons (ps_if (pt_cmpR op_isN (pv 3) pe_non (nomark _)) pss_never pss_nil) (pss_cons (ps_if (pt_cmpR op_eq (pv 3) pe_int (nomark _)) (pss_one ps_never) pss_nil) (pss_one (ps_ret (pe_call GT hr (by rfl) gT kT bT .nil pass0 (pa_cons (pv 0) (pa_cons (pv 1) (pa_cons (pv 2) pa_nil))))))))), ?_⟩
    exact ⟨_, rfl, _, rfl, _, rfl, a, b, c, ax, ay, bx, by', cx, cy, rfl, ha, hb, hc, six.a, six.b, six.c, _, rfl, rfl, _, rfl, _, rfl, rfl, _, rfl, itf (tri_ne t) ⟨_, rfl, _, rfl, _, rfl, a, b, c, ax, ay, bx, by', cx, cy, rfl, ha, hb, hc, six, t, q⟩⟩
theorem ok_lside {f fA fC fH fS : Addr} {fd fdA fdC fdH fdS : FuncData} {k : Nat} (F : Fun K "lift_side" "lift_side" sLSide f fd)
    (GA : FnOk P w K mg base CX0 (k + 1) fA fdA ["a", "b", "c"] (sp3 K fun ax ay bx by' cx cy => .int (tri ax ay bx by' cx cy))) (gA : mg "turn_of_sites" = some (.ref fA)) (kA : PySem.W.keepIn K (.ref fA) = true) (bA : Binds K fdA ["a", "b", "c"] []) (GC : FnOk P w K mg base CX0 (k + 1) fC fdC ["value", "name"] spCheck) (gC : mg "check_site" = some (.ref fC)) (kC : PySem.W.keepIn K (.ref fC) = true) (bC : Binds K fdC ["value", "name"] []) (GH : FnOk P w K mg base CX0 (k + 1) fH fdH ["a", "b", "c", "d"] (sp4 K (fun _ _ _ _ _ _ _ _ => True) fun ax ay bx by' cx cy dx dy => .int (vol ax ay bx by' cx cy dx dy))) (gH : mg "height_over" = some (.ref fH)) (kH : PySem.W.keepIn K (.ref fH) = true) (bH : Binds K fdH ["a", "b", "c", "d"] []) (GS : FnOk P w K mg base CX0 (k + 1) fS fdS ["number"] spSign) (gS : mg "sign" = some (.ref fS)) (kS : PySem.W.keepIn K (.ref fS) = true) (bS : Binds K fdS ["number"] []) :
    FnOk P w K mg base CX0 (k + 2) f fd ["a", "b", "c", "d"] (sp4 K (fun ax ay bx by' cx cy _ _ => tri ax ay bx by' cx cy ≠ 0) fun ax ay bx by' cx cy dx dy => .int (lsd ax ay bx by' cx cy dx dy)) := by
  refine F.ok scLSide (fun vs H Q E h => ?_) (fun cdv A outer s H vs Q E hr h => ?_)
  · obtain ⟨a, b, c, d, ax, ay, bx, by', cx, cy, dx, dy, rfl, _⟩ := h
    rfl
  · obtain ⟨a, b, c, d, ax, ay, bx, by', cx, cy, dx, dy, rfl, ha, hb, hc, hd, six, dd, t, q⟩ := h
    have nd := scLSide.nd
    have z := sg_small (vol ax ay bx by' cx cy dx dy)
    refine ⟨_, (pss_cons (ps_set (i := 4) nd rfl (.inl rfl) (pe_call GA hr (by rfl) gA kA bA .nil pass0 (pa_cons (pv 0) (pa_cons (pv 1) (pa_cons (pv 2) pa_nil))))) (pss_cons (ps_if (pt_cmpR op_isN (pv 4) pe_non (nomark _)) pss_never pss_nil) (pss_cons (ps_expr (pe_call GC hr (by rfl) gC kC bC .nil pass0 (pa_cons (pv 3) (pa_cons pe_str pa_nil)))) (pss_cons (ps_if (pt_cmpR op_eq (pv 4) pe_int (nomark _)) (pss_one ps_never) pss_nil) (pss_one (ps_ret (pe_op op_mul (pe_call GS hr (by rfl) gS kS bS .nil pass0 (pa_cons (pe_call GH hr (by rfl) gH kH bH .nil pass0 (pa_cons (pv 0) (pa_cons (pv 1) (pa_cons (pv 2) (pa_cons (pv 3) pa_nil))))) pa_nil)) (pe_call GS hr (by rfl) gS kS bS .nil pass0 (pa_cons (pv 4) pa_nil))))))))), ?_⟩
    exact ⟨_, rfl, _, rfl, _, rfl, a, b, c, ax, ay, bx, by', cx, cy, rfl, ha, hb, hc, six.a, six.b, six.c, _, rfl, rfl, _, rfl, _, rfl, _, _, _, _, rfl, hd, dd, _, rfl, rfl, _, rfl, itf (tri_ne t) ⟨_, rfl, _, rfl, _, rfl, _, rfl, a, b, c, d, ax, ay, bx, by', cx, cy, dx, dy, rfl, ha, hb, hc, hd, six, dd, True.intro, fun H' s' => ⟨vol ax ay bx by' cx cy dx dy, rfl, _, rfl, tri ax ay bx by' cx cy, rfl, _, _, rfl, rfl, .inl ⟨by omega, by omega⟩, q _ s'⟩⟩⟩
theorem ok_inc {f fL : Addr} {fd fdL : FuncData} {k : Nat} (F : Fun K "in_circle" "in_circle" sInC f fd)
    (GL : FnOk P w K mg base CX0 (k + 1) fL fdL ["a", "b", "c", "d"] (sp4 K (fun ax ay bx by' cx cy _ _ => tri ax ay bx by' cx cy ≠ 0) fun ax ay bx by' cx cy dx dy => .int (lsd ax ay bx by' cx cy dx dy))) (gL : mg "lift_side" = some (.ref fL)) (kL : PySem.W.keepIn K (.ref fL) = true) (bL : Binds K fdL ["a", "b", "c", "d"] []) :
    FnOk P w K mg base CX0 (k + 2) f fd ["a", "b", "c", "d"] (sp4 K (fun ax ay bx by' cx cy _ _ => tri ax ay bx by' cx cy ≠ 0) fun ax ay bx by' cx cy dx dy => .int (-lsd ax ay bx by' cx cy dx dy)) := by
  refine F.ok scInC (fun vs H Q E h => ?_) (fun cdv A outer s H vs Q E hr h => ?_)
  · obtain ⟨a, b, c, d, ax, ay, bx, by', cx, cy, dx, dy, rfl, _⟩ := h
    rfl
  · obtain ⟨a, b, c, d, ax, ay, bx, by', cx, cy, dx, dy, rfl, ha, hb, hc, hd, six, dd, t, q⟩ := h
    refine ⟨_, pss_one (ps_ret (pe_un un_neg (pe_call GL hr (by rfl) gL kL bL .nil pass0 (pa_cons (pv 0) (pa_cons (pv 1) (pa_cons (pv 2) (pa_cons (pv 3) pa_nil))))))), ?_⟩
    exact ⟨_, rfl, _, rfl, _, rfl, _, rfl, a, b, c, d, ax, ay, bx, by', cx, cy, dx, dy, rfl, ha, hb, hc, hd, six, dd, t, fun H' s' => ⟨_, rfl, q _ s'⟩⟩
def spSquare (K : PySem.W.Frag) : Sp := fun vs H Q _ => ∃ (p s : Addr) (x y d u v : Int), vs = [.ref p, .ref s] ∧ Pla H p x y d ∧ PlOk x y d ∧ Sit H s u v ∧ Bd 1000000 u v ∧
  newRes H Q (.tup [.int (spread x y d u v / gcf (spread x y d u v) (d * d)), .int (d * d / gcf (spread x y d u v) (d * d))])
def spNearer (K : PySem.W.Frag) : Sp := fun vs H Q _ => ∃ (p s t : Addr) (x y d u v u2 v2 : Int), vs = [.ref p, .ref s, .ref t] ∧ Pla H p x y d ∧ PlOk x y d ∧ Sit H s u v ∧ Bd 1000000 u v ∧ Sit H t u2 v2 ∧ Bd 1000000 u2 v2 ∧
  Q (.int (sg (spread x y d u v - spread x y d u2 v2))) H
end
/-! ### the law's own reckoning -/
abbrev sLSq : Stmt := topS 26
abbrev sLTurn : Stmt := topS 27
abbrev sLCom : Stmt := topS 28
abbrev sLPl : Stmt := topS 29
theorem scLSq : FnScope ["_law_place_here", "_law_site"] ["_law_place_here", "_law_site"] (defScope sLSq) := ⟨rfl, rfl, rfl, by decide +kernel, rfl, by decide +kernel, by decide +kernel⟩
theorem scLTurn : FnScope ["_law_aa", "_law_bb", "_law_cc"] ["_law_aa", "_law_bb", "_law_cc"] (defScope sLTurn) := ⟨rfl, rfl, rfl, by decide +kernel, rfl, by decide +kernel, by decide +kernel⟩
theorem scLCom : FnScope ["_law_aa", "_law_bb"] ["_law_aa", "_law_bb"] (defScope sLCom) := ⟨rfl, rfl, rfl, by decide +kernel, rfl, by decide +kernel, by decide +kernel⟩
theorem scLPl : FnScope ["_law_x", "_law_y", "_law_dd", "_law_great"] ["_law_x", "_law_y", "_law_dd"] (defScope sLPl) := ⟨rfl, rfl, rfl, by decide +kernel, rfl, by decide +kernel, by decide +kernel⟩
section
variable {P : Program} {w : World} {K : PySem.W.Frag} {mg : Str → Option Value} {base : Heap}
theorem far_bits' {x d u : Int} (hx : x.natAbs < 2 ^ 100) (hd : d.natAbs < 2 ^ 100) (hu : -1000000 ≤ u ∧ u ≤ 1000000) : (x - u * d).natAbs < 2 ^ 121 := by
  rw [Int.mul_comm]
  exact far_bits hx hd hu
theorem ok_lsq {f : Addr} {fd : FuncData} {k : Nat} (F : Fun K "_law_square" "_law_square" sLSq f fd) : FnOk P w K mg base CX0 (k + 1) f fd ["_law_place_here", "_law_site"] spSpread := by
  refine F.ok scLSq (fun vs H Q E h => ?_) (fun cdv A outer s H vs Q E hr h => ?_)
  · obtain ⟨p, s, x, y, d, u, v, rfl, _⟩ := h
    rfl
  · obtain ⟨p, s, x, y, d, u, v, rfl, hp, po, hs, ds, q⟩ := h
    have pb := po.bits
    have ds1 := ds.1
    have ds2 := ds.2.1
    have ds3 := ds.2.2.1
    have ds4 := ds.2.2.2
    refine ⟨_, pss_one (ps_ret (pe_op op_add (pe_op op_sq (pe_op op_sub (pe_ix ix_tup (pv 0) pe_int (fun _ _ => rfl)) (pe_op op_mul (pe_ix ix_tup (pv 1) pe_int (fun _ _ => rfl)) (pe_ix ix_tup (pv 0) pe_int (fun _ _ => rfl)))) pe_int) (pe_op op_sq (pe_op op_sub (pe_ix ix_tup (pv 0) pe_int (fun _ _ => rfl)) (pe_op op_mul (pe_ix ix_tup (pv 1) pe_int (fun _ _ => rfl)) (pe_ix ix_tup (pv 0) pe_int (fun _ _ => rfl)))) pe_int))), ?_⟩
    unfold spread at q
    rw [Int.mul_comm d u, Int.mul_comm d v] at q
    exact ⟨_, rfl, _, _, _, _, rfl, rfl, SqT.of hp, a30_ _ _ _, _, rfl, _, _, _, _, rfl, rfl, SqT.of hs, at0_ _ _, _, rfl, _, _, _, _, rfl, rfl, SqT.of hp, a32_ _ _ _, _, _, rfl, rfl, cmL (by omega), _, _, rfl, rfl, _, _, rfl, rfl, ⟨rfl, nb_up (far_bits' pb.1 pb.2.2 ⟨ds1, ds2⟩) (by decide)⟩, _, rfl, _, _, _, _, rfl, rfl, SqT.of hp, a31_ _ _ _, _, rfl, _, _, _, _, rfl, rfl, SqT.of hs, at1_ _ _, _, rfl, _, _, _, _, rfl, rfl, SqT.of hp, a32_ _ _ _, _, _, rfl, rfl, cmL (by omega), _, _, rfl, rfl, _, _, rfl, rfl, ⟨rfl, nb_up (far_bits' pb.2.1 pb.2.2 ⟨ds3, ds4⟩) (by decide)⟩, _, _, rfl, rfl, q⟩
theorem ok_lturn {f : Addr} {fd : FuncData} {k : Nat} (F : Fun K "_law_turn" "_law_turn" sLTurn f fd) : FnOk P w K mg base CX0 (k + 1) f fd ["_law_aa", "_law_bb", "_law_cc"] (sp3 K fun ax ay bx by' cx cy => .int (tri ax ay bx by' cx cy)) := by
  refine F.ok scLTurn (fun vs H Q E h => ?_) (fun cdv A outer s H vs Q E hr h => ?_)
  · obtain ⟨a, b, c, ax, ay, bx, by', cx, cy, rfl, _⟩ := h
    rfl
  · obtain ⟨a, b, c, ax, ay, bx, by', cx, cy, rfl, ha, hb, hc, da, db, dc, q⟩ := h
    have six : Six ax ay bx by' cx cy := ⟨da, db, dc⟩
    have q : Q (.int (tri ax ay bx by' cx cy)) H := q
    refine ⟨_, pss_one (ps_ret (pe_op op_sub (pe_op op_mul (pe_op op_sub (pe_ix ix_tup (pv 1) pe_int (fun _ _ => rfl)) (pe_ix ix_tup (pv 0) pe_int (fun _ _ => rfl))) (pe_op op_sub (pe_ix ix_tup (pv 2) pe_int (fun _ _ => rfl)) (pe_ix ix_tup (pv 0) pe_int (fun _ _ => rfl)))) (pe_op op_mul (pe_op op_sub (pe_ix ix_tup (pv 2) pe_int (fun _ _ => rfl)) (pe_ix ix_tup (pv 0) pe_int (fun _ _ => rfl))) (pe_op op_sub (pe_ix ix_tup (pv 1) pe_int (fun _ _ => rfl)) (pe_ix ix_tup (pv 0) pe_int (fun _ _ => rfl)))))), ?_⟩
    unfold tri at q
    rw [Int.mul_comm (by' - ay) (cx - ax)] at q
    exact ⟨_, rfl, _, _, _, _, rfl, rfl, SqT.of hb, at0_ _ _, _, rfl, _, _, _, _, rfl, rfl, SqT.of ha, at0_ _ _, _, _, rfl, rfl, _, rfl, _, _, _, _, rfl, rfl, SqT.of hc, at1_ _ _, _, rfl, _, _, _, _, rfl, rfl, SqT.of ha, at1_ _ _, _, _, rfl, rfl, _, _, rfl, rfl, cmL (nb_up six.u1 (by decide)), _, rfl, _, _, _, _, rfl, rfl, SqT.of hc, at0_ _ _, _, rfl, _, _, _, _, rfl, rfl, SqT.of ha, at0_ _ _, _, _, rfl, rfl, _, rfl, _, _, _, _, rfl, rfl, SqT.of hb, at1_ _ _, _, rfl, _, _, _, _, rfl, rfl, SqT.of ha, at1_ _ _, _, _, rfl, rfl, _, _, rfl, rfl, cmL (nb_up six.u2 (by decide)), _, _, rfl, rfl, q⟩
/-! the greatest common divisor, by rests -/
def spCom : Sp := fun vs H Q _ => ∃ a b : Int, vs = [.int a, .int b] ∧ Q (.int ((Nat.gcd a.natAbs b.natAbs : Nat) : Int)) H
theorem ok_com {f : Addr} {fd : FuncData} {k : Nat} (F : Fun K "_law_common" "_law_common" sLCom f fd) (mi : mg "int" = none) (ma : mg "abs" = none) : FnOk P w K mg base CX0 (k + 1) f fd ["_law_aa", "_law_bb"] spCom := by
  refine F.ok scLCom (fun vs H Q E h => ?_) (fun cdv A outer s H vs Q E hr h => ?_)
  · obtain ⟨a, b, rfl, _⟩ := h
    rfl
  · obtain ⟨a, b, rfl, q⟩ := h
    have nd := scLCom.nd
    refine ⟨_, pss_cons (ps_par (i := 0) (j := 1) rfl nd rfl rfl (by decide) rfl rfl (pa_cons (pe_callB call_abs (by rfl) ma (by decide +kernel) (pa_cons (pv 0) pa_nil)) (pa_cons (pe_callB call_abs (by rfl) ma (by decide +kernel) (pa_cons (pv 1) pa_nil)) pa_nil)) rfl)
      (pss_cons (ps_while PassesOwn.never (pt_cmpR op_gt (pv 1) pe_int (nomark _)) (pss_one (ps_par (i := 0) (j := 1) rfl nd rfl rfl (by decide) rfl rfl (pa_cons (pv 1) (pa_cons (pe_op op_mod (pe_callTy call_int1 (by rfl) mi (by decide +kernel) (pa_cons (pv 0) pa_nil)) (pv 1)) pa_nil)) rfl)))
      (pss_one (ps_ret (pv 0)))), ?_⟩
    refine ⟨_, rfl, _, rfl, _, rfl, _, rfl, _, _, rfl, ?_⟩
    have ab : ∀ z : Int, (if z < 0 then -z else z) = (z.natAbs : Int) := fun z => by split <;> omega
    show tWhile _ _ _ [some (V.int (if a < 0 then -a else a)), some (V.int (if b < 0 then -b else b))] H
    rw [ab, ab]
    refine while_by (fun σ' H' => (∃ m n : Nat, σ' = [some (.int (m : Int)), some (.int (n : Int))] ∧ Nat.gcd m n = Nat.gcd a.natAbs b.natAbs) ∧ H = H') (fun σ' _ => match σ' with
      | [_, some (.int n)] => n.toNat
      | _ => 0) ⟨⟨_, _, rfl, rfl⟩, rfl⟩ ?_ ?_
    · rintro _ _ ⟨⟨m, n, rfl, e⟩, rfl⟩
      refine ⟨_, rfl, _, _, rfl, rfl, _, rfl, ite2 (fun c => ?_) fun c => ?_⟩
      · have c : (0 : Int) < (n : Int) := of_decide_eq_true c
        have hm : (m : Int) % (n : Int) = ((m % n : Nat) : Int) := rfl
        refine ⟨_, rfl, _, rfl, .inl ⟨_, rfl, _, rfl, _, _, rfl, rfl, c, _, _, rfl, ?_⟩⟩
        refine ⟨⟨⟨n, m % n, ?_, ?_⟩, rfl⟩, ?_⟩
        · show [some (V.int (n : Int)), some (V.int ((m : Int) % (n : Int)))] = _
          rw [hm]
        · rw [← e, Nat.gcd_comm m n, Nat.gcd_rec n m, Nat.gcd_comm]
        · show ((m : Int) % (n : Int)).toNat < ((n : Int)).toNat
          rw [hm, Int.toNat_natCast, Int.toNat_natCast]
          exact Nat.mod_lt _ (by omega)
      · have c : ¬ (0 : Int) < (n : Int) := fun z => c (decide_eq_true z)
        have n0 : n = 0 := by omega
        subst n0
        rw [Nat.gcd_zero_right] at e
        refine ⟨_, rfl, ?_⟩
        rw [e]
        exact q
    · rintro σ' H' Q1 Q2 hq ⟨v, e1, i, j, e2, e3, k, e4, r⟩
      exact ⟨v, e1, i, j, e2, e3, k, e4, hq _ _ r⟩
theorem ok_lpl {f fCo : Addr} {fd fdCo : FuncData} {k : Nat} (F : Fun K "_law_place" "_law_place" sLPl f fd) (GCo : FnOk P w K mg base CX0 (k + 1) fCo fdCo ["_law_aa", "_law_bb"] spCom) (gCo : mg "_law_common" = some (.ref fCo)) (kCo : PySem.W.keepIn K (.ref fCo) = true) (bCo : Binds K fdCo ["_law_aa", "_law_bb"] []) : FnOk P w K mg base CX0 (k + 2) f fd ["_law_x", "_law_y", "_law_dd"] spPlOf := by
  refine F.ok scLPl (fun vs H Q E h => ?_) (fun cdv A outer s H vs Q E hr h => ?_)
  · obtain ⟨x, y, d, rfl, _⟩ := h
    rfl
  · obtain ⟨x, y, d, rfl, hn, hw, q⟩ := h
    refine ⟨_, C8.pss_cut (ps_set (i := 3) scLPl.nd rfl (.inl rfl) (pe_op op_mul (pe_call GCo hr (by rfl) gCo kCo bCo .nil pass0 (pa_cons (pe_call GCo hr (by rfl) gCo kCo bCo .nil pass0 (pa_cons (pv 0) (pa_cons (pv 1) pa_nil))) (pa_cons (pv 2) pa_nil))) (pe_ifExp (pt_cmpR op_gt (pv 2) pe_int (nomark _)) pe_int pe_neg))) (pss_one (ps_ret (pe_tup (pa_cons (pe_op op_fdivE (pv 0) (pv 3)) (pa_cons (pe_op op_fdivE (pv 1) (pv 3)) (pa_cons (pe_op op_fdivE (pv 2) (pv 3)) pa_nil)))))), ?_⟩
    refine ⟨fun σ' H' => σ' = [some (.int x), some (.int y), some (.int d), some (.int (gs x y d))] ∧ H = H', ?_, ?_⟩
    · have e := g3_is x y d
      refine ⟨_, rfl, _, rfl, _, _, rfl, _, rfl, _, _, rfl, _, rfl, _, _, rfl, rfl, _, rfl, ite2 (fun c => ?_) fun c => ?_⟩
      · have c : 0 < d := of_decide_eq_true c
        refine ⟨_, _, rfl, rfl, .inr ⟨by decide, by decide⟩, ?_, rfl⟩
        show [_, _, _, some (V.int (((Nat.gcd (((Nat.gcd x.natAbs y.natAbs : Nat) : Int)).natAbs d.natAbs : Nat) : Int) * 1))] = _
        unfold gs
        rw [e, if_neg (by omega), Int.mul_one]
      · have c : ¬ 0 < d := fun z => c (decide_eq_true z)
        refine ⟨_, _, rfl, rfl, .inr ⟨by decide, by decide⟩, ?_, rfl⟩
        show [_, _, _, some (V.int (((Nat.gcd (((Nat.gcd x.natAbs y.natAbs : Nat) : Int)).natAbs d.natAbs : Nat) : Int) * -1))] = _
        unfold gs
        rw [e, if_pos (by omega), Int.mul_neg, Int.mul_one]
    · rintro _ _ ⟨rfl, rfl⟩
      have c := gs_div (x := x) (y := y) hn hw
      exact ⟨_, rfl, _, rfl, _, _, rfl, rfl, c _, _, rfl, _, rfl, _, _, rfl, rfl, c _, _, rfl, _, rfl, _, _, rfl, rfl, c _, three_line, fun p np => q p _ (Same.upd np) np upd_same⟩
/-! calls by keywords, from the last one on -/
def gRev {α : Type} (us ws : List α) : List α := match us with
  | [] => ws.reverse
  | _ :: _ => []
theorem Vals.rev : ∀ {xs : List V} {us : List Value}, Vals xs us → Vals xs.reverse us.reverse
  | _, _, .nil => .nil
  | _, _, .cons r t => by
    rw [List.reverse_cons, List.reverse_cons]
    exact Vals.append (Vals.rev t) (.cons r .nil)
theorem kb_rev {x q : Str} {st : Stmt} {f : Addr} {fd : FuncData} {ps ks : List Str} (F : Fun K x q st f fd) (h0 : 0 < ps.length)
    (h : ∀ (kV doc pm : Value) (an : Option Addr) (cdv ct : Value) (ws : List Value), ws.length = ps.length → bindArgs (PySem.W.fnOf x q (defArgs st) (defBody st) (defScope st) .none kV doc pm an cdv ct) ⟨[], ks.zip ws⟩ = (pure (ps.zip ws.reverse) : Sem (List (Str × Value)))) :
    KBinds K fd ps ks gRev gRev := by
  obtain ⟨oc, od, kV, doc, pm, an, cdv, ct, osl, rfl, lk, hcd⟩ := F.ex
  refine ⟨fun s us ws _ hl => ?_, fun {vs us zs ws} r rz => ?_⟩
  · cases us with
    | nil =>
      have hl : ws.reverse.length = ps.length := hl
      rw [List.length_reverse] at hl
      exact .of_eq (h kV doc pm an cdv ct ws hl)
    | cons a r =>
      have hl : 0 = ps.length := hl
      omega
  · cases r with
    | nil => exact Vals.rev rz
    | cons _ _ => exact .nil
end
/-! ### what raises NoCircle -/
abbrev sInit : Stmt := match topS 4 with
  | .ClassDef _ _ _ body _ _ _ _ _ _ _ => body.getD 0 (.Pass ⟨0, 0, 0, 0⟩)
  | s => s
theorem scInit : FnScope ["self"] ["self"] (defScope sInit) := ⟨rfl, rfl, rfl, by decide +kernel, rfl, by decide +kernel, by decide +kernel⟩
section
variable {P : Program} {w : World} {K : PySem.W.Frag} {mg : Str → Option Value} {base : Heap}
theorem ok_init {f : Addr} {fd : FuncData} {k : Nat} (F : Fun K "__init__" "NoCircle.__init__" sInit f fd) : FnOk P w K mg base CX0 (k + 1) f fd ["self"] spPass := by
  refine F.ok scInit (fun vs H Q E h => ?_) (fun cdv A outer s H vs Q E hr h => ?_)
  · obtain ⟨a, rfl, _⟩ := h
    rfl
  · obtain ⟨a, rfl, q⟩ := h
    exact ⟨_, pss_one ps_pass, q⟩
/-- three sites in a row: NoCircle -/
def spRow3 (C : Addr) : Sp := fun vs H _ E => ∃ (a b c : Addr) (ax ay bx by' cx cy : Int), vs = [.ref a, .ref b, .ref c] ∧ Sit H a ax ay ∧ Sit H b bx by' ∧ Sit H c cx cy ∧ Six ax ay bx by' cx cy ∧ tri ax ay bx by' cx cy = 0 ∧ E (.ref C) none H
def spRow4 (C : Addr) : Sp := fun vs H _ E => ∃ (a b c d : Addr) (ax ay bx by' cx cy dx dy : Int), vs = [.ref a, .ref b, .ref c, .ref d] ∧ Sit H a ax ay ∧ Sit H b bx by' ∧ Sit H c cx cy ∧ Sit H d dx dy ∧ Six ax ay bx by' cx cy ∧ Bd 1000000 dx dy ∧ tri ax ay bx by' cx cy = 0 ∧ E (.ref C) none H
theorem ok_circleX {f fA fI C : Addr} {fd fdA fdI : FuncData} {k : Nat} (F : Fun K "circle" "circle" sCircle f fd)
    (GA : FnOk P w K mg base CX0 (k + 2) fA fdA ["a", "b", "c"] (sp3 K fun ax ay bx by' cx cy => .int (tri ax ay bx by' cx cy))) (gA : mg "turn_of_sites" = some (.ref fA)) (kA : PySem.W.keepIn K (.ref fA) = true) (bA : Binds K fdA ["a", "b", "c"] []) (T : PassC K C fI) (GI : FnOk P w K mg base CX0 (k + 1) fI fdI ["self"] spPass) (bI : Binds K fdI ["self"] []) (gN : mg "NoCircle" = some (.ref C)) : FnOk P w K mg base (L2.CX P w) (k + 3) f fd ["a", "b", "c"] (spRow3 C) := by
  refine F.okX scCircle (fun vs H Q E h => ?_) (fun cdv A outer s H vs Q E hr h => ?_)
  · obtain ⟨a, b, c, ax, ay, bx, by', cx, cy, rfl, _⟩ := h
    rfl
  · obtain ⟨a, b, c, ax, ay, bx, by', cx, cy, rfl, ha, hb, hc, six, t, q⟩ := h
    have nd := scCircle.nd
    refine ⟨_, (pss_cons (ps_set (i := 3) nd rfl (.inl rfl) (pe_call GA (hr.mono (by omega)) (by rfl) gA kA bA .nil pass0 (pa_cons (pv 0) (pa_cons (pv 1) (pa_cons (pv 2) pa_nil))))) (pss_cons (ps_if (pt_cmpR op_isN (pv 3) pe_non (nomark _)) pss_never pss_nil) (pss_cons (ps_if (pt_cmpR op_eq (pv 3) pe_int (nomark _)) (pss_one (ps_raise rfl (takes_of (E := E) rfl rfl rfl rfl) (pmk_pass T GI hr bI pass0 (by rfl) gN))) pss_nil) pss_never))), ?_⟩
    exact ⟨_, rfl, _, rfl, _, rfl, a, b, c, ax, ay, bx, by', cx, cy, rfl, ha, hb, hc, six.a, six.b, six.c, _, rfl, rfl, _, rfl, _, rfl, rfl, _, rfl, itt (congrArg V.int t) q⟩
theorem ok_lsideX {f fA fC fI C : Addr} {fd fdA fdC fdI : FuncData} {k : Nat} (F : Fun K "lift_side" "lift_side" sLSide f fd)
    (GA : FnOk P w K mg base CX0 (k + 2) fA fdA ["a", "b", "c"] (sp3 K fun ax ay bx by' cx cy => .int (tri ax ay bx by' cx cy))) (gA : mg "turn_of_sites" = some (.ref fA)) (kA : PySem.W.keepIn K (.ref fA) = true) (bA : Binds K fdA ["a", "b", "c"] []) (GC : FnOk P w K mg base CX0 (k + 2) fC fdC ["value", "name"] spCheck) (gC : mg "check_site" = some (.ref fC)) (kC : PySem.W.keepIn K (.ref fC) = true) (bC : Binds K fdC ["value", "name"] []) (T : PassC K C fI) (GI : FnOk P w K mg base CX0 (k + 1) fI fdI ["self"] spPass) (bI : Binds K fdI ["self"] []) (gN : mg "NoCircle" = some (.ref C)) : FnOk P w K mg base (L2.CX P w) (k + 3) f fd ["a", "b", "c", "d"] (spRow4 C) := by
  refine F.okX scLSide (fun vs H Q E h => ?_) (fun cdv A outer s H vs Q E hr h => ?_)
  · obtain ⟨a, b, c, d, ax, ay, bx, by', cx, cy, dx, dy, rfl, _⟩ := h
    rfl
  · obtain ⟨a, b, c, d, ax, ay, bx, by', cx, cy, dx, dy, rfl, ha, hb, hc, hd, six, dd, t, q⟩ := h
    have nd := scLSide.nd
    refine ⟨_, (pss_cons (ps_set (i := 4) nd rfl (.inl rfl) (pe_call GA (hr.mono (by omega)) (by rfl) gA kA bA .nil pass0 (pa_cons (pv 0) (pa_cons (pv 1) (pa_cons (pv 2) pa_nil))))) (pss_cons (ps_if (pt_cmpR op_isN (pv 4) pe_non (nomark _)) pss_never pss_nil) (pss_cons (ps_expr (pe_call GC (hr.mono (by omega)) (by rfl) gC kC bC .nil pass0 (pa_cons (pv 3) (pa_cons pe_str pa_nil)))) (pss_cons (ps_if (pt_cmpR op_eq (pv 4) pe_int (nomark _)) (pss_one (ps_raise rfl (takes_of (E := E) rfl rfl rfl rfl) (pmk_pass T GI hr bI pass0 (by rfl) gN))) pss_nil) pss_never)))), ?_⟩
    exact ⟨_, rfl, _, rfl, _, rfl, a, b, c, ax, ay, bx, by', cx, cy, rfl, ha, hb, hc, six.a, six.b, six.c, _, rfl, rfl, _, rfl, _, rfl, _, _, _, _, rfl, hd, dd, _, rfl, rfl, _, rfl, itt (congrArg V.int t) q⟩
theorem ok_incX {f fL C : Addr} {fd fdL : FuncData} {k : Nat} (F : Fun K "in_circle" "in_circle" sInC f fd) (GL : FnOk P w K mg base (L2.CX P w) (k) fL fdL ["a", "b", "c", "d"] (spRow4 C)) (gL : mg "lift_side" = some (.ref fL)) (kL : PySem.W.keepIn K (.ref fL) = true) (bL : Binds K fdL ["a", "b", "c", "d"] []) : FnOk P w K mg base (L2.CX P w) (k + 1) f fd ["a", "b", "c", "d"] (spRow4 C) := by
  refine F.okX scInC (fun vs H Q E h => ?_) (fun cdv A outer s H vs Q E hr h => ?_)
  · obtain ⟨a, b, c, d, ax, ay, bx, by', cx, cy, dx, dy, rfl, _⟩ := h
    rfl
  · obtain ⟨a, b, c, d, ax, ay, bx, by', cx, cy, dx, dy, rfl, ha, hb, hc, hd, six, dd, t, q⟩ := h
    refine ⟨_, pss_one (ps_ret (pe_un un_neg (pe_call GL hr (by rfl) gL kL bL .nil (passes_call (takes_of (E := E) rfl rfl rfl rfl) fun _ _ _ _ h => h) (pa_cons (pv 0) (pa_cons (pv 1) (pa_cons (pv 2) (pa_cons (pv 3) pa_nil))))))), ?_⟩
    exact ⟨_, rfl, _, rfl, _, rfl, _, rfl, a, b, c, d, ax, ay, bx, by', cx, cy, dx, dy, rfl, ha, hb, hc, hd, six, dd, t, q⟩
end
/-! ### whether a call raises NoCircle -/
open LamX
abbrev sNoC : Stmt := topS 31
abbrev nNoC : List Str := ["_law_call", "_law_found", "e"]
theorem scNoC : FnScope nNoC ["_law_call"] (defScope sNoC) := ⟨rfl, rfl, rfl, by decide +kernel, rfl, by decide +kernel, by decide +kernel⟩
theorem takes_len {X : Cx} {W : WX} {n : Nat} (hn : X.N.length = n) (tk : Takes X W) : Takes X (fun cls d σ H => σ.length = n → W cls d σ H) := fun u s' ⟨a, B, sI, pins, σ, H, cls, d, e, I, nb, up, sky, na, os, ag, w⟩ =>
  tk u s' ⟨a, B, sI, pins, σ, H, cls, d, e, I, nb, up, sky, na, os, ag, w (by rw [← hn]; exact I.len)⟩
def TNoC (C : Addr) : (XK → Hp → VK → Prop) → Hp → VK → Prop := fun tl H Q => ∀ Q' : VK, tl (fun cls d H' => cls = .ref C ∧ d = none ∧ Q (.bl true) H') H Q'
theorem noc_gives {X : Cx} {q : Str} {g C CE : Addr} {cdg : Value} (mC : X.mg "NoCircle" = some (.ref C)) (mE : X.mg "CellError" = some (.ref CE)) (mi : X.mg "isinstance" = none) (cC : ExcC X.K C) (eC : PySem.W.exmOne X.K (.ref C) (.ref C) = some true)
    (kE : PySem.W.kitOne X.K (.ref C) (.ref CE) = some true) : GivesTo X nNoC "_law_no_circle" (defScope sNoC) g cdg (defBody sNoC) "_law_call" q (TNoC C) := by
  intro f c' s H Q tl act hc h
  have nd : nNoC.Nodup := scNoC.nd
  refine ⟨_, pss_cons (ps_set (i := 1) nd rfl (.inl rfl) pe_bl) (pss_cons (ps_try_as1 (X := (cxOf C8.CX0 X.prog X.w X.K X.mg X.base nNoC "_law_no_circle" (defScope sNoC) g cdg X.A X.stack s H C8.E0).nox) (i := 2) (c := .ref C)
      (tb := fun W D σ H => ∃ Ech : XK, (∀ cls d σ' H', Ech cls d H' → σ'.length = 3 → W cls d σ' H') ∧ σ[0]? = some (some (.ref f)) ∧ H c' = some (CodeO c' q) ∧ ∀ Q' : VK, tl Ech H Q')
      (ts := fun a cls d D σ H => cls = .ref C ∧ d = none ∧ ∃ x0 x1, σ = [x0, x1, some (.ref a)] ∧ D.nx [x0, some (.bl true), some (.ref a)] H)
      rfl rfl nd rfl rfl ⟨by rfl, by decide, .inl mC⟩ (fun W pn xe tk => ?_) (fun a oe cls d pn hz hf => ?_)) (pss_one (ps_ret (pv 1)))), ?_⟩
  · refine ⟨fun pins s' σ H' D I w' => ?_⟩
    obtain ⟨Ech, hW, at0, co, h3⟩ := w'
    exact (pss_one (ps_expr (act (fun cls d σ H => σ.length = 3 → W cls d σ H) pn xe Ech _ _ (takes_len (n := 3) rfl tk) hW))).run pins s' σ H' D I ⟨at0, co, h3 _⟩
  · refine ⟨fun pins s' σ H' D I w' => ?_⟩
    obtain ⟨rfl, rfl, x0, x1, rfl, hq⟩ := w'
    exact (pss_one (ps_set (i := 1) nd rfl (.inl rfl) (pe_callB (call_isE (X := (cxOf C8.CX0 X.prog X.w X.K X.mg X.base nNoC "_law_no_circle" (defScope sNoC) g cdg X.A X.stack s H C8.E0).nox) cC hz hf) (by rfl) mi (by decide +kernel) (pa_cons (pv 2) (pa_cons (pe_glob (v := .ref CE) (by rfl) mE rfl) pa_nil))))).run pins s' _ H' D I
      ⟨_, rfl, .ref CE, .ref CE, true, rfl, fun u r => r, kE, hq⟩
  · refine ⟨fun cls d H' => cls = .ref C ∧ d = none ∧ Q (.bl true) H', fun cls d σ' H' z l => ?_, rfl, hc, h⟩
    obtain ⟨rfl, rfl, z⟩ := z
    match σ', l with
    | [y0, y1, y2], _ => exact ⟨eC, fun a _ => ⟨rfl, rfl, y0, y1, rfl, _, rfl, z⟩⟩
/-! ### the circle of three sites, told otherwise -/
section
variable {ax ay bx by' cx cy : Int}
theorem g3_two (x y d : Int) : g3 (2 * x) (2 * y) (2 * d) = 2 * g3 x y d := by
  unfold g3
  rw [Int.natAbs_mul, Int.natAbs_mul, Int.natAbs_mul]
  show Nat.gcd (Nat.gcd (2 * _) (2 * _)) (2 * _) = _
  rw [Nat.gcd_mul_left, Nat.gcd_mul_left]
theorem gs_two (x y d : Int) : gs (2 * x) (2 * y) (2 * d) = 2 * gs x y d := by
  unfold gs
  rw [g3_two]
  split <;> split <;> omega
theorem fdiv_two (x g : Int) : (2 * x).fdiv (2 * g) = x.fdiv g := Int.mul_fdiv_mul_of_pos _ _ (by decide)
theorem gs_neg {x y d : Int} (h : d ≠ 0) : gs (-x) (-y) (-d) = -gs x y d := by
  unfold gs
  have e : g3 (-x) (-y) (-d) = g3 x y d := by
    unfold g3
    rw [Int.natAbs_neg, Int.natAbs_neg, Int.natAbs_neg]
  rw [e]
  split <;> split <;> omega
def lX (ax ay bx by' cx cy : Int) : Int := (bx * bx + by' * by' - ax * ax - ay * ay) * (2 * (cy - ay)) - (cx * cx + cy * cy - ax * ax - ay * ay) * (2 * (by' - ay))
def lY (ax ay bx by' cx cy : Int) : Int := 2 * (bx - ax) * (cx * cx + cy * cy - ax * ax - ay * ay) - 2 * (cx - ax) * (bx * bx + by' * by' - ax * ax - ay * ay)
def lD (ax ay bx by' cx cy : Int) : Int := 2 * (bx - ax) * (2 * (cy - ay)) - 2 * (cx - ax) * (2 * (by' - ay))
theorem lX_is : lX ax ay bx by' cx cy = 2 * cXn ax ay bx by' cx cy := by
  unfold lX cXn cX1 tri lz
  grind
theorem lY_is : lY ax ay bx by' cx cy = 2 * cYn ax ay bx by' cx cy := by
  unfold lY cYn cY1 tri lz
  grind
theorem lD_is : lD ax ay bx by' cx cy = 2 * cDn ax ay bx by' cx cy := by
  unfold lD cDn tri
  grind
theorem lctx : (lX ax ay bx by' cx cy).fdiv (gs (lX ax ay bx by' cx cy) (lY ax ay bx by' cx cy) (lD ax ay bx by' cx cy)) = ctx ax ay bx by' cx cy := by
  rw [lX_is, lY_is, lD_is, gs_two, fdiv_two]
  rfl
theorem lcty : (lY ax ay bx by' cx cy).fdiv (gs (lX ax ay bx by' cx cy) (lY ax ay bx by' cx cy) (lD ax ay bx by' cx cy)) = cty ax ay bx by' cx cy := by
  rw [lX_is, lY_is, lD_is, gs_two, fdiv_two]
  rfl
theorem lctd : (lD ax ay bx by' cx cy).fdiv (gs (lX ax ay bx by' cx cy) (lY ax ay bx by' cx cy) (lD ax ay bx by' cx cy)) = ctd ax ay bx by' cx cy := by
  rw [lX_is, lY_is, lD_is, gs_two, fdiv_two]
  rfl
/-! the first two the other way round -/
theorem tri_sw : tri bx by' ax ay cx cy = -tri ax ay bx by' cx cy := by
  unfold tri
  grind
theorem cXn_sw : cXn bx by' ax ay cx cy = -cXn ax ay bx by' cx cy := by
  unfold cXn cX1 tri lz
  grind
theorem cYn_sw : cYn bx by' ax ay cx cy = -cYn ax ay bx by' cx cy := by
  unfold cYn cY1 tri lz
  grind
theorem cDn_sw : cDn bx by' ax ay cx cy = -cDn ax ay bx by' cx cy := by
  unfold cDn tri
  grind
theorem cTop_sw : cTop bx by' ax ay cx cy = cTop ax ay bx by' cx cy := by
  rw [← far_a (ax := bx) (ay := by'), ← far_b, cXn_sw, cYn_sw, cDn_sw]
  unfold spread
  grind
theorem cBot_sw : cBot bx by' ax ay cx cy = cBot ax ay bx by' cx cy := by
  unfold cBot
  rw [tri_sw]
  grind
theorem cD_ne (t : tri ax ay bx by' cx cy ≠ 0) : cDn ax ay bx by' cx cy ≠ 0 := by
  unfold cDn
  omega
theorem ctx_sw (t : tri ax ay bx by' cx cy ≠ 0) : ctx bx by' ax ay cx cy = ctx ax ay bx by' cx cy := by
  unfold ctx
  rw [cXn_sw, cYn_sw, cDn_sw, gs_neg (cD_ne t), Int.neg_fdiv_neg]
theorem cty_sw (t : tri ax ay bx by' cx cy ≠ 0) : cty bx by' ax ay cx cy = cty ax ay bx by' cx cy := by
  unfold cty
  rw [cXn_sw, cYn_sw, cDn_sw, gs_neg (cD_ne t), Int.neg_fdiv_neg]
theorem ctd_sw (t : tri ax ay bx by' cx cy ≠ 0) : ctd bx by' ax ay cx cy = ctd ax ay bx by' cx cy := by
  unfold ctd
  rw [cXn_sw, cYn_sw, cDn_sw, gs_neg (cD_ne t), Int.neg_fdiv_neg]
/-! how far the sites are from the centre, told by the place -/
def reach (ax ay bx by' cx cy : Int) : Int := spread (ctx ax ay bx by' cx cy) (cty ax ay bx by' cx cy) (ctd ax ay bx by' cx cy) ax ay
theorem gcf_scale {g p q : Int} (h : g ≠ 0) : gcf (g * g * p) (g * g * q) = g * g * gcf p q := by
  unfold gcf
  rw [Int.natAbs_mul (g * g) p, Int.natAbs_mul (g * g) q, Nat.gcd_mul_left, Int.natCast_mul, Int.natAbs_mul g g, Int.natAbs_mul_self]
theorem frac_same (t : tri ax ay bx by' cx cy ≠ 0) : cTop ax ay bx by' cx cy / gcf (cTop ax ay bx by' cx cy) (cBot ax ay bx by' cx cy) = reach ax ay bx by' cx cy / gcf (reach ax ay bx by' cx cy) (ctd ax ay bx by' cx cy * ctd ax ay bx by' cx cy) ∧
    cBot ax ay bx by' cx cy / gcf (cTop ax ay bx by' cx cy) (cBot ax ay bx by' cx cy) = ctd ax ay bx by' cx cy * ctd ax ay bx by' cx cy / gcf (reach ax ay bx by' cx cy) (ctd ax ay bx by' cx cy * ctd ax ay bx by' cx cy) := by
  obtain ⟨g, hg, e1, e2, e3⟩ := centre_far t
  have g2 : 0 < g * g := by
    have z := sq_nn g
    have w : g * g ≠ 0 := Int.mul_ne_zero hg hg
    omega
  have t1 : cTop ax ay bx by' cx cy = g * g * reach ax ay bx by' cx cy := by
    unfold reach
    rw [spread_scale, e1, e2, e3, far_a]
  have t2 : cBot ax ay bx by' cx cy = g * g * (ctd ax ay bx by' cx cy * ctd ax ay bx by' cx cy) := by
    have z : cBot ax ay bx by' cx cy = cDn ax ay bx by' cx cy * cDn ax ay bx by' cx cy := rfl
    rw [z, ← e3]
    grind
  rw [t1, t2, gcf_scale hg]
  exact ⟨Int.mul_ediv_mul_of_pos _ _ g2, Int.mul_ediv_mul_of_pos _ _ g2⟩
theorem far_vol (dx dy : Int) : spread (cXn ax ay bx by' cx cy) (cYn ax ay bx by' cx cy) (cDn ax ay bx by' cx cy) dx dy - cTop ax ay bx by' cx cy = 4 * (tri ax ay bx by' cx cy * vol ax ay bx by' cx cy dx dy) := by
  unfold spread cXn cYn cDn cTop cX1 cY1 vol tri lz
  grind
theorem sg_pos {n : Int} (h : 0 < n) : sg n = 1 := by
  unfold sg
  rw [if_neg (by omega), if_pos h]
theorem sg_neg1 {n : Int} (h : n < 0) : sg n = -1 := by
  unfold sg
  rw [if_neg (by omega), if_neg (by omega)]
theorem sg_neg (n : Int) : sg (-n) = -sg n := by
  rcases Int.lt_trichotomy n 0 with h | h | h
  · rw [sg_neg1 h, sg_pos (by omega)]
    rfl
  · subst h
    rfl
  · rw [sg_pos h, sg_neg1 (by omega)]
theorem sg_mul (a b : Int) : sg (a * b) = sg a * sg b := by
  rcases Int.lt_trichotomy a 0 with h | h | h
  · rcases Int.lt_trichotomy b 0 with k | k | k
    · rw [sg_neg1 h, sg_neg1 k, sg_pos (Int.mul_pos_of_neg_of_neg h k)]
      rfl
    · subst k
      rw [Int.mul_zero]
      show (0 : Int) = sg a * 0
      rw [Int.mul_zero]
    · rw [sg_neg1 h, sg_pos k, sg_neg1 (Int.mul_neg_of_neg_of_pos h k)]
      rfl
  · subst h
    rw [Int.zero_mul]
    show (0 : Int) = 0 * sg b
    rw [Int.zero_mul]
  · rcases Int.lt_trichotomy b 0 with k | k | k
    · rw [sg_pos h, sg_neg1 k, sg_neg1 (Int.mul_neg_of_pos_of_neg h k)]
      rfl
    · subst k
      rw [Int.mul_zero]
      show (0 : Int) = sg a * 0
      rw [Int.mul_zero]
    · rw [sg_pos h, sg_pos k, sg_pos (Int.mul_pos h k)]
      rfl
theorem due_is (t : tri ax ay bx by' cx cy ≠ 0) (dx dy : Int) :
    sg (spread (ctx ax ay bx by' cx cy) (cty ax ay bx by' cx cy) (ctd ax ay bx by' cx cy) dx dy - reach ax ay bx by' cx cy) = lsd ax ay bx by' cx cy dx dy := by
  obtain ⟨g, hg, e1, e2, e3⟩ := centre_far t
  have g2 : 0 < g * g := by
    have z := sq_nn g
    have w : g * g ≠ 0 := Int.mul_ne_zero hg hg
    omega
  have k : g * g * (spread (ctx ax ay bx by' cx cy) (cty ax ay bx by' cx cy) (ctd ax ay bx by' cx cy) dx dy - reach ax ay bx by' cx cy) = 4 * (tri ax ay bx by' cx cy * vol ax ay bx by' cx cy dx dy) := by
    unfold reach
    rw [Int.mul_sub, spread_scale, spread_scale, e1, e2, e3, far_a, far_vol]
  have z := congrArg sg k
  rw [sg_mul (g * g), sg_pos g2, Int.one_mul, sg_mul 4, sg_pos (by decide : (0 : Int) < 4), Int.one_mul, sg_mul] at z
  rw [z]
  unfold lsd
  exact Int.mul_comm _ _
theorem lsd_cyc (dx dy : Int) : lsd bx by' cx cy ax ay dx dy = lsd ax ay bx by' cx cy dx dy := by
  have h : ∀ (ax ay bx by' cx cy : Int), lsd cx cy ax ay bx by' dx dy = lsd ax ay bx by' cx cy dx dy := fun ax ay bx by' cx cy => by
    unfold lsd
    rw [vol_turn, tri_turn]
  rw [h cx cy ax ay bx by', h ax ay bx by' cx cy]
theorem lsd_rev (dx dy : Int) : lsd cx cy bx by' ax ay dx dy = lsd ax ay bx by' cx cy dx dy := by
  have v : vol cx cy bx by' ax ay dx dy = -vol ax ay bx by' cx cy dx dy := by
    unfold vol lz
    grind
  have w : tri cx cy bx by' ax ay = -tri ax ay bx by' cx cy := by
    unfold tri
    grind
  unfold lsd
  rw [v, w, sg_neg, sg_neg, Int.neg_mul_neg]
end
abbrev sLCen : Stmt := topS 30
theorem scLCen : FnScope ["_law_aa", "_law_bb", "_law_cc", "_law_u", "_law_v", "_law_w", "_law_z", "_law_first", "_law_second"] ["_law_aa", "_law_bb", "_law_cc"] (defScope sLCen) := ⟨rfl, rfl, rfl, by decide +kernel, rfl, by decide +kernel, by decide +kernel⟩
section
variable {P : Program} {w : World} {K : PySem.W.Frag} {mg : Str → Option Value} {base : Heap}
section
variable {ax ay bx by' cx cy : Int}
theorem Six.n1 (h : Six ax ay bx by' cx cy) : ax.natAbs < 2 ^ 20 := by have := h.a.1; have := h.a.2.1; omega
theorem Six.n2 (h : Six ax ay bx by' cx cy) : ay.natAbs < 2 ^ 20 := by have := h.a.2.2; omega
theorem Six.n3 (h : Six ax ay bx by' cx cy) : bx.natAbs < 2 ^ 20 := by have := h.b.1; have := h.b.2.1; omega
theorem Six.n4 (h : Six ax ay bx by' cx cy) : by'.natAbs < 2 ^ 20 := by have := h.b.2.2; omega
theorem Six.n5 (h : Six ax ay bx by' cx cy) : cx.natAbs < 2 ^ 20 := by have := h.c.1; have := h.c.2.1; omega
theorem Six.n6 (h : Six ax ay bx by' cx cy) : cy.natAbs < 2 ^ 20 := by have := h.c.2.2; omega
end
def spLCen : Sp := fun vs H Q _ => ∃ (a b c : Addr) (ax ay bx by' cx cy : Int), vs = [.ref a, .ref b, .ref c] ∧ Sit H a ax ay ∧ Sit H b bx by' ∧ Sit H c cx cy ∧ Six ax ay bx by' cx cy ∧ tri ax ay bx by' cx cy ≠ 0 ∧ newRes H Q (.tup [.int (ctx ax ay bx by' cx cy), .int (cty ax ay bx by' cx cy), .int (ctd ax ay bx by' cx cy)])
theorem ok_lcen {f fP : Addr} {fd fdP : FuncData} {k : Nat} (F : Fun K "_law_centre" "_law_centre" sLCen f fd) (GP : FnOk P w K mg base CX0 (k + 1) fP fdP ["_law_x", "_law_y", "_law_dd"] spPlOf) (gP : mg "_law_place" = some (.ref fP)) (kP : PySem.W.keepIn K (.ref fP) = true) (bP : Binds K fdP ["_law_x", "_law_y", "_law_dd"] []) : FnOk P w K mg base CX0 (k + 2) f fd ["_law_aa", "_law_bb", "_law_cc"] spLCen := by
  refine F.ok scLCen (fun vs H Q E h => ?_) (fun cdv A outer s H vs Q E hr h => ?_)
  · obtain ⟨a, b, c, ax, ay, bx, by', cx, cy, rfl, _⟩ := h
    rfl
  · obtain ⟨a, b, c, ax, ay, bx, by', cx, cy, rfl, ha, hb, hc, six, t, q⟩ := h
    have nd := scLCen.nd
    have hn1 := six.n1
    have hn2 := six.n2
    have hn3 := six.n3
    have hn4 := six.n4
    have hn5 := six.n5
    have hn6 := six.n6
    refine ⟨_, (pss_cons (ps_par (i := 3) (j := 4) rfl nd rfl rfl (by decide) rfl rfl (pa_cons (pe_op op_mul pe_int (pe_op op_sub (pe_ix ix_tup (pv 1) pe_int (fun _ _ => rfl)) (pe_ix ix_tup (pv 0) pe_int (fun _ _ => rfl)))) (pa_cons (pe_op op_mul pe_int (pe_op op_sub (pe_ix ix_tup (pv 1) pe_int (fun _ _ => rfl)) (pe_ix ix_tup (pv 0) pe_int (fun _ _ => rfl)))) pa_nil)) rfl) (pss_cons (ps_par (i := 5) (j := 6) rfl nd rfl rfl (by decide) rfl rfl (pa_cons (pe_op op_mul pe_int (pe_op op_sub (pe_ix ix_tup (pv 2) pe_int (fun _ _ => rfl)) (pe_ix ix_tup (pv 0) pe_int (fun _ _ => rfl)))) (pa_cons (pe_op op_mul pe_int (pe_op op_sub (pe_ix ix_tup (pv 2) pe_int (fun _ _ => rfl)) (pe_ix ix_tup (pv 0) pe_int (fun _ _ => rfl)))) pa_nil)) rfl) (pss_cons (ps_set (i := 7) scLCen.nd rfl (.inl rfl) (pe_op op_sub (pe_op op_sub (pe_op op_add (pe_op op_mul (pe_ix ix_tup (pv 1) pe_int (fun _ _ => rfl)) (pe_ix ix_tup (pv 1) pe_int (fun _ _ => rfl))) (pe_op op_mul (pe_ix ix_tup (pv 1) pe_int (fun _ _ => rfl)) (pe_ix ix_tup (pv 1) pe_int (fun _ _ => rfl)))) (pe_op op_mul (pe_ix ix_tup (pv 0) pe_int (fun _ _ => rfl)) (pe_ix ix_tup (pv 0) pe_int (fun _ _ => rfl)))) (pe_op op_mul (pe_ix ix_tup (pv 0) pe_int (fun _ _ => rfl)) (pe_ix ix_tup (pv 0) pe_int (fun _ _ => rfl))))) (pss_cons (ps_set (i := 8) scLCen.nd rfl (.inl rfl) (pe_op op_sub (pe_op op_sub (pe_op op_add (pe_op op_mul (pe_ix ix_tup (pv 2) pe_int (fun _ _ => rfl)) (pe_ix ix_tup (pv 2) pe_int (fun _ _ => rfl))) (pe_op op_mul (pe_ix ix_tup (pv 2) pe_int (fun _ _ => rfl)) (pe_ix ix_tup (pv 2) pe_int (fun _ _ => rfl)))) (pe_op op_mul (pe_ix ix_tup (pv 0) pe_int (fun _ _ => rfl)) (pe_ix ix_tup (pv 0) pe_int (fun _ _ => rfl)))) (pe_op op_mul (pe_ix ix_tup (pv 0) pe_int (fun _ _ => rfl)) (pe_ix ix_tup (pv 0) pe_int (fun _ _ => rfl))))) (pss_one (ps_ret (pe_call GP hr (by rfl) gP kP bP .nil pass0 (pa_cons (pe_op op_sub (pe_op op_mul (pv 7) (pv 6)) (pe_op op_mul (pv 8) (pv 4))) (pa_cons (pe_op op_sub (pe_op op_mul (pv 3) (pv 8)) (pe_op op_mul (pv 5) (pv 7))) (pa_cons (pe_op op_sub (pe_op op_mul (pv 3) (pv 6)) (pe_op op_mul (pv 5) (pv 4))) pa_nil)))))))))), ?_⟩
    refine ⟨_, rfl, _, _, _, _, rfl, rfl, SqT.of hb, at0_ _ _, _, rfl, _, _, _, _, rfl, rfl, SqT.of ha, at0_ _ _, _, _, rfl, rfl, _, _, rfl, rfl, .inl ⟨by decide, by decide⟩, _, rfl, _, _, _, _, rfl, rfl, SqT.of hb, at1_ _ _, _, rfl, _, _, _, _, rfl, rfl, SqT.of ha, at1_ _ _, _, _, rfl, rfl, _, _, rfl, rfl, .inl ⟨by decide, by decide⟩, _, _, rfl, ?_⟩
    refine ⟨_, rfl, _, _, _, _, rfl, rfl, SqT.of hc, at0_ _ _, _, rfl, _, _, _, _, rfl, rfl, SqT.of ha, at0_ _ _, _, _, rfl, rfl, _, _, rfl, rfl, .inl ⟨by decide, by decide⟩, _, rfl, _, _, _, _, rfl, rfl, SqT.of hc, at1_ _ _, _, rfl, _, _, _, _, rfl, rfl, SqT.of ha, at1_ _ _, _, _, rfl, rfl, _, _, rfl, rfl, .inl ⟨by decide, by decide⟩, _, _, rfl, ?_⟩
    refine ⟨_, rfl, _, _, _, _, rfl, rfl, SqT.of hb, at0_ _ _, _, rfl, _, _, _, _, rfl, rfl, SqT.of hb, at0_ _ _, _, _, rfl, rfl, cmL (nb_up six.n3 (by decide)), _, rfl, _, _, _, _, rfl, rfl, SqT.of hb, at1_ _ _, _, rfl, _, _, _, _, rfl, rfl, SqT.of hb, at1_ _ _, _, _, rfl, rfl, cmL (nb_up six.n4 (by decide)), _, _, rfl, rfl, _, rfl, _, _, _, _, rfl, rfl, SqT.of ha, at0_ _ _, _, rfl, _, _, _, _, rfl, rfl, SqT.of ha, at0_ _ _, _, _, rfl, rfl, cmL (nb_up six.n1 (by decide)), _, _, rfl, rfl, _, rfl, _, _, _, _, rfl, rfl, SqT.of ha, at1_ _ _, _, rfl, _, _, _, _, rfl, rfl, SqT.of ha, at1_ _ _, _, _, rfl, rfl, cmL (nb_up six.n2 (by decide)), _, _, rfl, rfl, ?_⟩
    refine ⟨_, rfl, _, _, _, _, rfl, rfl, SqT.of hc, at0_ _ _, _, rfl, _, _, _, _, rfl, rfl, SqT.of hc, at0_ _ _, _, _, rfl, rfl, cmL (nb_up six.n5 (by decide)), _, rfl, _, _, _, _, rfl, rfl, SqT.of hc, at1_ _ _, _, rfl, _, _, _, _, rfl, rfl, SqT.of hc, at1_ _ _, _, _, rfl, rfl, cmL (nb_up six.n6 (by decide)), _, _, rfl, rfl, _, rfl, _, _, _, _, rfl, rfl, SqT.of ha, at0_ _ _, _, rfl, _, _, _, _, rfl, rfl, SqT.of ha, at0_ _ _, _, _, rfl, rfl, cmL (nb_up six.n1 (by decide)), _, _, rfl, rfl, _, rfl, _, _, _, _, rfl, rfl, SqT.of ha, at1_ _ _, _, rfl, _, _, _, _, rfl, rfl, SqT.of ha, at1_ _ _, _, _, rfl, rfl, cmL (nb_up six.n2 (by decide)), _, _, rfl, rfl, ?_⟩
    have dn : lD ax ay bx by' cx cy ≠ 0 := by
      rw [lD_is]
      have := cD_ne t
      omega
    have db : (lD ax ay bx by' cx cy).natAbs < 2 ^ 8000 := by
      rw [lD_is]
      have z : (2 * cDn ax ay bx by' cx cy).natAbs < 2 ^ 46 := by
        have := six.t2
        unfold cDn
        omega
      exact nb_up z (by decide)
    refine ⟨_, rfl, _, rfl, _, _, rfl, rfl, cmR (nb_up (a := 23) (by omega) (by decide)), _, rfl, _, rfl, _, _, rfl, rfl, cmR (nb_up (a := 23) (by omega) (by decide)), _, _, rfl, rfl, _, rfl, _, rfl, _, _, rfl, rfl, cmL (nb_up (a := 23) (by omega) (by decide)), _, rfl, _, rfl, _, _, rfl, rfl, cmL (nb_up (a := 23) (by omega) (by decide)), _, _, rfl, rfl, _, rfl, _, rfl, _, _, rfl, rfl, cmL (nb_up (a := 23) (by omega) (by decide)), _, rfl, _, rfl, _, _, rfl, rfl, cmL (nb_up (a := 23) (by omega) (by decide)), _, _, rfl, rfl, lX ax ay bx by' cx cy, lY ax ay bx by' cx cy, lD ax ay bx by' cx cy, rfl, dn, db, fun p H' sm np ep => q p H' sm np ?_⟩
    rw [lctx, lcty, lctd] at ep
    exact ep
end
open LamX
abbrev sRight : Stmt := topS 32
theorem scRight : FnScope ["_law_aa", "_law_bb", "_law_cc", "_law_others", "_law_place_here", "_law_square_here", "_law_reach", "_law_great", "_law_dd", "_law_far", "_law_due", "_law_site"] ["_law_aa", "_law_bb", "_law_cc", "_law_others"] (defScope sRight) := ⟨rfl, rfl, rfl, by decide +kernel, rfl, by decide +kernel, by decide +kernel⟩
theorem _root_.LamX.ExtN.sit {H H' : Hp} {t : Addr} {x y : Int} (h : Sit H t x y) (e : ExtN H H') : Sit H' t x y := e _ _ h fun ps z => by cases z
theorem _root_.LamX.ExtN.sits {H H' : Hp} {n : Int} {ts : List Addr} (h : Sits n H ts) (e : ExtN H H') : Sits n H' ts := fun p m => by
  obtain ⟨x, y, z, d⟩ := h p m
  exact ⟨x, y, LamX.ExtN.sit z e, d⟩
theorem _root_.LamX.ExtN.lst {H H' : Hp} {t : Addr} {xs : List V} (h : H t = some (.lst xs)) (e : ExtN H H') : H' t = some (.lst xs) := e _ _ h fun ps z => by cases z
theorem _root_.LamX.ExtN.same {H H' : Hp} (h : Same H H') : ExtN H H' := ExtN.of h
/-- the table of the lambdas' code objects -/
abbrev rTab (c P : Addr) : List (Addr × Str) := [(P, (envOfC "_law_right" (defScope sRight) 0 0 (.ref c)).qual ++ "<lambda>")]
section
variable {P : Program} {w : World} {K : PySem.W.Frag} {mg : Str → Option Value} {base : Heap}
def spRight (T : List (Addr × Str)) : Sp := fun vs H Q _ => ∃ (a b c l : Addr) (ax ay bx by' cx cy : Int) (ts : List Addr), vs = [.ref a, .ref b, .ref c, .ref l] ∧ Sit H a ax ay ∧ Sit H b bx by' ∧ Sit H c cx cy ∧ Six ax ay bx by' cx cy ∧ H l = some (.lst (ts.map V.ref)) ∧ 0 < ts.length ∧ ts.length ≤ 1000 ∧ Sits 1000000 H ts ∧ Tabs T H ∧
  ∀ H', ExtN H H' → Tabs T H' → Q (.bl true) H'
theorem dpTup {H : Hp} {t : Addr} {x y : Int} (h : Tup2 H t x y) : Dp K H (.ref t) (.tuple [.int x, .int y]) := .tup (SqT.of h) (.cons (.int x) (.cons (.int y) .nil))
theorem mulSq {x y d : Int} (po : PlOk x y d) : CMulW d d := wide_mul po.bits.2.2 po.bits.2.2 (by decide) (by decide) (by decide)
theorem at_head (x : V) (xs : List V) : atI (x :: xs) 0 = some x := by
  unfold atI ixN
  rw [if_pos (Int.le_refl 0), if_pos (by rw [List.length_cons]; omega)]
  rfl
theorem due_val (far R : Int) : (if far = R then (0 : Int) else if far < R then 1 else -1) = -sg (far - R) := by
  rcases Int.lt_trichotomy far R with h | h | h
  · rw [if_neg (by omega), if_pos h, sg_neg1 (by omega)]
    rfl
  · rw [if_pos h, h, Int.sub_self]
    rfl
  · rw [if_neg (by omega), if_neg (by omega), sg_pos (by omega)]
theorem Dp.pla {H : Hp} {t : Addr} {x y d : Int} (h : Pla H t x y d) : Dp K H (.ref t) (.tuple [.int x, .int y, .int d]) := .tup (SqT.of h) (.cons (.int x) (.cons (.int y) (.cons (.int d) .nil)))
theorem eqv_pla (x y d x' y' d' : Int) : PyData.eqv (.tuple [.int x, .int y, .int d]) (.tuple [.int x', .int y', .int d']) = decide (x = x' ∧ y = y' ∧ d = d') := by
  simp [PyData.eqv, PyData.eqvAll, Bool.decide_and, Bool.beq_eq_decide_eq]
theorem dpCir {H : Hp} {p : Addr} {x y d n m : Int} (h : Cir H p x y d n m) : Dp K H (.ref p) (.tuple [.tuple [.int x, .int y, .int d], .tuple [.int n, .int m]]) := by
  obtain ⟨pc, pf, e1, e2, e3⟩ := h.ex
  exact .tup (SqT.of e1) (.cons (Dp.pla e2) (.cons (.tup (SqT.of e3) (.cons (.int n) (.cons (.int m) .nil))) .nil))
theorem eqv_self5 (x y d n m : Int) : PyData.eqv (.tuple [.tuple [.int x, .int y, .int d], .tuple [.int n, .int m]]) (.tuple [.tuple [.int x, .int y, .int d], .tuple [.int n, .int m]]) = true := by
  simp [PyData.eqv, PyData.eqvAll]
theorem eqv_self2 (x y : Int) : PyData.eqv (.list [.int x, .int y]) (.list [.int x, .int y]) = true := by
  simp [PyData.eqv, PyData.eqvAll]
theorem Cir.same {H H' : Hp} {p : Addr} {x y d n m : Int} (h : Cir H p x y d n m) (s : Same H H') : Cir H' p x y d n m := by
  obtain ⟨pc, pf, e1, e2, e3⟩ := h.ex
  exact ⟨pc, pf, s _ _ e1, s _ _ e2, s _ _ e3⟩
end
open LamX
section
variable {P : Program} {w : World} {K : PySem.W.Frag} {mg : Str → Option Value} {base : Heap}
set_option maxHeartbeats 1000000
theorem ok_right {f fNo fT fCi fIc fSp fCe fCo C CE cR PR : Addr} {fdT fdCi fdIc fdSp fdCe fdCo : FuncData} {kV doc pm ct oc kVo dco pmo cdo cto oco : Value} {an od ano odo : Option Addr} {osl oslo : Array (Option Value)}
    (lk : K.lookup f = some ⟨oc, od, .func (PySem.W.fnOf "_law_right" "_law_right" (defArgs sRight) (defBody sRight) (defScope sRight) .none kV doc pm an (.ref cR) ct), osl⟩) (hcd : PySem.W.codeIn K (.ref cR) "_law_right" = true) (TB : TabB base mg cR PR)
    (lNo : K.lookup fNo = some ⟨oco, odo, .func (PySem.W.fnOf "_law_no_circle" "_law_no_circle" (defArgs sNoC) (defBody sNoC) (defScope sNoC) .none kVo dco pmo ano cdo cto), oslo⟩) (cNo : PySem.W.codeIn K cdo "_law_no_circle" = true) (gNo : mg "_law_no_circle" = some (.ref fNo)) (kNo : PySem.W.keepIn K (.ref fNo) = true) (bNo : Binds K (PySem.W.fnOf "_law_no_circle" "_law_no_circle" (defArgs sNoC) (defBody sNoC) (defScope sNoC) .none kVo dco pmo ano cdo cto) ["_law_call"] [])
    (mC : mg "NoCircle" = some (.ref C)) (mE : mg "CellError" = some (.ref CE)) (mi : mg "isinstance" = none) (cC : ExcC K C) (eC : PySem.W.exmOne K (.ref C) (.ref C) = some true) (kE : PySem.W.kitOne K (.ref C) (.ref CE) = some true)
    (GCx : FnOk P w K mg base (L2.CX P w) 8 fCi fdCi ["a", "b", "c"] (spRow3 C)) (GIx : FnOk P w K mg base (L2.CX P w) 8 fIc fdIc ["a", "b", "c", "d"] (spRow4 C))
    (GT : FnOk P w K mg base CX0 (1) fT fdT ["_law_aa", "_law_bb", "_law_cc"] (sp3 K fun ax ay bx by' cx cy => .int (tri ax ay bx by' cx cy))) (gT : mg "_law_turn" = some (.ref fT)) (kT : PySem.W.keepIn K (.ref fT) = true) (bT : Binds K fdT ["_law_aa", "_law_bb", "_law_cc"] []) (GCi : FnOk P w K mg base CX0 (7) fCi fdCi ["a", "b", "c"] (spCirT K)) (gCi : mg "circle" = some (.ref fCi)) (kCi : PySem.W.keepIn K (.ref fCi) = true) (bCi : Binds K fdCi ["a", "b", "c"] []) (kbCi : KBinds K fdCi ["a", "b", "c"] ["c", "b", "a"] gRev gRev) (GIc : FnOk P w K mg base CX0 (7) fIc fdIc ["a", "b", "c", "d"] (sp4 K (fun ax ay bx by' cx cy _ _ => tri ax ay bx by' cx cy ≠ 0) fun ax ay bx by' cx cy dx dy => .int (-lsd ax ay bx by' cx cy dx dy))) (gIc : mg "in_circle" = some (.ref fIc)) (kIc : PySem.W.keepIn K (.ref fIc) = true) (bIc : Binds K fdIc ["a", "b", "c", "d"] []) (kbIc : KBinds K fdIc ["a", "b", "c", "d"] ["d", "c", "b", "a"] gRev gRev)
    (GSp : FnOk P w K mg base CX0 (1) fSp fdSp ["_law_place_here", "_law_site"] spSpread) (gSp : mg "_law_square" = some (.ref fSp)) (kSp : PySem.W.keepIn K (.ref fSp) = true) (bSp : Binds K fdSp ["_law_place_here", "_law_site"] []) (GCe : FnOk P w K mg base CX0 (3) fCe fdCe ["_law_aa", "_law_bb", "_law_cc"] spLCen) (gCe : mg "_law_centre" = some (.ref fCe)) (kCe : PySem.W.keepIn K (.ref fCe) = true) (bCe : Binds K fdCe ["_law_aa", "_law_bb", "_law_cc"] []) (GCo : FnOk P w K mg base CX0 (1) fCo fdCo ["_law_aa", "_law_bb"] spCom) (gCo : mg "_law_common" = some (.ref fCo)) (kCo : PySem.W.keepIn K (.ref fCo) = true) (bCo : Binds K fdCo ["_law_aa", "_law_bb"] []) :
    FnOk P w K mg base CX0 11 f (PySem.W.fnOf "_law_right" "_law_right" (defArgs sRight) (defBody sRight) (defScope sRight) .none kV doc pm an (.ref cR) ct) ["_law_aa", "_law_bb", "_law_cc", "_law_others"] (spRight (rTab cR PR)) := by
  refine fn_of lk hcd scRight (fun vs H Q E h => ?_) (fun A outer s0 H vs Q E hr h => ?_)
  · obtain ⟨a, b, c, l, ax, ay, bx, by', cx, cy, ts, rfl, _⟩ := h
    rfl
  · obtain ⟨a, b, c, l, ax, ay, bx, by', cx, cy, ts, rfl, ha, hb, hc, six, hl, l0, l1, tt, tb, q⟩ := h
    have nd := scRight.nd
    obtain ⟨o0, ts', rfl⟩ : ∃ o0 ts', ts = o0 :: ts' := by
      cases ts with
      | nil => cases l0
      | cons x r => exact ⟨x, r, rfl⟩
    let XY := cxOf CX0 P w K mg base ["_law_aa", "_law_bb", "_law_cc", "_law_others", "_law_place_here", "_law_square_here", "_law_reach", "_law_great", "_law_dd", "_law_far", "_law_due", "_law_site"] "_law_right" (defScope sRight) f (.ref cR) A outer s0 H E
    let XX := XY.nox
    have hqq : XX.env.qual = (envOfC "_law_right" (defScope sRight) 0 0 (.ref cR)).qual := rfl
    have hmT : (PR, XX.env.qual ++ "<lambda>") ∈ rTab cR PR := by
      rw [hqq]
      exact List.mem_singleton_self _
    have huT : ∀ p ∈ rTab cR PR, p.1 = PR → p.2 = XX.env.qual ++ "<lambda>" := fun p hp _ => by
      rw [hqq, List.mem_singleton.mp hp]
    refine ⟨_, PSs.nox (X := XY) (pss_cons (ps_if (pt_cmpR op_eq (pe_call GT (hr.mono (by omega)) (by rfl) gT kT bT .nil pass0 (pa_cons (pv 0) (pa_cons (pv 1) (pa_cons (pv 2) pa_nil)))) pe_int (nomark _)) (pss_cons (ps_if (pt_not (pt_val (pe_lamcall (X := XX) (T := rTab cR PR) (k := 8) (t := fun E => tCall (spRow3 C) [] E (tCons (tVar 0) (tCons (tVar 1) (tCons (tVar 2) tNil)))) (by rfl) gNo kNo lNo cNo bNo scNoC rfl (.inl rfl) (noc_gives mC mE mi cC eC kE) TB rfl hmT huT hr (lamS_by (by show lamSB (defScope sRight) _ = true; decide +kernel)) rfl (fun _ _ _ _ _ => rfl) (fun A outer s H E f c' hr' => by exact pe_call GCx hr' (by rfl) gCi kCi bCi .nil (passes_call (takes_of (E := E) rfl rfl rfl rfl) fun _ _ _ _ h => h) (pa_cons (pv 0) (pa_cons (pv 1) (pa_cons (pv 2) pa_nil))))))) (pss_one (ps_ret pe_bl)) pss_nil) (pss_one (ps_ret (pe_lamcall (X := XX) (T := rTab cR PR) (k := 8) (t := fun E => tCall (spRow4 C) [] E (tCons (tVar 0) (tCons (tVar 1) (tCons (tVar 2) (tCons (tOp (rIxL K) (tVar 3) (tC (.int 0))) tNil))))) (by rfl) gNo kNo lNo cNo bNo scNoC rfl (.inl rfl) (noc_gives mC mE mi cC eC kE) TB rfl hmT huT hr (lamS_by (by show lamSB (defScope sRight) _ = true; decide +kernel)) rfl (fun _ _ _ _ _ => rfl) (fun A outer s H E f c' hr' => by exact pe_call GIx hr' (by rfl) gIc kIc bIc .nil (passes_call (takes_of (E := E) rfl rfl rfl rfl) fun _ _ _ _ h => h) (pa_cons (pv 0) (pa_cons (pv 1) (pa_cons (pv 2) (pa_cons (pe_ix ix_list (pv 3) pe_int (fun _ _ => rfl)) pa_nil))))))))) pss_nil)
      (pss_cons (ps_asg (pe_call GCi (hr.mono (by omega)) (by rfl) gCi kCi bCi .nil pass0 (pa_cons (pv 0) (pa_cons (pv 1) (pa_cons (pv 2) pa_nil)))) (pg_tup (by rfl) (pgs_cons (pg_name (i := 4) nd rfl (.inr rfl)) (pgs_cons (pg_name (i := 5) nd rfl (.inl rfl)) pgs_nil))))
      (pss_cons (ps_set (i := 6) scRight.nd rfl (.inl rfl) (pe_call GSp (hr.mono (by omega)) (by rfl) gSp kSp bSp .nil pass0 (pa_cons (pv 4) (pa_cons (pv 0) pa_nil))))
      (pss_cons (ps_if (pt_cmpR (op_neD hr.units) (pv 4) (pe_call GCe (hr.mono (by omega)) (by rfl) gCe kCe bCe .nil pass0 (pa_cons (pv 0) (pa_cons (pv 1) (pa_cons (pv 2) pa_nil)))) (nomark _)) (pss_one (ps_ret pe_bl)) pss_nil)
      (pss_cons (ps_if (pt_cmpR op_lt (pe_ix ix_tup (pv 4) pe_int (fun _ _ => rfl)) pe_int (nomark _)) (pss_one (ps_ret pe_bl)) pss_nil)
      (pss_cons (ps_if (pt_cmpR (op_neD hr.units) (pe_lc (own := [("_law_site", 11)]) (g := gName 11) (tt := tYes) (te := tCall spSpread [] E0 (tCons (tVar 4) (tCons (tVar 11) tNil))) rfl nd (pi_tup (pe_tup (pa_cons (pv 1) (pa_cons (pv 2) pa_nil)))) (blkOk_by (own := [("_law_site", 11)]) (N := ["_law_aa", "_law_bb", "_law_cc", "_law_others", "_law_place_here", "_law_square_here", "_law_reach", "_law_great", "_law_dd", "_law_far", "_law_due", "_law_site"]) (sc := defScope sRight) (by decide +kernel))
          (fun _ _ _ _ _ => by exact pg_name (i := 11) nd rfl (.inl rfl)) (fun _ _ _ _ _ => pts_nil) (fun _ _ _ _ _ => by exact (pe_call GSp (hr.mono (by omega)) (by rfl) gSp kSp bSp .nil pass0 (pa_cons (pv 4) (pa_cons (pv 11) pa_nil))))) (pe_op op_rep (pe_lst (pa_cons (pv 6) pa_nil)) pe_int) (nomark _)) (pss_one (ps_ret pe_bl)) pss_nil)
      (pss_cons (ps_set (i := 7) scRight.nd rfl (.inl rfl) (pe_call GCo (hr.mono (by omega)) (by rfl) gCo kCo bCo .nil pass0 (pa_cons (pv 6) (pa_cons (pe_op op_mulW (pe_ix ix_tup (pv 4) pe_int (fun _ _ => rfl)) (pe_ix ix_tup (pv 4) pe_int (fun _ _ => rfl))) pa_nil))))
      (pss_cons (ps_if (pt_cmpR (op_neD hr.units) (pv 5) (pe_tup (pa_cons (pe_op op_fdivE (pv 6) (pv 7)) (pa_cons (pe_op op_fdivE (pe_op op_mulW (pe_ix ix_tup (pv 4) pe_int (fun _ _ => rfl)) (pe_ix ix_tup (pv 4) pe_int (fun _ _ => rfl))) (pv 7)) pa_nil))) (nomark _)) (pss_one (ps_ret pe_bl)) pss_nil)
      (pss_cons (ps_if (pt_cmpR (op_neD hr.units) (pe_callKw GCi (hr.mono (by omega)) (by rfl) gCi kCi kbCi pass0 (pk_cons (pv 2) (pk_cons (pv 1) (pk_cons (pv 0) pk_nil)))) (pe_tup (pa_cons (pv 4) (pa_cons (pv 5) pa_nil))) (nomark _)) (pss_one (ps_ret pe_bl)) pss_nil)
      (pss_cons (ps_for PassesOwn.never rfl (pi_list (pv 3)) (pg_name (i := 8) nd rfl (.inl rfl))
        (pss_cons (ps_set (i := 9) scRight.nd rfl (.inl rfl) (pe_call GSp (hr.mono (by omega)) (by rfl) gSp kSp bSp .nil pass0 (pa_cons (pv 4) (pa_cons (pv 8) pa_nil))))
        (C8.pss_cut (ps_set (i := 10) scRight.nd rfl (.inl rfl) (pe_ifExp (pt_cmpR op_eq (pv 9) (pv 6) (nomark _)) pe_int (pe_ifExp (pt_cmpR op_lt (pv 9) (pv 6) (nomark _)) pe_int pe_neg)))
        (pss_cons (ps_if (pt_cmpR op_ne (pe_call GIc (hr.mono (by omega)) (by rfl) gIc kIc bIc .nil pass0 (pa_cons (pv 0) (pa_cons (pv 1) (pa_cons (pv 2) (pa_cons (pv 8) pa_nil))))) (pv 10) (nomark _)) (pss_one (ps_ret pe_bl)) pss_nil)
        (pss_cons (ps_if (pt_cmpR op_ne (pe_call GIc (hr.mono (by omega)) (by rfl) gIc kIc bIc .nil pass0 (pa_cons (pv 2) (pa_cons (pv 1) (pa_cons (pv 0) (pa_cons (pv 8) pa_nil))))) (pv 10) (nomark _)) (pss_one (ps_ret pe_bl)) pss_nil)
        (pss_one (ps_if (pt_cmpR op_ne (pe_callKw GIc (hr.mono (by omega)) (by rfl) gIc kIc kbIc pass0 (pk_cons (pv 8) (pk_cons (pv 0) (pk_cons (pv 2) (pk_cons (pv 1) pk_nil))))) (pv 10) (nomark _)) (pss_one (ps_ret pe_bl)) pss_nil)))))))
      (pss_one (ps_ret (pe_cmpR (op_eqD hr.units) (pe_call GCi (hr.mono (by omega)) (by rfl) gCi kCi bCi .nil pass0 (pa_cons (pv 1) (pa_cons (pv 0) (pa_cons (pv 2) pa_nil)))) (pe_tup (pa_cons (pv 4) (pa_cons (pv 5) pa_nil))) (nomark _)))))))))))))), ?_⟩
    refine ⟨_, rfl, _, rfl, _, rfl, a, b, c, ax, ay, bx, by', cx, cy, rfl, ha, hb, hc, six.a, six.b, six.c, rfl, _, rfl, ?_⟩
    show if decide (V.int (tri ax ay bx by' cx cy) = V.int 0) = true then _ else _
    by_cases t : tri ax ay bx by' cx cy = 0
    · rw [t, decide_eq_true rfl]
      refine ⟨tb, fun H1 e1 tb1 Q1 => ⟨_, rfl, _, rfl, _, rfl, a, b, c, ax, ay, bx, by', cx, cy, rfl, e1.sit ha, e1.sit hb, e1.sit hc, six, t, rfl, rfl, _, rfl, ?_⟩⟩
      refine ⟨tb1, fun H2 e2 tb2 Q2 => ?_⟩
      have e12 := e1.trans e2
      obtain ⟨dx, dy, hd, dd⟩ := tt o0 List.mem_cons_self
      refine ⟨_, rfl, _, rfl, _, rfl, _, rfl, _, _, _, _, rfl, rfl, SqL.of (e12.lst hl), at_head _ _, a, b, c, o0, ax, ay, bx, by', cx, cy, dx, dy, rfl, e12.sit ha, e12.sit hb, e12.sit hc, e12.sit hd, six, dd, t, rfl, rfl, ?_⟩
      exact q _ e12 tb2
    rw [decide_eq_false fun z => t (V.int.inj z)]
    -- the circle
    refine ⟨_, rfl, _, rfl, _, rfl, a, b, c, ax, ay, bx, by', cx, cy, rfl, ha, hb, hc, six, t, fun pc H1 s1 n1 cir => ?_⟩
    obtain ⟨p4, p5, e1, e2, e3⟩ := cir.ex
    have cok := six.place t
    refine ⟨_, _, rfl, SqT.of e1, rfl, _, _, rfl, _, _, rfl, rfl, ?_⟩
    refine ⟨_, rfl, _, rfl, p4, a, _, _, _, ax, ay, rfl, e2, cok, ha.same s1, six.a, ?_⟩
    have fR : spread (ctx ax ay bx by' cx cy) (cty ax ay bx by' cx cy) (ctd ax ay bx by' cx cy) ax ay = reach ax ay bx by' cx cy := rfl
    rw [fR]
    -- the law's own centre
    refine ⟨_, rfl, _, rfl, _, rfl, _, rfl, a, b, c, ax, ay, bx, by', cx, cy, rfl, ha.same s1, hb.same s1, hc.same s1, six, t, fun pq H2 s2 n2 eq2 => ?_⟩
    have S2 := s1.trans s2
    refine ⟨_, _, Dp.pla (s2 _ _ e2), Dp.pla eq2, rfl, rfl, _, rfl, ?_⟩
    rw [eqv_pla, decide_eq_true ⟨rfl, rfl, rfl⟩]
    have c2 : Pla H2 p4 _ _ _ := s2 _ _ e2
    refine ⟨_, rfl, _, _, _, _, rfl, rfl, SqT.of c2, a32_ _ _ _, _, _, rfl, rfl, _, rfl, ite2 (fun z => absurd (of_decide_eq_true z) (by have := cok.d1; omega)) fun _ => ?_⟩
    -- as far from b and c
    refine ⟨_, rfl, _, rfl, two_line, fun tp ntp => ⟨tp, rfl, ⟨_, SqT.of upd_same⟩, fun D nD => ?_⟩⟩
    have S3 : Same H (upd H2 tp (.tup [.ref b, .ref c])) := S2.trans (Same.upd ntp)
    have c3 : Pla (upd H2 tp (.tup [.ref b, .ref c])) p4 _ _ _ := (Same.upd ntp) _ _ c2
    have f3 : (upd H2 tp (.tup [.ref b, .ref c])) p5 = _ := (Same.upd ntp) _ _ (s2 _ _ e3)
    have e3t : (upd H2 tp (.tup [V.ref b, V.ref c])) tp = some (.tup [.ref b, .ref c]) := upd_same
    generalize upd H2 tp (.tup [V.ref b, V.ref c]) = G3 at nD S3 c3 f3 e3t
    refine lc_tup (K := K) (a := tp) (xs := [V.ref b, V.ref c]) (fun i Hc => Same G3 Hc ∧ Hc D = some (.lst (List.replicate i (V.int (reach ax ay bx by' cx cy))))) ⟨Same.upd nD, upd_same⟩ (fun i Hc _ z => SqT.of (z.1 _ _ e3t)) ?_ ?_
    · rintro i x Hc hx ⟨sm, eD⟩
      obtain ⟨d0, u, v, rfl, hd0, bd0, ed0⟩ : ∃ d0 u v, x = V.ref d0 ∧ Sit Hc d0 u v ∧ Bd 1000000 u v ∧ spread (ctx ax ay bx by' cx cy) (cty ax ay bx by' cx cy) (ctd ax ay bx by' cx cy) u v = reach ax ay bx by' cx cy := by
        rcases List.mem_cons.mp (List.mem_of_getElem? hx) with e | m
        · exact ⟨b, bx, by', e, (hb.same S3).same sm, six.b, (centre_ab t).symm⟩
        · exact ⟨c, cx, cy, List.mem_singleton.mp m, (hc.same S3).same sm, six.c, (centre_ac t).symm⟩
      have li : i < 2 := (List.getElem?_eq_some_iff.mp hx).1
      refine ⟨rfl, ?_⟩
      refine ⟨_, rfl, _, rfl, p4, d0, _, _, _, u, v, rfl, sm _ _ c3, cok, hd0, bd0, _, eD, ?_, fun b' o e => ?_, ?_⟩
      · rw [List.length_replicate]
        exact Nat.lt_of_lt_of_le li (by decide)
      · rw [upd_ne (ne_of_none e nD)]
        exact sm _ _ e
      · rw [upd_same, ed0, List.replicate_succ']
    rintro Hc ⟨sm, eD⟩
    refine ⟨_, rfl, by show 1 ≤ sizeLine; decide, fun L1 nL1 => ⟨L1, 2, _, rfl, rfl, upd_same, by decide, by decide, by show 1 * 2 ≤ sizeLine; decide, fun L2 nL2 => ?_⟩⟩
    have S4 : Same Hc (upd (upd Hc L1 (.lst [V.int (reach ax ay bx by' cx cy)])) L2 (.lst (List.replicate (2 : Int).toNat [V.int (reach ax ay bx by' cx cy)]).flatten)) := (Same.upd nL1).trans (Same.upd nL2)
    refine ⟨_, _, .lst (SqL.of (S4 _ _ eD)) (.cons (.int _) (.cons (.int _) .nil)), .lst (SqL.of upd_same) (.cons (.int _) (.cons (.int _) .nil)), rfl, rfl, _, rfl, ?_⟩
    rw [eqv_self2]
    have S5 := (S3.trans sm).trans S4
    have c5 : Pla _ p4 _ _ _ := S4 _ _ (sm _ _ c3)
    have f5 := S4 _ _ (sm _ _ f3)
    generalize upd (upd Hc L1 (.lst [V.int (reach ax ay bx by' cx cy)])) L2 (.lst (List.replicate (2 : Int).toNat [V.int (reach ax ay bx by' cx cy)]).flatten) = G5 at S5 c5 f5
    -- the square
    have dd0 : 0 < ctd ax ay bx by' cx cy * ctd ax ay bx by' cx cy := sq_pos (by have := cok.d1; omega)
    have db : (ctd ax ay bx by' cx cy * ctd ax ay bx by' cx cy).natAbs < 2 ^ 8000 := nb_up (wide_lt cok.bits.2.2 cok.bits.2.2) (by decide)
    have c1 : ∀ z, CDivE z (gcf (reach ax ay bx by' cx cy) (ctd ax ay bx by' cx cy * ctd ax ay bx by' cx cy)) := fun z => ⟨Int.ne_of_gt (gcf_pos dd0), Nat.lt_of_le_of_lt (gcf_le dd0) db⟩
    refine ⟨_, rfl, _, rfl, _, _, _, _, rfl, rfl, SqT.of c5, a32_ _ _ _, _, rfl, _, _, _, _, rfl, rfl, SqT.of c5, a32_ _ _ _, _, _, rfl, rfl, mulSq cok, _, _, rfl, ?_⟩
    refine ⟨_, rfl, _, rfl, _, rfl, _, _, rfl, rfl, c1 _, _, rfl, _, _, _, _, rfl, rfl, SqT.of c5, a32_ _ _ _, _, rfl, _, _, _, _, rfl, rfl, SqT.of c5, a32_ _ _ _, _, _, rfl, rfl, mulSq cok, _, rfl, _, _, rfl, rfl, c1 _, two_line, fun p6 n6 => ?_⟩
    have g1 : (reach ax ay bx by' cx cy).fdiv (gcf (reach ax ay bx by' cx cy) (ctd ax ay bx by' cx cy * ctd ax ay bx by' cx cy)) = reach ax ay bx by' cx cy / gcf (reach ax ay bx by' cx cy) (ctd ax ay bx by' cx cy * ctd ax ay bx by' cx cy) := Int.fdiv_eq_ediv_of_nonneg _ (Int.le_of_lt (gcf_pos dd0))
    have g2 : (ctd ax ay bx by' cx cy * ctd ax ay bx by' cx cy).fdiv (gcf (reach ax ay bx by' cx cy) (ctd ax ay bx by' cx cy * ctd ax ay bx by' cx cy)) = ctd ax ay bx by' cx cy * ctd ax ay bx by' cx cy / gcf (reach ax ay bx by' cx cy) (ctd ax ay bx by' cx cy * ctd ax ay bx by' cx cy) := Int.fdiv_eq_ediv_of_nonneg _ (Int.le_of_lt (gcf_pos dd0))
    refine ⟨_, _, dpTup ((Same.upd n6) _ _ f5), dpTup upd_same, rfl, rfl, _, rfl, ?_⟩
    rw [eqv_sit, decide_eq_true ⟨(frac_same t).1.trans g1.symm, (frac_same t).2.trans g2.symm⟩]
    have S6 := S5.trans (Same.upd (o := .tup [.int ((reach ax ay bx by' cx cy).fdiv (gcf (reach ax ay bx by' cx cy) (ctd ax ay bx by' cx cy * ctd ax ay bx by' cx cy))), .int ((ctd ax ay bx by' cx cy * ctd ax ay bx by' cx cy).fdiv (gcf (reach ax ay bx by' cx cy) (ctd ax ay bx by' cx cy * ctd ax ay bx by' cx cy)))]) n6)
    have c6 : Pla _ p4 _ _ _ := (Same.upd (o := .tup [.int ((reach ax ay bx by' cx cy).fdiv (gcf (reach ax ay bx by' cx cy) (ctd ax ay bx by' cx cy * ctd ax ay bx by' cx cy))), .int ((ctd ax ay bx by' cx cy * ctd ax ay bx by' cx cy).fdiv (gcf (reach ax ay bx by' cx cy) (ctd ax ay bx by' cx cy * ctd ax ay bx by' cx cy)))]) n6) _ _ c5
    have f6 := (Same.upd (o := .tup [.int ((reach ax ay bx by' cx cy).fdiv (gcf (reach ax ay bx by' cx cy) (ctd ax ay bx by' cx cy * ctd ax ay bx by' cx cy))), .int ((ctd ax ay bx by' cx cy * ctd ax ay bx by' cx cy).fdiv (gcf (reach ax ay bx by' cx cy) (ctd ax ay bx by' cx cy * ctd ax ay bx by' cx cy)))]) n6) _ _ f5
    -- by names
    refine ⟨_, rfl, _, rfl, _, rfl, a, b, c, ax, ay, bx, by', cx, cy, rfl, ha.same S6, hb.same S6, hc.same S6, six, t, fun pk H7 s7 n7 cir7 => ⟨_, rfl, _, rfl, two_line, fun pt npt => ?_⟩⟩
    refine ⟨_, _, dpCir (cir7.same (Same.upd npt)), dpCir ⟨p4, p5, upd_same, (Same.upd npt) _ _ (s7 _ _ c6), (Same.upd npt) _ _ (s7 _ _ f6)⟩, rfl, rfl, _, rfl, ?_⟩
    rw [eqv_self5]
    have S8 := (S6.trans s7).trans (Same.upd (o := .tup [.ref p4, .ref p5]) npt)
    have c8 : Pla _ p4 _ _ _ := (Same.upd (o := .tup [.ref p4, .ref p5]) npt) _ _ (s7 _ _ c6)
    have f8 : Tup2 _ p5 _ _ := (Same.upd (o := .tup [.ref p4, .ref p5]) npt) _ _ (s7 _ _ f6)
    generalize upd H7 pt (.tup [V.ref p4, V.ref p5]) = G8 at S8 c8 f8
    -- the others
    refine ⟨_, rfl, l, rfl, ⟨_, SqL.of (S8 _ _ hl)⟩, for_list (K := K) (a := l) (xs := (o0 :: ts').map V.ref) (fun i σ' H' => (∃ y8 y9 y10, σ' = [some (.ref a), some (.ref b), some (.ref c), some (.ref l), some (.ref p4), some (.ref p5), some (.int (reach ax ay bx by' cx cy)), some (.int (gcf (reach ax ay bx by' cx cy) (ctd ax ay bx by' cx cy * ctd ax ay bx by' cx cy))), y8, y9, y10, none]) ∧ Same G8 H')
      ⟨⟨_, _, _, rfl⟩, Same.refl _⟩ (fun i σ' H' _ z => SqL.of (z.2 _ _ (S8 _ _ hl))) ?_ ?_⟩
    · rintro i x σ' H' ex ⟨⟨y8, y9, y10, rfl⟩, sm9⟩
      obtain ⟨d1, m1, rfl⟩ := List.mem_map.mp (List.mem_of_getElem? ex)
      obtain ⟨dx, dy, hd, dd⟩ := tt d1 m1
      have S9 := S8.trans sm9
      refine ⟨_, rfl, _, rfl, p4, d1, _, _, _, dx, dy, rfl, sm9 _ _ c8, cok, hd.same S9, dd, ?_⟩
      refine ⟨fun σ'' H'' => (∃ y9, σ'' = [some (.ref a), some (.ref b), some (.ref c), some (.ref l), some (.ref p4), some (.ref p5), some (.int (reach ax ay bx by' cx cy)), some (.int (gcf (reach ax ay bx by' cx cy) (ctd ax ay bx by' cx cy * ctd ax ay bx by' cx cy))), some (.ref d1), y9, some (.int (-lsd ax ay bx by' cx cy dx dy)), none]) ∧ H' = H'', ?_, ?_⟩
      · have du := due_is t dx dy
        generalize spread (ctx ax ay bx by' cx cy) (cty ax ay bx by' cx cy) (ctd ax ay bx by' cx cy) dx dy = far at du
        rw [← du]
        generalize reach ax ay bx by' cx cy = R
        refine ⟨_, rfl, _, rfl, rfl, _, rfl, ite2 (fun c => ?_) fun c => ⟨_, rfl, _, rfl, _, _, rfl, rfl, _, rfl, ite2 (fun c2 => ?_) fun c2 => ?_⟩⟩
        · have c := V.int.inj (of_decide_eq_true c)
          refine ⟨?_, rfl⟩
          rw [← due_val, if_pos c]
          exact ⟨_, rfl⟩
        · have c : ¬ far = R := fun z => c (decide_eq_true (by rw [z]))
          have c2 : far < R := of_decide_eq_true c2
          refine ⟨?_, rfl⟩
          rw [← due_val, if_neg c, if_pos c2]
          exact ⟨_, rfl⟩
        · have c : ¬ far = R := fun z => c (decide_eq_true (by rw [z]))
          have c2 : ¬ far < R := fun z => c2 (decide_eq_true z)
          refine ⟨?_, rfl⟩
          rw [← due_val, if_neg c, if_neg c2]
          exact ⟨_, rfl⟩
      rintro _ _ ⟨⟨y9, rfl⟩, rfl⟩
      refine ⟨_, rfl, _, rfl, _, rfl, _, rfl, a, b, c, d1, ax, ay, bx, by', cx, cy, dx, dy, rfl, ha.same S9, hb.same S9, hc.same S9, hd.same S9, six, dd, t, fun H10 s10 => ⟨_, rfl, rfl, _, rfl, iteNS rfl ?_⟩⟩
      have S10 := S9.trans s10
      have t3 : tri cx cy bx by' ax ay ≠ 0 := by
        have z : tri cx cy bx by' ax ay = -tri ax ay bx by' cx cy := by
          unfold tri
          grind
        rw [z]
        omega
      have t4 : tri bx by' cx cy ax ay ≠ 0 := by
        have z : tri bx by' cx cy ax ay = tri ax ay bx by' cx cy := by
          unfold tri
          grind
        rw [z]
        exact t
      refine ⟨_, rfl, _, rfl, _, rfl, _, rfl, c, b, a, d1, cx, cy, bx, by', ax, ay, dx, dy, rfl, hc.same S10, hb.same S10, ha.same S10, hd.same S10, ⟨six.c, six.b, six.a⟩, dd, t3, fun H11 s11 => ⟨_, rfl, rfl, _, rfl, iteNS (congrArg (fun z => V.int (-z)) (lsd_rev dx dy)) ?_⟩⟩
      have S11 := S10.trans s11
      refine ⟨_, rfl, _, rfl, _, rfl, _, rfl, b, c, a, d1, bx, by', cx, cy, ax, ay, dx, dy, rfl, hb.same S11, hc.same S11, ha.same S11, hd.same S11, ⟨six.b, six.c, six.a⟩, dd, t4, fun H12 s12 => ⟨_, rfl, rfl, _, rfl, iteNS (congrArg (fun z => V.int (-z)) (lsd_cyc dx dy)) ?_⟩⟩
      exact ⟨⟨_, _, _, rfl⟩, ((sm9.trans s10).trans s11).trans s12⟩
    rintro σ' H' ⟨⟨y8, y9, y10, rfl⟩, sm9⟩
    have S9 := S8.trans sm9
    have t5 : tri bx by' ax ay cx cy ≠ 0 := by
      rw [tri_sw]
      omega
    refine ⟨_, rfl, _, rfl, _, rfl, b, a, c, bx, by', ax, ay, cx, cy, rfl, hb.same S9, ha.same S9, hc.same S9, ⟨six.b, six.a, six.c⟩, t5, fun pk2 H13 s13 n13 cir13 => ⟨_, rfl, _, rfl, two_line, fun pt2 npt2 => ?_⟩⟩
    rw [ctx_sw t, cty_sw t, ctd_sw t, cTop_sw, cBot_sw] at cir13
    refine ⟨_, _, dpCir (cir13.same (Same.upd npt2)), dpCir ⟨p4, p5, upd_same, (Same.upd npt2) _ _ (s13 _ _ (sm9 _ _ c8)), (Same.upd npt2) _ _ (s13 _ _ (sm9 _ _ f8))⟩, rfl, rfl, ?_⟩
    rw [eqv_self5]
    have S14 := (S9.trans s13).trans (Same.upd (o := .tup [.ref p4, .ref p5]) npt2)
    exact q _ (ExtN.of S14) (tb.ext S14)
end
open LamX
abbrev sLaw : Stmt := topS 33
theorem scLaw : FnScope ["_law_script", "_law_field", "_law_number_here", "_law_source", "_law_lap", "_law_sites_here", "_law_edge", "_law_corners", "_law_k"] ["_law_script"] (defScope sLaw) := ⟨rfl, rfl, rfl, by decide +kernel, rfl, by decide +kernel, by decide +kernel⟩
theorem Tabs.stp {T : List (Addr × Str)} {s : Addr} {H H' : Hp} (t : Tabs T H) (q : Src H s) (a : Stp s H H') : Tabs T H' := fun p hp => by
  obtain ⟨ps, h1, h2, h3⟩ := t p hp
  refine ⟨ps, a.keep _ _ (q.ne h1 fun _ _ _ z => by cases z) h1, h2, fun pos cv hc => ?_⟩
  obtain ⟨c, e1, e2⟩ := h3 pos cv hc
  exact ⟨c, e1, a.keep _ _ (q.ne e2 fun _ _ _ z => by unfold CodeO at z; cases z) e2⟩
theorem at_three {x y z : Addr} {r : List Addr} : atI ((x :: y :: z :: r).map V.ref) 0 = some (V.ref x) ∧ atI ((x :: y :: z :: r).map V.ref) 1 = some (V.ref y) ∧ atI ((x :: y :: z :: r).map V.ref) 2 = some (V.ref z) := by
  have l : ((x :: y :: z :: r).map V.ref).length = r.length + 3 := by rw [List.length_map]; rfl
  have k : ∀ (i : Int) (j : Nat), i = (j : Int) → j < 3 → ixN ((x :: y :: z :: r).map V.ref).length i = some j := fun i j e h => by
    subst e
    unfold ixN
    rw [l, if_pos (by omega), if_pos (by omega), Int.toNat_natCast]
  refine ⟨?_, ?_, ?_⟩
  · unfold atI
    rw [k 0 0 rfl (by decide)]
    rfl
  · unfold atI
    rw [k 1 1 rfl (by decide)]
    rfl
  · unfold atI
    rw [k 2 2 rfl (by decide)]
    rfl
def tSitE (b : Int) : TE := fun σ H Q => σ[6]? = some (some (V.int 1000000)) ∧ tSit b σ H Q
def tSitsE (b : Int) (n : Nat) : TA := fun σ H Q => σ[6]? = some (some (V.int 1000000)) ∧ tSits b n σ H Q
theorem pa_sitsE0 {X : Cx} {b : Int} : PA X [] (tSitsE b 0) := paOf pa_nil fun σ H Q q => sits_nil σ H Q q.2
theorem pa_sitsE {X : Cx} {e : Expr} {es : List Expr} {b : Int} {n : Nat} (h : PE X e (tSitE b)) (hs : PA X es (tSitsE b n)) (st : starEach (e :: es) X.env = (false, eval e X.env) :: starEach es X.env := by rfl) : PA X (e :: es) (tSitsE b (n + 1)) :=
  paOf (pa_cons h hs st) fun σ H Q q => ⟨q.1, fun p H1 x y s1 np ep d => ⟨q.1, sits_cons σ H Q q.2 p H1 x y s1 np ep d⟩⟩
theorem cut_ints (ns : List Int) (lo hi : Option Int) : ∃ ms : List Int, cutV (ns.map V.int) lo hi = ms.map V.int ∧ ms.length ≤ ns.length := by
  refine ⟨(ns.drop (HT.sIx (ns.map V.int).length 0 lo)).take (HT.sIx (ns.map V.int).length (ns.map V.int).length hi - HT.sIx (ns.map V.int).length 0 lo), ?_, ?_⟩
  · unfold cutV
    rw [List.map_take, List.map_drop]
  · rw [List.length_take, List.length_drop]
    omega
section
variable {P : Program} {w : World} {K : PySem.W.Frag} {mg : Str → Option Value} {base : Heap}
def spLaw (K : PySem.W.Frag) (T : List (Addr × Str)) : Sp := fun vs H Q _ => ∃ (a : Addr) (ns : List Int), vs = [.ref a] ∧ SqL K H a (ns.map V.int) ∧ ns.length ≤ 63 ∧ Tabs T H ∧ ∀ H', Q (.bl true) H'
theorem ok_law {f fC fSr fO fSi fR fCi fIc : Addr} {fd fdC fdSr fdO fdSi fdR fdCi fdIc : FuncData} {T : List (Addr × Str)} (F : Fun K "law" "law" sLaw f fd)
    (GC : FnOk P w K mg base CX0 (1) fC fdC ["_law_script", "_law_index"] (spCell K)) (gC : mg "_law_cell_at" = some (.ref fC)) (kC : PySem.W.keepIn K (.ref fC) = true) (bC : Binds K fdC ["_law_script", "_law_index"] []) (GSr : FnOk P w K mg base CX0 (1) fSr fdSr ["_law_number_here"] spSrc) (gSr : mg "_law_source_of" = some (.ref fSr)) (kSr : PySem.W.keepIn K (.ref fSr) = true) (bSr : Binds K fdSr ["_law_number_here"] []) (GO : FnOk P w K mg base CX0 (2) fO fdO ["_law_source", "_law_some"] (spOne K)) (gO : mg "_law_one" = some (.ref fO)) (kO : PySem.W.keepIn K (.ref fO) = true) (bO : Binds K fdO ["_law_source", "_law_some"] []) (GSi : FnOk P w K mg base CX0 (3) fSi fdSi ["_law_source", "_law_most"] spSites) (gSi : mg "_law_sites" = some (.ref fSi)) (kSi : PySem.W.keepIn K (.ref fSi) = true) (bSi : Binds K fdSi ["_law_source", "_law_most"] [])
    (GR : FnOk P w K mg base CX0 (11) fR fdR ["_law_aa", "_law_bb", "_law_cc", "_law_others"] (spRight T)) (gR : mg "_law_right" = some (.ref fR)) (kR : PySem.W.keepIn K (.ref fR) = true) (bR : Binds K fdR ["_law_aa", "_law_bb", "_law_cc", "_law_others"] []) (GCi : FnOk P w K mg base CX0 (7) fCi fdCi ["a", "b", "c"] (spCirT K)) (gCi : mg "circle" = some (.ref fCi)) (kCi : PySem.W.keepIn K (.ref fCi) = true) (bCi : Binds K fdCi ["a", "b", "c"] []) (GIc : FnOk P w K mg base CX0 (7) fIc fdIc ["a", "b", "c", "d"] (sp4 K (fun ax ay bx by' cx cy _ _ => tri ax ay bx by' cx cy ≠ 0) fun ax ay bx by' cx cy dx dy => .int (-lsd ax ay bx by' cx cy dx dy))) (gIc : mg "in_circle" = some (.ref fIc)) (kIc : PySem.W.keepIn K (.ref fIc) = true) (bIc : Binds K fdIc ["a", "b", "c", "d"] [])
    (mi : mg "int" = none) (mr : mg "range" = none) : FnOk P w K mg base CX0 12 f fd ["_law_script"] (spLaw K T) := by
  refine F.ok scLaw (fun vs H Q E h => ?_) (fun cdv A outer s0 H vs Q E hr h => ?_)
  · obtain ⟨a, ns, rfl, _⟩ := h
    rfl
  · obtain ⟨a, ns, rfl, hS, hlen, tb0, q⟩ := h
    have nd := scLaw.nd
    refine ⟨_, pss_cons (ps_setLc (i := 1) (own := [("_law_k", 8)]) (g := gName 8) (tt := tYes) rfl nd rfl rfl (by rfl) (pi_range1 (by rfl) mr (pa_cons pe_int pa_nil)) (blkOk_by (own := [("_law_k", 8)]) (N := ["_law_script", "_law_field", "_law_number_here", "_law_source", "_law_lap", "_law_sites_here", "_law_edge", "_law_corners", "_law_k"]) (sc := defScope sLaw) (by decide +kernel))
          (fun _ _ _ _ _ => by exact pg_name (i := 8) nd rfl (.inl rfl)) (fun _ _ _ _ _ => pts_nil) (fun _ _ _ _ _ => by exact (pe_tup (pa_cons (pe_op op_fdiv (pv 8) pe_int) (pa_cons (pe_op op_mod (pe_callTy call_int1 (by rfl) mi (by decide +kernel) (pa_cons (pv 8) pa_nil)) pe_int) pa_nil)))))
      (pss_cons (ps_for PassesOwn.never rfl (pi_list (pe_op op_cat (pe_lst (pa_cons (pe_call GC (hr.mono (by decide)) (by rfl) gC kC bC .nil pass0 (pa_cons (pv 0) (pa_cons pe_int pa_nil))) pa_nil)) (pe_slice sl_list (pv 0) (po_some pe_int) (po_some pe_int)))) (pg_name (i := 2) nd rfl (.inl rfl))
        (pss_cons (ps_set (i := 3) scLaw.nd rfl (.inl rfl) (pe_call GSr (hr.mono (by decide)) (by rfl) gSr kSr bSr .nil pass0 (pa_cons (pv 2) pa_nil)))
        (C8.pss_cut (ps_for PassesOwn.never rfl (pi_range1 (by rfl) mr (pa_cons pe_int pa_nil)) (pg_name (i := 4) nd rfl (.inl rfl))
            (pss_cons (ps_if (pt_not (pt_val (pe_call GR hr (by rfl) gR kR bR .nil pass0 (pa_cons (pe_call GO (hr.mono (by decide)) (by rfl) gO kO bO .nil pass0 (pa_cons (pv 3) (pa_cons (pv 1) pa_nil))) (pa_cons (pe_call GO (hr.mono (by decide)) (by rfl) gO kO bO .nil pass0 (pa_cons (pv 3) (pa_cons (pv 1) pa_nil))) (pa_cons (pe_call GO (hr.mono (by decide)) (by rfl) gO kO bO .nil pass0 (pa_cons (pv 3) (pa_cons (pv 1) pa_nil))) (pa_cons (pv 1) pa_nil))))))) (pss_one (ps_ret pe_bl)) pss_nil)
            (pss_cons (ps_set (i := 5) scLaw.nd rfl (.inl rfl) (pe_call GSi (hr.mono (by decide)) (by rfl) gSi kSi bSi .nil pass0 (pa_cons (pv 3) (pa_cons pe_int pa_nil))))
            (pss_one (ps_if (pt_not (pt_val (pe_call GR hr (by rfl) gR kR bR .nil pass0 (pa_cons (pe_call GO (hr.mono (by decide)) (by rfl) gO kO bO .nil pass0 (pa_cons (pv 3) (pa_cons (pv 5) pa_nil))) (pa_cons (pe_call GO (hr.mono (by decide)) (by rfl) gO kO bO .nil pass0 (pa_cons (pv 3) (pa_cons (pv 5) pa_nil))) (pa_cons (pe_call GO (hr.mono (by decide)) (by rfl) gO kO bO .nil pass0 (pa_cons (pv 3) (pa_cons (pv 5) pa_nil))) (pa_cons (pv 5) pa_nil))))))) (pss_one (ps_ret pe_bl)) pss_nil)))))
        (pss_cons (ps_set (i := 6) scLaw.nd rfl (.inl rfl) (pe_op op_pow pe_int pe_int))
        (pss_cons (ps_set (i := 7) scLaw.nd rfl (.inl rfl) (pe_lst (pa_sitsE (peOf (t' := tSitE 1000000) (pe_tup (pa_cons (pv 6) (pa_cons (pv 6) pa_nil))) fun σ H Q ⟨e, q⟩ => ⟨_, e, _, e, two_line, fun p np => q p _ _ _ (Same.upd np) np upd_same ⟨by decide, by decide, by decide, by decide⟩⟩) (pa_sitsE (peOf (t' := tSitE 1000000) (pe_tup (pa_cons (pe_op op_sub pe_int (pv 6)) (pa_cons (pv 6) pa_nil))) fun σ H Q ⟨e, q⟩ => ⟨_, e, _, _, rfl, rfl, _, e, two_line, fun p np => q p _ _ _ (Same.upd np) np upd_same ⟨by decide, by decide, by decide, by decide⟩⟩) (pa_sitsE (peOf (t' := tSitE 1000000) (pe_tup (pa_cons (pe_op op_sub pe_int (pv 6)) (pa_cons (pe_op op_sub pe_int (pv 6)) pa_nil))) fun σ H Q ⟨e, q⟩ => ⟨_, e, _, _, rfl, rfl, _, e, _, _, rfl, rfl, two_line, fun p np => q p _ _ _ (Same.upd np) np upd_same ⟨by decide, by decide, by decide, by decide⟩⟩) (pa_sitsE (peOf (t' := tSitE 1000000) (pe_tup (pa_cons (pv 6) (pa_cons (pe_op op_sub pe_int (pv 6)) pa_nil))) fun σ H Q ⟨e, q⟩ => ⟨_, e, _, e, _, _, rfl, rfl, two_line, fun p np => q p _ _ _ (Same.upd np) np upd_same ⟨by decide, by decide, by decide, by decide⟩⟩) pa_sitsE0))))))
        (pss_cons (ps_set (i := 7) scLaw.nd rfl (.inl rfl) (pe_op op_cat (pv 7) (pe_lst (pa_sitsE (peOf (t' := tSitE 1000000) (pe_tup (pa_cons (pv 6) (pa_cons (pe_op op_sub (pv 6) pe_int) pa_nil))) fun σ H Q ⟨e, q⟩ => ⟨_, e, _, e, _, _, rfl, rfl, two_line, fun p np => q p _ _ _ (Same.upd np) np upd_same ⟨by decide, by decide, by decide, by decide⟩⟩) (pa_sitsE (peOf (t' := tSitE 1000000) (pe_tup (pa_cons pe_int (pa_cons pe_int pa_nil))) fun σ H Q ⟨e, q⟩ => ⟨two_line, fun p np => q p _ _ _ (Same.upd np) np upd_same ⟨by decide, by decide, by decide, by decide⟩⟩) pa_sitsE0)))))
        (pss_one (ps_if (pt_not (pt_val (pe_call GR hr (by rfl) gR kR bR .nil pass0 (pa_cons (pe_ix ix_list (pv 7) pe_int (fun _ _ => rfl)) (pa_cons (pe_ix ix_list (pv 7) pe_int (fun _ _ => rfl)) (pa_cons (pe_ix ix_list (pv 7) pe_int (fun _ _ => rfl)) (pa_cons (pv 7) pa_nil))))))) (pss_one (ps_ret pe_bl)) pss_nil))))))))
      (pss_cons (ps_if (pt_cmpR (op_neD hr.units) (pe_call GCi (hr.mono (by decide)) (by rfl) gCi kCi bCi .nil pass0 (pa_cons (pe_tup (pa_cons pe_int (pa_cons pe_int pa_nil))) (pa_cons (pe_tup (pa_cons pe_int (pa_cons pe_int pa_nil))) (pa_cons (pe_tup (pa_cons pe_int (pa_cons pe_int pa_nil))) pa_nil)))) (pe_tup (pa_cons (pe_tup (pa_cons pe_int (pa_cons pe_int (pa_cons pe_int pa_nil)))) (pa_cons (pe_tup (pa_cons pe_int (pa_cons pe_int pa_nil))) pa_nil))) (nomark _)) (pss_one (ps_ret pe_bl)) pss_nil)
      (pss_one (ps_ret (pe_cmpR op_eq (pe_call GIc (hr.mono (by decide)) (by rfl) gIc kIc bIc .nil pass0 (pa_cons (pe_tup (pa_cons pe_int (pa_cons pe_int pa_nil))) (pa_cons (pe_tup (pa_cons pe_int (pa_cons pe_int pa_nil))) (pa_cons (pe_tup (pa_cons pe_int (pa_cons pe_int pa_nil))) (pa_cons (pe_tup (pa_cons pe_int (pa_cons pe_int pa_nil))) pa_nil))))) pe_int (nomark _)))))), ?_⟩
    -- the field
    refine ⟨25, rfl, by decide, by decide, fun F nF => ?_⟩
    refine lc_range (lo := 0) (n := 25) (fun i Hc => Same H Hc ∧ ∃ ts : List Addr, Hc F = some (.lst (ts.map V.ref)) ∧ ts.length = i ∧ Sits 1000000 Hc ts) ⟨Same.upd nF, [], upd_same, rfl, fun _ m => nomatch m⟩ ?_ ?_
    · rintro i Hc hi ⟨sm', ts, eD, lt, tt⟩
      refine ⟨rfl, ?_⟩
      refine ⟨_, rfl, _, _, rfl, rfl, ⟨by decide, by decide⟩, _, rfl, .inl ⟨_, rfl, _, _, rfl, rfl, (by decide : (0 : Int) < 5), two_line, fun r nr => ?_⟩⟩
      have bd : Bd 1000000 ((0 + (i : Int)) / 5) ((0 + (i : Int)) % 5) := ⟨by omega, by omega, by omega, by omega⟩
      have eD' : (upd Hc r (.tup [.int ((0 + (i : Int)) / 5), .int ((0 + (i : Int)) % 5)])) F = some (.lst (ts.map V.ref)) := (Same.upd nr) _ _ eD
      refine ⟨_, eD', ?_, ?_⟩
      · rw [List.length_map, lt]
        exact Nat.lt_of_lt_of_le hi (by decide)
      · have nr' : r ≠ F := (ne_of_none eD nr).symm
        refine ⟨fun b o e => ?_, ts ++ [r], ?_, by rw [List.length_append, lt]; rfl, fun q m => ?_⟩
        · have nbD : b ≠ F := ne_of_none e nF
          rw [upd_ne nbD]
          exact (Same.upd nr) _ _ (sm' b o e)
        · rw [List.map_append]
          exact upd_same
        · rcases List.mem_append.mp m with m | m
          · have z := (tt.same (Same.upd (o := .tup [.int ((0 + (i : Int)) / 5), .int ((0 + (i : Int)) % 5)]) nr)).put (p := F) (o := .lst (ts.map V.ref ++ [.ref r])) (fun x y z => by rw [eD'] at z; cases z)
            exact z q m
          · have e : q = r := List.mem_singleton.mp m
            subst e
            refine ⟨_, _, ?_, bd⟩
            show upd _ F _ q = _
            rw [upd_ne nr', upd_same]
    rintro G0 ⟨sm0, fs, eF, lF, tF⟩
    have hS0 := sm0.seq hS
    have tb1 := tb0.ext sm0
    -- the numbers
    refine ⟨_, rfl, a, ns, rfl, hS0, by omega, fun n0 H1 sm1 => ⟨by show 1 ≤ sizeLine; decide, fun L1 nL1 => ?_⟩⟩
    obtain ⟨ms, em, lm⟩ := cut_ints ns (some 1) (some 5)
    refine ⟨_, rfl, _, rfl, _, rfl, a, ns.map V.int, rfl, (sm1.trans (Same.upd nL1)).seq hS0, fun L2 nL2 => ?_⟩
    refine ⟨L1, L2, _, _, rfl, rfl, (Same.upd nL2) _ _ upd_same, upd_same, ?_, fun L nL => ?_⟩
    · rw [em, List.length_map]
      exact Nat.le_trans (show _ ≤ 100 by show 1 + ms.length ≤ 100; omega) (by decide)
    have eL : (upd (upd (upd H1 L1 (.lst [.int n0])) L2 (.lst (cutV (ns.map V.int) (some 1) (some 5)))) L (.lst ([.int n0] ++ cutV (ns.map V.int) (some 1) (some 5)))) L = some (.lst ((n0 :: ms).map V.int)) := by
      rw [upd_same, em]
      rfl
    have smG : Same G0 (upd (upd (upd H1 L1 (.lst [.int n0])) L2 (.lst (cutV (ns.map V.int) (some 1) (some 5)))) L (.lst ([.int n0] ++ cutV (ns.map V.int) (some 1) (some 5)))) := ((sm1.trans (Same.upd nL1)).trans (Same.upd nL2)).trans (Same.upd nL)
    generalize upd (upd (upd H1 L1 (.lst [.int n0])) L2 (.lst (cutV (ns.map V.int) (some 1) (some 5)))) L (.lst ([.int n0] ++ cutV (ns.map V.int) (some 1) (some 5))) = G at eL smG
    let J0 : Hp → Prop := fun H' => H' L = some (.lst ((n0 :: ms).map V.int)) ∧ H' F = some (.lst (fs.map V.ref)) ∧ Sits 1000000 H' fs ∧ Tabs T H'
    have J0m : ∀ {H1 H2 : Hp}, J0 H1 → Same H1 H2 → J0 H2 := fun j s => ⟨s _ _ j.1, s _ _ j.2.1, j.2.2.1.same s, j.2.2.2.ext s⟩
    have J0e : ∀ {H1 H2 : Hp}, J0 H1 → ExtN H1 H2 → Tabs T H2 → J0 H2 := fun j e t => ⟨e.lst j.1, e.lst j.2.1, e.sits j.2.2.1, t⟩
    have jG : J0 G := ⟨eL, smG _ _ eF, tF.same smG, tb1.ext smG⟩
    have f0 : 0 < (fs.map V.ref).length := by rw [List.length_map]; omega
    have f1 : (fs.map V.ref).length ≤ 1000 := by rw [List.length_map]; omega
    refine ⟨L, rfl, ⟨_, SqL.of eL⟩, for_list (K := K) (a := L) (xs := (n0 :: ms).map V.int) (fun i σ' H' => (∃ y2 y3 y4 y5 y6 y7, σ' = [some (.ref a), some (.ref F), y2, y3, y4, y5, y6, y7, none]) ∧ J0 H')
      ⟨⟨_, _, _, _, _, _, rfl⟩, jG⟩ (fun i σ' H' _ z => SqL.of z.2.1) ?_ ?_⟩
    · rintro i x σ' H' ex ⟨⟨y2, y3, y4, y5, y6, y7, rfl⟩, jH⟩
      obtain ⟨n, rfl⟩ : ∃ n, x = V.int n := by
        obtain ⟨n, _, e⟩ := List.mem_map.mp (List.mem_of_getElem? ex)
        exact ⟨n, e.symm⟩
      refine ⟨_, rfl, n, rfl, fun s p1 p2 p3 ns' => ?_⟩
      have hs : Src (upd H' s (.lst [.int p1, .int p2, .int p3])) s := ⟨p1, p2, p3, upd_same⟩
      have hLs : L ≠ s := ne_of_none jH.1 ns'
      have hFs : F ≠ s := ne_of_none jH.2.1 ns'
      have jG1 : J0 (upd H' s (.lst [.int p1, .int p2, .int p3])) := J0m jH (Same.upd ns')
      generalize upd H' s (.lst [.int p1, .int p2, .int p3]) = G1 at hs jG1
      let J : Hp → Prop := fun H' => Src H' s ∧ J0 H'
      have Js : ∀ {H1 H2 : Hp}, J H1 → Stp s H1 H2 → J H2 := fun j st => ⟨st.src, st.keep _ _ hLs j.2.1, st.keep _ _ hFs j.2.2.1, j.2.2.2.1.stp j.1 st, Tabs.stp j.2.2.2.2 j.1 st⟩
      have Je : ∀ {H1 H2 : Hp}, J H1 → ExtN H1 H2 → Tabs T H2 → J H2 := fun j e t => ⟨by
        obtain ⟨x, y, z, h⟩ := j.1
        exact ⟨x, y, z, e.lst h⟩, J0e j.2 e t⟩
      have Jm : ∀ {H1 H2 : Hp}, J H1 → Same H1 H2 → J H2 := fun j sm => Js j ((Stp.refl j.1).same sm)
      refine ⟨fun σ' H' => (∃ y4 y5, σ' = [some (.ref a), some (.ref F), some (.int n), some (.ref s), y4, y5, y6, y7, none]) ∧ J H', ?_, ?_⟩
      · refine ⟨8, rfl, by decide, by decide, for_range (lo := 0) (n := 8) (fun i σ' H' => (∃ y4 y5, σ' = [some (.ref a), some (.ref F), some (.int n), some (.ref s), y4, y5, y6, y7, none]) ∧ J H') ⟨⟨_, _, rfl⟩, hs, jG1⟩ ?_ (fun _ _ z => z)⟩
        rintro i σ' H' hi ⟨⟨y4, y5, rfl⟩, j⟩
        -- of the field
        refine ⟨_, rfl, _, rfl, s, F, _, rfl, j.1, j.2.2.1, hFs, f0, f1, fun x1 H2 m1 st2 => ?_⟩
        have j2 := Js j st2
        refine ⟨_, rfl, _, rfl, s, F, _, rfl, j2.1, j2.2.2.1, hFs, f0, f1, fun x2 H3 m2 st3 => ?_⟩
        have j3 := Js j2 st3
        refine ⟨_, rfl, _, rfl, s, F, _, rfl, j3.1, j3.2.2.1, hFs, f0, f1, fun x3 H4 m3 st4 => ?_⟩
        have j4 := Js j3 st4
        obtain ⟨r1, w1, rfl⟩ := List.mem_map.mp m1
        obtain ⟨r2, w2, rfl⟩ := List.mem_map.mp m2
        obtain ⟨r3, w3, rfl⟩ := List.mem_map.mp m3
        obtain ⟨u1, v1, e1, b1⟩ := j4.2.2.2.1 r1 w1
        obtain ⟨u2, v2, e2, b2⟩ := j4.2.2.2.1 r2 w2
        obtain ⟨u3, v3, e3, b3⟩ := j4.2.2.2.1 r3 w3
        refine ⟨_, rfl, r1, r2, r3, F, u1, v1, u2, v2, u3, v3, fs, rfl, e1, e2, e3, ⟨b1, b2, b3⟩, j4.2.2.1, by omega, by omega, j4.2.2.2.1, j4.2.2.2.2, fun H5 x5 t5 => ⟨_, rfl, ?_⟩⟩
        have j5 := Je j4 x5 t5
        -- drawn ones
        refine ⟨_, rfl, s, 9, rfl, j5.1, by decide, by decide, fun p ts H6 st6 np ep l0 l6 tt => ?_⟩
        have j6 := Js j5 st6
        have hps : p ≠ s := j5.1.nen np
        have l1 : 0 < (ts.map V.ref).length := by rw [List.length_map]; exact l0
        have l2 : (ts.map V.ref).length ≤ 1000 := by rw [List.length_map]; omega
        refine ⟨_, rfl, _, rfl, s, p, _, rfl, j6.1, ep, hps, l1, l2, fun x1 H7 m1 st7 => ?_⟩
        have ep7 := st7.keep _ _ hps ep
        have j7 := Js j6 st7
        refine ⟨_, rfl, _, rfl, s, p, _, rfl, j7.1, ep7, hps, l1, l2, fun x2 H8 m2 st8 => ?_⟩
        have ep8 := st8.keep _ _ hps ep7
        have j8 := Js j7 st8
        refine ⟨_, rfl, _, rfl, s, p, _, rfl, j8.1, ep8, hps, l1, l2, fun x3 H9 m3 st9 => ?_⟩
        have ep9 := st9.keep _ _ hps ep8
        have j9 := Js j8 st9
        have tt9 := ((tt.stp j6.1 st7).stp j7.1 st8).stp j8.1 st9
        obtain ⟨r1, w1, rfl⟩ := List.mem_map.mp m1
        obtain ⟨r2, w2, rfl⟩ := List.mem_map.mp m2
        obtain ⟨r3, w3, rfl⟩ := List.mem_map.mp m3
        obtain ⟨u1, v1, e1, b1⟩ := tt9 r1 w1
        obtain ⟨u2, v2, e2, b2⟩ := tt9 r2 w2
        obtain ⟨u3, v3, e3, b3⟩ := tt9 r3 w3
        refine ⟨_, rfl, r1, r2, r3, p, u1, v1, u2, v2, u3, v3, ts, rfl, e1, e2, e3, ⟨b1, b2, b3⟩, ep9, l0, by omega, tt9, j9.2.2.2.2, fun H10 x10 t10 => ⟨_, rfl, ?_⟩⟩
        exact ⟨⟨_, _, rfl⟩, Je j9 x10 t10⟩
      rintro σ' H' ⟨⟨y4, y5, rfl⟩, j⟩
      -- far ones
      refine ⟨_, _, rfl, rfl, ⟨by decide, by decide, by decide⟩, ?_⟩
      refine ⟨rfl, fun ps1 H2 sm2 q1 t1 => ⟨by rw [List.length_map, q1]; decide, fun C1 nC1 => ?_⟩⟩
      refine ⟨_, rfl, rfl, fun ps2 H3 sm3 q2 t2 => ⟨by rw [List.length_map, q2]; decide, fun C2 nC2 => ?_⟩⟩
      refine ⟨C1, C2, _, _, rfl, rfl, (Same.upd nC2) _ _ (sm3 _ _ upd_same), upd_same, by rw [List.length_map, List.length_map, q1, q2]; decide, fun C3 nC3 => ?_⟩
      have S3 : Same (upd H2 C1 (.lst (ps1.map V.ref))) H3 := sm3
      have SA : Same H3 (upd (upd H3 C2 (.lst (ps2.map V.ref))) C3 (.lst (ps1.map V.ref ++ ps2.map V.ref))) := (Same.upd nC2).trans (Same.upd nC3)
      have e3 : (upd (upd H3 C2 (.lst (ps2.map V.ref))) C3 (.lst (ps1.map V.ref ++ ps2.map V.ref))) C3 = some (.lst ((ps1 ++ ps2).map V.ref)) := by
        rw [List.map_append]
        exact upd_same
      have ta : Sits 1000000 (upd (upd H3 C2 (.lst (ps2.map V.ref))) C3 (.lst (ps1.map V.ref ++ ps2.map V.ref))) (ps1 ++ ps2) := fun r m => by
        rcases List.mem_append.mp m with m | m
        · exact (((t1.same (Same.upd nC1)).same S3).same SA) r m
        · exact (t2.same SA) r m
      have ja := Jm (Jm (Jm (Jm j sm2) (Same.upd nC1)) S3) SA
      generalize upd (upd H3 C2 (.lst (ps2.map V.ref))) C3 (.lst (ps1.map V.ref ++ ps2.map V.ref)) = G3 at e3 ta ja
      obtain ⟨c1, c2, c3, cs, ec⟩ : ∃ c1 c2 c3 cs, ps1 ++ ps2 = c1 :: c2 :: c3 :: cs := by
        match ps1, q1 with
        | [z1, z2, z3, z4], _ => exact ⟨z1, z2, z3, _, rfl⟩
      have lc : (ps1 ++ ps2).length = 6 := by rw [List.length_append, q1, q2]
      rw [ec] at e3 ta lc
      obtain ⟨u1, v1, e1', b1⟩ := ta c1 (by simp)
      obtain ⟨u2, v2, e2', b2⟩ := ta c2 (by simp)
      obtain ⟨u3, v3, e3', b3⟩ := ta c3 (by simp)
      have at0' : atI ((c1 :: c2 :: c3 :: cs).map V.ref) 0 = some (V.ref c1) := at_three.1
      have at1' : atI ((c1 :: c2 :: c3 :: cs).map V.ref) 1 = some (V.ref c2) := at_three.2.1
      have at2' : atI ((c1 :: c2 :: c3 :: cs).map V.ref) 2 = some (V.ref c3) := at_three.2.2
      refine ⟨_, rfl, _, _, _, _, rfl, rfl, SqL.of e3, at0', _, rfl, _, _, _, _, rfl, rfl, SqL.of e3, at1', _, rfl, _, _, _, _, rfl, rfl, SqL.of e3, at2', _, rfl, ?_⟩
      refine ⟨c1, c2, c3, C3, u1, v1, u2, v2, u3, v3, _, rfl, e1', e2', e3', ⟨b1, b2, b3⟩, e3, by omega, by omega, ta, ja.2.2.2.2, fun H10 x10 t10 => ⟨_, rfl, ?_⟩⟩
      exact ⟨⟨_, _, _, _, _, _, rfl⟩, (Je ja x10 t10).2⟩
    -- two that are known
    rintro σ' H' ⟨⟨y2, y3, y4, y5, y6, y7, rfl⟩, j⟩
    refine ⟨two_line, fun t1 n1 => ⟨two_line, fun t2 n2 => ⟨two_line, fun t3 n3 => ?_⟩⟩⟩
    refine ⟨t1, t2, t3, 0, 0, 4, 0, 1, 3, rfl, (Same.upd n3) _ _ ((Same.upd n2) _ _ upd_same), (Same.upd n3) _ _ upd_same, upd_same, ⟨⟨by decide, by decide, by decide, by decide⟩, ⟨by decide, by decide, by decide, by decide⟩, ⟨by decide, by decide, by decide, by decide⟩⟩, by decide, fun pc H4 s4 n4 cir => ⟨three_line, fun t4 n4' => ⟨two_line, fun t5 n5 => ⟨two_line, fun t6 n6 => ?_⟩⟩⟩⟩
    have k1 : ctx 0 0 4 0 1 3 = 2 := by decide +kernel
    have k2 : cty 0 0 4 0 1 3 = 1 := by decide +kernel
    have k3 : ctd 0 0 4 0 1 3 = 1 := by decide +kernel
    have k4 : cTop 0 0 4 0 1 3 / gcf (cTop 0 0 4 0 1 3) (cBot 0 0 4 0 1 3) = 5 := by decide +kernel
    have k5 : cBot 0 0 4 0 1 3 / gcf (cTop 0 0 4 0 1 3) (cBot 0 0 4 0 1 3) = 1 := by decide +kernel
    rw [k1, k2, k3, k4, k5] at cir
    refine ⟨_, _, dpCir (((cir.same (Same.upd n4')).same (Same.upd n5)).same (Same.upd n6)), dpCir ⟨t4, t5, upd_same, (Same.upd n6) _ _ ((Same.upd n5) _ _ upd_same), (Same.upd n6) _ _ upd_same⟩, rfl, rfl, _, rfl, ?_⟩
    rw [eqv_self5]
    refine ⟨two_line, fun t1 n1 => ⟨two_line, fun t2 n2 => ⟨two_line, fun t3 n3 => ⟨two_line, fun t4 n4 => ?_⟩⟩⟩⟩
    refine ⟨t1, t2, t3, t4, 0, 0, 2, 0, 0, 2, 2, 2, rfl, (Same.upd n4) _ _ ((Same.upd n3) _ _ ((Same.upd n2) _ _ upd_same)), (Same.upd n4) _ _ ((Same.upd n3) _ _ upd_same), (Same.upd n4) _ _ upd_same, upd_same, ⟨⟨by decide, by decide, by decide, by decide⟩, ⟨by decide, by decide, by decide, by decide⟩, ⟨by decide, by decide, by decide, by decide⟩⟩, ⟨by decide, by decide, by decide, by decide⟩, by decide, fun H5 s5 => ⟨rfl, ?_⟩⟩
    exact q _
end
open LamX
/-! ### what the top has written; the law's own head -/
theorem all_mk {l : PySem.W.OpenLaw} {w : World} {K : PySem.W.Frag} {h : Heap} {mg : Str → Option Value} {fa fSg fF fSt fA fCk fCt fH fCi fIc fLs fSr fN fO fC fSi fLq fLt fLc fLp fCe fNo fR fL : Addr} (X : K.In h) (G : h.Ns mainGlobals mg) (hfa : mg "law" = some (.ref fa))
    {CN CE fIn cRa PRa : Addr} {nmC qC : Str} {NC : Addr} {bsC bmC : List Value} {hdC : Bool} {snC : List Str} {subC : List Value} {abC : Bool} {colC : Option Bool} {ddC : Option Addr} {k0C k1C k2C k3C k5C : Option Value}
    {odIn anIn : Option Addr} {slIn : Array (Option Value)} {ocIn kVIn dcIn pmIn cdIn ctIn : Value}
    {odSg anSg : Option Addr} {slSg : Array (Option Value)} {ocSg kVSg dcSg pmSg cdSg ctSg : Value}
    {odF anF : Option Addr} {slF : Array (Option Value)} {ocF kVF dcF pmF cdF ctF : Value}
    {odSt anSt : Option Addr} {slSt : Array (Option Value)} {ocSt kVSt dcSt pmSt cdSt ctSt : Value}
    {odA anA : Option Addr} {slA : Array (Option Value)} {ocA kVA dcA pmA cdA ctA : Value}
    {odCk anCk : Option Addr} {slCk : Array (Option Value)} {ocCk kVCk dcCk pmCk cdCk ctCk : Value}
    {odCt anCt : Option Addr} {slCt : Array (Option Value)} {ocCt kVCt dcCt pmCt cdCt ctCt : Value}
    {odH anH : Option Addr} {slH : Array (Option Value)} {ocH kVH dcH pmH cdH ctH : Value}
    {odCi anCi : Option Addr} {slCi : Array (Option Value)} {ocCi kVCi dcCi pmCi cdCi ctCi : Value}
    {odIc anIc : Option Addr} {slIc : Array (Option Value)} {ocIc kVIc dcIc pmIc cdIc ctIc : Value}
    {odLs anLs : Option Addr} {slLs : Array (Option Value)} {ocLs kVLs dcLs pmLs cdLs ctLs : Value}
    {odSr anSr : Option Addr} {slSr : Array (Option Value)} {ocSr kVSr dcSr pmSr cdSr ctSr : Value}
    {odN anN : Option Addr} {slN : Array (Option Value)} {ocN kVN dcN pmN cdN ctN : Value}
    {odO anO : Option Addr} {slO : Array (Option Value)} {ocO kVO dcO pmO cdO ctO : Value}
    {odC anC : Option Addr} {slC : Array (Option Value)} {ocC kVC dcC pmC cdC ctC : Value}
    {odSi anSi : Option Addr} {slSi : Array (Option Value)} {ocSi kVSi dcSi pmSi cdSi ctSi : Value}
    {odLq anLq : Option Addr} {slLq : Array (Option Value)} {ocLq kVLq dcLq pmLq cdLq ctLq : Value}
    {odLt anLt : Option Addr} {slLt : Array (Option Value)} {ocLt kVLt dcLt pmLt cdLt ctLt : Value}
    {odLc anLc : Option Addr} {slLc : Array (Option Value)} {ocLc kVLc dcLc pmLc cdLc ctLc : Value}
    {odLp anLp : Option Addr} {slLp : Array (Option Value)} {ocLp kVLp dcLp pmLp cdLp ctLp : Value}
    {odCe anCe : Option Addr} {slCe : Array (Option Value)} {ocCe kVCe dcCe pmCe cdCe ctCe : Value}
    {odNo anNo : Option Addr} {slNo : Array (Option Value)} {ocNo kVNo dcNo pmNo cdNo ctNo : Value}
    {odR anR : Option Addr} {slR : Array (Option Value)} {ocR kVR dcR pmR ctR : Value}
    {odL anL : Option Addr} {slL : Array (Option Value)} {ocL kVL dcL pmL cdL ctL : Value}
    (aSg : PySem.W.nsIn K mainGlobals "sign" = some (some (.ref fSg))) (lSg : K.lookup fSg = some ⟨ocSg, odSg, .func (PySem.W.fnOf "sign" "sign" (defArgs sSign) (defBody sSign) (defScope sSign) .none kVSg dcSg pmSg anSg cdSg ctSg), slSg⟩) (cSg : PySem.W.codeIn K cdSg "sign" = true) (kSg : PySem.W.keepIn K (.ref fSg) = true)
    (aF : PySem.W.nsIn K mainGlobals "fraction" = some (some (.ref fF))) (lF : K.lookup fF = some ⟨ocF, odF, .func (PySem.W.fnOf "fraction" "fraction" (defArgs sFrac) (defBody sFrac) (defScope sFrac) .none kVF dcF pmF anF cdF ctF), slF⟩) (cF : PySem.W.codeIn K cdF "fraction" = true) (kF : PySem.W.keepIn K (.ref fF) = true)
    (aSt : PySem.W.nsIn K mainGlobals "is_site" = some (some (.ref fSt))) (lSt : K.lookup fSt = some ⟨ocSt, odSt, .func (PySem.W.fnOf "is_site" "is_site" (defArgs sIsSite) (defBody sIsSite) (defScope sIsSite) .none kVSt dcSt pmSt anSt cdSt ctSt), slSt⟩) (cSt : PySem.W.codeIn K cdSt "is_site" = true) (kSt : PySem.W.keepIn K (.ref fSt) = true)
    (aA : PySem.W.nsIn K mainGlobals "turn_of_sites" = some (some (.ref fA))) (lA : K.lookup fA = some ⟨ocA, odA, .func (PySem.W.fnOf "turn_of_sites" "turn_of_sites" (defArgs sToS) (defBody sToS) (defScope sToS) .none kVA dcA pmA anA cdA ctA), slA⟩) (cA : PySem.W.codeIn K cdA "turn_of_sites" = true) (kA : PySem.W.keepIn K (.ref fA) = true)
    (aCk : PySem.W.nsIn K mainGlobals "check_site" = some (some (.ref fCk))) (lCk : K.lookup fCk = some ⟨ocCk, odCk, .func (PySem.W.fnOf "check_site" "check_site" (defArgs sCheck) (defBody sCheck) (defScope sCheck) .none kVCk dcCk pmCk anCk cdCk ctCk), slCk⟩) (cCk : PySem.W.codeIn K cdCk "check_site" = true) (kCk : PySem.W.keepIn K (.ref fCk) = true)
    (aCt : PySem.W.nsIn K mainGlobals "circle_through" = some (some (.ref fCt))) (lCt : K.lookup fCt = some ⟨ocCt, odCt, .func (PySem.W.fnOf "circle_through" "circle_through" (defArgs sCirT) (defBody sCirT) (defScope sCirT) .none kVCt dcCt pmCt anCt cdCt ctCt), slCt⟩) (cCt : PySem.W.codeIn K cdCt "circle_through" = true) (kCt : PySem.W.keepIn K (.ref fCt) = true)
    (aH : PySem.W.nsIn K mainGlobals "height_over" = some (some (.ref fH))) (lH : K.lookup fH = some ⟨ocH, odH, .func (PySem.W.fnOf "height_over" "height_over" (defArgs sHov) (defBody sHov) (defScope sHov) .none kVH dcH pmH anH cdH ctH), slH⟩) (cH : PySem.W.codeIn K cdH "height_over" = true) (kH : PySem.W.keepIn K (.ref fH) = true)
    (aCi : PySem.W.nsIn K mainGlobals "circle" = some (some (.ref fCi))) (lCi : K.lookup fCi = some ⟨ocCi, odCi, .func (PySem.W.fnOf "circle" "circle" (defArgs sCircle) (defBody sCircle) (defScope sCircle) .none kVCi dcCi pmCi anCi cdCi ctCi), slCi⟩) (cCi : PySem.W.codeIn K cdCi "circle" = true) (kCi : PySem.W.keepIn K (.ref fCi) = true)
    (aIc : PySem.W.nsIn K mainGlobals "in_circle" = some (some (.ref fIc))) (lIc : K.lookup fIc = some ⟨ocIc, odIc, .func (PySem.W.fnOf "in_circle" "in_circle" (defArgs sInC) (defBody sInC) (defScope sInC) .none kVIc dcIc pmIc anIc cdIc ctIc), slIc⟩) (cIc : PySem.W.codeIn K cdIc "in_circle" = true) (kIc : PySem.W.keepIn K (.ref fIc) = true)
    (aLs : PySem.W.nsIn K mainGlobals "lift_side" = some (some (.ref fLs))) (lLs : K.lookup fLs = some ⟨ocLs, odLs, .func (PySem.W.fnOf "lift_side" "lift_side" (defArgs sLSide) (defBody sLSide) (defScope sLSide) .none kVLs dcLs pmLs anLs cdLs ctLs), slLs⟩) (cLs : PySem.W.codeIn K cdLs "lift_side" = true) (kLs : PySem.W.keepIn K (.ref fLs) = true)
    (aSr : PySem.W.nsIn K mainGlobals "_law_source_of" = some (some (.ref fSr))) (lSr : K.lookup fSr = some ⟨ocSr, odSr, .func (PySem.W.fnOf "_law_source_of" "_law_source_of" (defArgs sSrc) (defBody sSrc) (defScope sSrc) .none kVSr dcSr pmSr anSr cdSr ctSr), slSr⟩) (cSr : PySem.W.codeIn K cdSr "_law_source_of" = true) (kSr : PySem.W.keepIn K (.ref fSr) = true)
    (aN : PySem.W.nsIn K mainGlobals "_law_next" = some (some (.ref fN))) (lN : K.lookup fN = some ⟨ocN, odN, .func (PySem.W.fnOf "_law_next" "_law_next" (defArgs sNext) (defBody sNext) (defScope sNext) .none kVN dcN pmN anN cdN ctN), slN⟩) (cN : PySem.W.codeIn K cdN "_law_next" = true) (kN : PySem.W.keepIn K (.ref fN) = true)
    (aO : PySem.W.nsIn K mainGlobals "_law_one" = some (some (.ref fO))) (lO : K.lookup fO = some ⟨ocO, odO, .func (PySem.W.fnOf "_law_one" "_law_one" (defArgs sOne) (defBody sOne) (defScope sOne) .none kVO dcO pmO anO cdO ctO), slO⟩) (cO : PySem.W.codeIn K cdO "_law_one" = true) (kO : PySem.W.keepIn K (.ref fO) = true)
    (aC : PySem.W.nsIn K mainGlobals "_law_cell_at" = some (some (.ref fC))) (lC : K.lookup fC = some ⟨ocC, odC, .func (PySem.W.fnOf "_law_cell_at" "_law_cell_at" (defArgs sCell) (defBody sCell) (defScope sCell) .none kVC dcC pmC anC cdC ctC), slC⟩) (cC : PySem.W.codeIn K cdC "_law_cell_at" = true) (kC : PySem.W.keepIn K (.ref fC) = true)
    (aSi : PySem.W.nsIn K mainGlobals "_law_sites" = some (some (.ref fSi))) (lSi : K.lookup fSi = some ⟨ocSi, odSi, .func (PySem.W.fnOf "_law_sites" "_law_sites" (defArgs sSites) (defBody sSites) (defScope sSites) .none kVSi dcSi pmSi anSi cdSi ctSi), slSi⟩) (cSi : PySem.W.codeIn K cdSi "_law_sites" = true) (kSi : PySem.W.keepIn K (.ref fSi) = true)
    (aLq : PySem.W.nsIn K mainGlobals "_law_square" = some (some (.ref fLq))) (lLq : K.lookup fLq = some ⟨ocLq, odLq, .func (PySem.W.fnOf "_law_square" "_law_square" (defArgs sLSq) (defBody sLSq) (defScope sLSq) .none kVLq dcLq pmLq anLq cdLq ctLq), slLq⟩) (cLq : PySem.W.codeIn K cdLq "_law_square" = true) (kLq : PySem.W.keepIn K (.ref fLq) = true)
    (aLt : PySem.W.nsIn K mainGlobals "_law_turn" = some (some (.ref fLt))) (lLt : K.lookup fLt = some ⟨ocLt, odLt, .func (PySem.W.fnOf "_law_turn" "_law_turn" (defArgs sLTurn) (defBody sLTurn) (defScope sLTurn) .none kVLt dcLt pmLt anLt cdLt ctLt), slLt⟩) (cLt : PySem.W.codeIn K cdLt "_law_turn" = true) (kLt : PySem.W.keepIn K (.ref fLt) = true)
    (aLc : PySem.W.nsIn K mainGlobals "_law_common" = some (some (.ref fLc))) (lLc : K.lookup fLc = some ⟨ocLc, odLc, .func (PySem.W.fnOf "_law_common" "_law_common" (defArgs sLCom) (defBody sLCom) (defScope sLCom) .none kVLc dcLc pmLc anLc cdLc ctLc), slLc⟩) (cLc : PySem.W.codeIn K cdLc "_law_common" = true) (kLc : PySem.W.keepIn K (.ref fLc) = true)
    (aLp : PySem.W.nsIn K mainGlobals "_law_place" = some (some (.ref fLp))) (lLp : K.lookup fLp = some ⟨ocLp, odLp, .func (PySem.W.fnOf "_law_place" "_law_place" (defArgs sLPl) (defBody sLPl) (defScope sLPl) .none kVLp dcLp pmLp anLp cdLp ctLp), slLp⟩) (cLp : PySem.W.codeIn K cdLp "_law_place" = true) (kLp : PySem.W.keepIn K (.ref fLp) = true)
    (aCe : PySem.W.nsIn K mainGlobals "_law_centre" = some (some (.ref fCe))) (lCe : K.lookup fCe = some ⟨ocCe, odCe, .func (PySem.W.fnOf "_law_centre" "_law_centre" (defArgs sLCen) (defBody sLCen) (defScope sLCen) .none kVCe dcCe pmCe anCe cdCe ctCe), slCe⟩) (cCe : PySem.W.codeIn K cdCe "_law_centre" = true) (kCe : PySem.W.keepIn K (.ref fCe) = true)
    (aNo : PySem.W.nsIn K mainGlobals "_law_no_circle" = some (some (.ref fNo))) (lNo : K.lookup fNo = some ⟨ocNo, odNo, .func (PySem.W.fnOf "_law_no_circle" "_law_no_circle" (defArgs sNoC) (defBody sNoC) (defScope sNoC) .none kVNo dcNo pmNo anNo cdNo ctNo), slNo⟩) (cNo : PySem.W.codeIn K cdNo "_law_no_circle" = true) (kNo : PySem.W.keepIn K (.ref fNo) = true)
    (aR : PySem.W.nsIn K mainGlobals "_law_right" = some (some (.ref fR))) (lR : K.lookup fR = some ⟨ocR, odR, .func (PySem.W.fnOf "_law_right" "_law_right" (defArgs sRight) (defBody sRight) (defScope sRight) .none kVR dcR pmR anR (.ref cRa) ctR), slR⟩) (cR : PySem.W.codeIn K (.ref cRa) "_law_right" = true) (kR : PySem.W.keepIn K (.ref fR) = true)
    (aL : PySem.W.nsIn K mainGlobals "law" = some (some (.ref fL))) (lL : K.lookup fL = some ⟨ocL, odL, .func (PySem.W.fnOf "law" "law" (defArgs sLaw) (defBody sLaw) (defScope sLaw) .none kVL dcL pmL anL cdL ctL), slL⟩) (cL : PySem.W.codeIn K cdL "law" = true) (kL : PySem.W.keepIn K (.ref fL) = true)
    (zint : PySem.W.nsIn K mainGlobals "int" = some none)
    (zisinstance : PySem.W.nsIn K mainGlobals "isinstance" = some none)
    (ztuple : PySem.W.nsIn K mainGlobals "tuple" = some none)
    (zlen : PySem.W.nsIn K mainGlobals "len" = some none)
    (zabs : PySem.W.nsIn K mainGlobals "abs" = some none)
    (zrange : PySem.W.nsIn K mainGlobals "range" = some none)
    (ggcd : PySem.W.nsIn K mainGlobals "gcd" = some (some (.builtin "math.gcd")))
    (aNC : PySem.W.nsIn K mainGlobals "NoCircle" = some (some (.ref CN)))
    (aCE : PySem.W.nsIn K mainGlobals "CellError" = some (some (.ref CE)))
    (lCN : K.lookup CN = some (excClassObj nmC qC CN NC bsC bmC hdC snC subC abC colC ddC k0C k1C k2C k3C k5C "ArithmeticError.__new__"))
    (bCN : ∀ Y : String, bmC.contains (.type Y) = aeTail.contains (.type Y))
    (iC : PySem.W.findIn K (.ref CN) "__init__" = some (some (.ref fIn)))
    (lIn : K.lookup fIn = some ⟨ocIn, odIn, .func (PySem.W.fnOf "__init__" "NoCircle.__init__" (defArgs sInit) (defBody sInit) (defScope sInit) .none kVIn dcIn pmIn anIn cdIn ctIn), slIn⟩)
    (cIn : PySem.W.codeIn K cdIn "NoCircle.__init__" = true)
    (kIn : PySem.W.keepIn K (.ref fIn) = true)
    (fnT : PySem.W.typeIn K (.ref fIn) = some (.type "function"))
    (exC : PySem.W.subIn K (.ref CN) (.type "BaseException") = some true)
    (tyC : PySem.W.typeIn K (.ref CN) = some (.type "type"))
    (kCN : PySem.W.keepIn K (.ref CN) = true)
    (x1 : PySem.W.findIn K (.ref CN) "__getattribute__" = some (some (.builtin "BaseException.__getattribute__")))
    (x2 : PySem.W.findIn K (.ref CN) "__getattr__" = some none)
    (x4 : PySem.W.hasDictIn K CN = true)
    (x5 : PySem.W.findIn K (.ref CN) "__class__" = some (some (.builtin "object.__class__")))
    (x6 : PySem.W.specialIn K (.builtin "object.__class__") "__get__" = some (some (.builtin "getset_descriptor.__get__")))
    (x7 : PySem.W.takesIn K (.builtin "object.__class__") = some true)
    (x8 : PySem.W.mroIn K CN (.type "object") = some true)
    (sC : PySem.W.subIn K (.ref CN) (.ref CN) = some true)
    (kE : PySem.W.kitOne K (.ref CN) (.ref CE) = some true)
    (hHd : PySem.W.codeHdIn K cRa PRa = true)
    (nPR : K.lookup PRa = none)
    (hTab : h.get? PRa = some (PySem.W.tabObj #[]))
    : LawAtS l w K CX0 12 63 "_law_script" mg fa h := by
  have e := hfa.symm.trans (PySem.W.mg_of X G aL)
  cases e
  have FSg := fun_mk (st := sSign) lSg cSg kSg
  have bSg := FSg.binds (ps := ["number"]) fun _ _ _ _ _ _ us hl => match us, hl with | [_], _ => rfl
  have gSg := PySem.W.mg_of X G aSg
  have FF := fun_mk (st := sFrac) lF cF kF
  have bF := FF.binds (ps := ["top", "bottom"]) fun _ _ _ _ _ _ us hl => match us, hl with | [_, _], _ => rfl
  have gF := PySem.W.mg_of X G aF
  have FSt := fun_mk (st := sIsSite) lSt cSt kSt
  have bSt := FSt.binds (ps := ["value"]) fun _ _ _ _ _ _ us hl => match us, hl with | [_], _ => rfl
  have gSt := PySem.W.mg_of X G aSt
  have FA := fun_mk (st := sToS) lA cA kA
  have bA := FA.binds (ps := ["a", "b", "c"]) fun _ _ _ _ _ _ us hl => match us, hl with | [_, _, _], _ => rfl
  have gA := PySem.W.mg_of X G aA
  have FCk := fun_mk (st := sCheck) lCk cCk kCk
  have bCk := FCk.binds (ps := ["value", "name"]) fun _ _ _ _ _ _ us hl => match us, hl with | [_, _], _ => rfl
  have gCk := PySem.W.mg_of X G aCk
  have FCt := fun_mk (st := sCirT) lCt cCt kCt
  have bCt := FCt.binds (ps := ["a", "b", "c"]) fun _ _ _ _ _ _ us hl => match us, hl with | [_, _, _], _ => rfl
  have gCt := PySem.W.mg_of X G aCt
  have FH := fun_mk (st := sHov) lH cH kH
  have bH := FH.binds (ps := ["a", "b", "c", "d"]) fun _ _ _ _ _ _ us hl => match us, hl with | [_, _, _, _], _ => rfl
  have gH := PySem.W.mg_of X G aH
  have FCi := fun_mk (st := sCircle) lCi cCi kCi
  have bCi := FCi.binds (ps := ["a", "b", "c"]) fun _ _ _ _ _ _ us hl => match us, hl with | [_, _, _], _ => rfl
  have gCi := PySem.W.mg_of X G aCi
  have FIc := fun_mk (st := sInC) lIc cIc kIc
  have bIc := FIc.binds (ps := ["a", "b", "c", "d"]) fun _ _ _ _ _ _ us hl => match us, hl with | [_, _, _, _], _ => rfl
  have gIc := PySem.W.mg_of X G aIc
  have FLs := fun_mk (st := sLSide) lLs cLs kLs
  have bLs := FLs.binds (ps := ["a", "b", "c", "d"]) fun _ _ _ _ _ _ us hl => match us, hl with | [_, _, _, _], _ => rfl
  have gLs := PySem.W.mg_of X G aLs
  have FSr := fun_mk (st := sSrc) lSr cSr kSr
  have bSr := FSr.binds (ps := ["_law_number_here"]) fun _ _ _ _ _ _ us hl => match us, hl with | [_], _ => rfl
  have gSr := PySem.W.mg_of X G aSr
  have FN := fun_mk (st := sNext) lN cN kN
  have bN := FN.binds (ps := ["_law_source", "_law_many"]) fun _ _ _ _ _ _ us hl => match us, hl with | [_, _], _ => rfl
  have gN := PySem.W.mg_of X G aN
  have FO := fun_mk (st := sOne) lO cO kO
  have bO := FO.binds (ps := ["_law_source", "_law_some"]) fun _ _ _ _ _ _ us hl => match us, hl with | [_, _], _ => rfl
  have gO := PySem.W.mg_of X G aO
  have FC := fun_mk (st := sCell) lC cC kC
  have bC := FC.binds (ps := ["_law_script", "_law_index"]) fun _ _ _ _ _ _ us hl => match us, hl with | [_, _], _ => rfl
  have gC := PySem.W.mg_of X G aC
  have FSi := fun_mk (st := sSites) lSi cSi kSi
  have bSi := FSi.binds (ps := ["_law_source", "_law_most"]) fun _ _ _ _ _ _ us hl => match us, hl with | [_, _], _ => rfl
  have gSi := PySem.W.mg_of X G aSi
  have FLq := fun_mk (st := sLSq) lLq cLq kLq
  have bLq := FLq.binds (ps := ["_law_place_here", "_law_site"]) fun _ _ _ _ _ _ us hl => match us, hl with | [_, _], _ => rfl
  have gLq := PySem.W.mg_of X G aLq
  have FLt := fun_mk (st := sLTurn) lLt cLt kLt
  have bLt := FLt.binds (ps := ["_law_aa", "_law_bb", "_law_cc"]) fun _ _ _ _ _ _ us hl => match us, hl with | [_, _, _], _ => rfl
  have gLt := PySem.W.mg_of X G aLt
  have FLc := fun_mk (st := sLCom) lLc cLc kLc
  have bLc := FLc.binds (ps := ["_law_aa", "_law_bb"]) fun _ _ _ _ _ _ us hl => match us, hl with | [_, _], _ => rfl
  have gLc := PySem.W.mg_of X G aLc
  have FLp := fun_mk (st := sLPl) lLp cLp kLp
  have bLp := FLp.binds (ps := ["_law_x", "_law_y", "_law_dd"]) fun _ _ _ _ _ _ us hl => match us, hl with | [_, _, _], _ => rfl
  have gLp := PySem.W.mg_of X G aLp
  have FCe := fun_mk (st := sLCen) lCe cCe kCe
  have bCe := FCe.binds (ps := ["_law_aa", "_law_bb", "_law_cc"]) fun _ _ _ _ _ _ us hl => match us, hl with | [_, _, _], _ => rfl
  have gCe := PySem.W.mg_of X G aCe
  have FNo := fun_mk (st := sNoC) lNo cNo kNo
  have bNo := FNo.binds (ps := ["_law_call"]) fun _ _ _ _ _ _ us hl => match us, hl with | [_], _ => rfl
  have gNo := PySem.W.mg_of X G aNo
  have FR := fun_mk (st := sRight) lR cR kR
  have bR := FR.binds (ps := ["_law_aa", "_law_bb", "_law_cc", "_law_others"]) fun _ _ _ _ _ _ us hl => match us, hl with | [_, _, _, _], _ => rfl
  have gR := PySem.W.mg_of X G aR
  have FL := fun_mk (st := sLaw) lL cL kL
  have mint := PySem.W.mg_none_of X G zint
  have misinstance := PySem.W.mg_none_of X G zisinstance
  have mtuple := PySem.W.mg_none_of X G ztuple
  have mlen := PySem.W.mg_none_of X G zlen
  have mabs := PySem.W.mg_none_of X G zabs
  have mrange := PySem.W.mg_none_of X G zrange
  have eC := PySem.W.exm_ref exC x4 tyC sC
  have cC : ExcC K CN := ⟨x1, x2, exC, x4, x5, x6, x7, x8⟩
  have mgcd := PySem.W.mg_of X G ggcd
  have mC := PySem.W.mg_of X G aNC
  have mE := PySem.W.mg_of X G aCE
  have FIn := fun_mk (st := sInit) lIn cIn kIn
  have bIn := FIn.binds (ps := ["self"]) fun _ _ _ _ _ _ us hl => match us, hl with | [_], _ => rfl
  have kbCi := kb_rev (ps := ["a", "b", "c"]) (ks := ["c", "b", "a"]) FCi (by decide) fun _ _ _ _ _ _ ws hl => match ws, hl with | [_, _, _], _ => rfl
  have kbIc := kb_rev (ps := ["a", "b", "c", "d"]) (ks := ["d", "c", "b", "a"]) FIc (by decide) fun _ _ _ _ _ _ ws hl => match ws, hl with | [_, _, _, _], _ => rfl
  have TC : PassC K CN fIn := ⟨⟨_, _, _, _, _, _, _, _, _, _, _, _, _, _, _, _, lCN, bCN⟩, iC, fnT, exC, tyC, kCN⟩
  refine ⟨PySem.W.fnOf "law" "law" (defArgs sLaw) (defBody sLaw) (defScope sLaw) .none kVL dcL pmL anL cdL ctL, [(cRa, PRa)], spLaw K (rTab cRa PRa), fun p hp => ?_, fun p hp => ?_, fun p hp => ?_, fun s v => .of_eq rfl, fun H a ns hl _ hH hS => ?_, fun base _ _ TB => ?_⟩
  · rw [List.mem_singleton.mp hp]
    exact hTab
  · rw [List.mem_singleton.mp hp]
    exact nPR
  · rw [List.mem_singleton.mp hp]
    exact PySem.W.codeHd_of_K X hHd
  · exact ⟨a, ns, rfl, hS, hl, fun p hp => by
      rw [List.mem_singleton.mp hp]
      exact TabS.nil (hH _ (List.mem_singleton_self _)), fun _ => rfl⟩
  have tb := TB _ (List.mem_singleton_self _)
  have GA := fun k => ok_tos (P := l.prog) (w := w) (base := base) (k := k) FA misinstance mtuple mint mlen
  have GSt := fun k => ok_issite (P := l.prog) (w := w) (base := base) (k := k) FSt misinstance mtuple mint mlen
  have GCk := fun k => ok_check (k := k) FCk (GSt k) gSt kSt bSt
  have GSg := fun k => ok_sign (P := l.prog) (w := w) (mg := mg) (base := base) (k := k) FSg
  have GF := fun k => ok_frac (P := l.prog) (w := w) (base := base) (k := k) FF mgcd
  have GCt := ok_cirt (k := 3) FCt (GF 3) gF kF bF mgcd
  have GH := ok_hov (P := l.prog) (w := w) (mg := mg) (base := base) (k := 4) FH
  have GCi := (ok_circle (k := 4) FCi (GA 4) gA kA bA GCt gCt kCt bCt).mono (show 6 ≤ 7 by decide)
  have GLs := ok_lside (k := 4) FLs (GA 4) gA kA bA (GCk 3) gCk kCk bCk GH gH kH bH (GSg 4) gSg kSg bSg
  have GIc := ok_inc (k := 5) FIc GLs gLs kLs bLs
  have GIn := ok_init (P := l.prog) (w := w) (mg := mg) (base := base) (k := 2) FIn
  have GCiX := (ok_circleX (k := 2) FCi (GA 3) gA kA bA TC GIn bIn mC).mono (show 5 ≤ 8 by decide)
  have GLsX := ok_lsideX (k := 2) FLs (GA 3) gA kA bA (GCk 2) gCk kCk bCk TC GIn bIn mC
  have GIcX := (ok_incX (k := 5) FIc GLsX gLs kLs bLs).mono (show 6 ≤ 8 by decide)
  have GSr := ok_src (P := l.prog) (w := w) (base := base) (k := 0) FSr mint
  have GN := ok_next (P := l.prog) (w := w) (base := base) (k := 0) FN mint
  have GO := ok_one (k := 0) FO GN gN kN bN mlen
  have GC := ok_cell (P := l.prog) (w := w) (mg := mg) (base := base) (k := 0) FC
  have GSi := ok_sites (k := 0) FSi GN gN kN bN GO gO kO bO mrange
  have GLq := ok_lsq (P := l.prog) (w := w) (mg := mg) (base := base) (k := 0) FLq
  have GLt := ok_lturn (P := l.prog) (w := w) (mg := mg) (base := base) (k := 0) FLt
  have GLc := fun k => ok_com (P := l.prog) (w := w) (base := base) (k := k) FLc mint mabs
  have GLp := ok_lpl (k := 0) FLp (GLc 0) gLc kLc bLc
  have GCe := ok_lcen (k := 1) FCe GLp gLp kLp bLp
  have GR := ok_right lR cR tb lNo cNo gNo kNo bNo mC mE misinstance cC eC kE GCiX GIcX GLt gLt kLt bLt GCi gCi kCi bCi kbCi GIc gIc kIc bIc kbIc GLq gLq kLq bLq GCe gCe kCe bCe (GLc 0) gLc kLc bLc
  exact ok_law FL GC gC kC bC GSr gSr kSr bSr GO gO kO bO GSi gSi kSi bSi GR gR kR bR GCi gCi kCi bCi GIc gIc kIc bIc mint mrange
end NcK
open PySem PySem.W PyProof.Rows
set_option maxHeartbeats 0 in
theorem PySem.Challenge.cw_nearcells_k02_circles_of_sites_holds : PySem.Challenge.rw_nearcells_k02_circles_of_sites.Holds := by
  w_on; o_law; k_head; (case hw => w_witness2)
  k_fill
  refine LamX.walk_ofTs (l := PySem.Challenge.rw_nearcells_k02_circles_of_sites) (n := 63) (k := 12) (x := "_law_script") (CX := fun _ => L2.CX0) rfl (by decide) rfl ⟨rfl, by decide, by decide⟩ (fun w h Y => PySem.W.km_in_of Y) ?F (fun _ _ _ _ _ h => h)
  case F =>
    intro w mg fa h Y KX G hmg
    have hT8 := PySem.W.km_tabs_of Y
    refine' NcK.all_mk KX G hmg ?aSg ?lSg ?cSg ?kSg ?aF ?lF ?cF ?kF ?aSt ?lSt ?cSt ?kSt ?aA ?lA ?cA ?kA ?aCk ?lCk ?cCk ?kCk ?aCt ?lCt ?cCt ?kCt ?aH ?lH ?cH ?kH ?aCi ?lCi ?cCi ?kCi ?aIc ?lIc ?cIc ?kIc ?aLs ?lLs ?cLs ?kLs ?aSr ?lSr ?cSr ?kSr ?aN ?lN ?cN ?kN ?aO ?lO ?cO ?kO ?aC ?lC ?cC ?kC ?aSi ?lSi ?cSi ?kSi ?aLq ?lLq ?cLq ?kLq ?aLt ?lLt ?cLt ?kLt ?aLc ?lLc ?cLc ?kLc ?aLp ?lLp ?cLp ?kLp ?aCe ?lCe ?cCe ?kCe ?aNo ?lNo ?cNo ?kNo ?aR ?lR ?cR ?kR ?aL ?lL ?cL ?kL ?zint ?zisinstance ?ztuple ?zlen ?zabs ?zrange ?ggcd ?aNC ?aCE ?lCN ?bCN ?iC ?lIn ?cIn ?kIn ?fnT ?exC ?tyC ?kCN ?x1 ?x2 ?x4 ?x5 ?x6 ?x7 ?x8 ?sC ?kE ?hHd ?nPR ?hTab
    (case aSg => k_is); (case lSg => k_is); (case cSg => k_is); (case kSg => k_is); (case aF => k_is); (case lF => k_is); (case cF => k_is); (case kF => k_is); (case aSt => k_is); (case lSt => k_is); (case cSt => k_is); (case kSt => k_is); (case aA => k_is); (case lA => k_is); (case cA => k_is); (case kA => k_is); (case aCk => k_is); (case lCk => k_is); (case cCk => k_is); (case kCk => k_is); (case aCt => k_is); (case lCt => k_is); (case cCt => k_is); (case kCt => k_is); (case aH => k_is); (case lH => k_is); (case cH => k_is); (case kH => k_is); (case aCi => k_is); (case lCi => k_is); (case cCi => k_is); (case kCi => k_is); (case aIc => k_is); (case lIc => k_is); (case cIc => k_is); (case kIc => k_is); (case aLs => k_is); (case lLs => k_is); (case cLs => k_is); (case kLs => k_is); (case aSr => k_is); (case lSr => k_is); (case cSr => k_is); (case kSr => k_is); (case aN => k_is); (case lN => k_is); (case cN => k_is); (case kN => k_is); (case aO => k_is); (case lO => k_is); (case cO => k_is); (case kO => k_is); (case aC => k_is); (case lC => k_is); (case cC => k_is); (case kC => k_is); (case aSi => k_is); (case lSi => k_is); (case cSi => k_is); (case kSi => k_is); (case aLq => k_is); (case lLq => k_is); (case cLq => k_is); (case kLq => k_is); (case aLt => k_is); (case lLt => k_is); (case cLt => k_is); (case kLt => k_is); (case aLc => k_is); (case lLc => k_is); (case cLc => k_is); (case kLc => k_is); (case aLp => k_is); (case lLp => k_is); (case cLp => k_is); (case kLp => k_is); (case aCe => k_is); (case lCe => k_is); (case cCe => k_is); (case kCe => k_is); (case aNo => k_is); (case lNo => k_is); (case cNo => k_is); (case kNo => k_is); (case aR => k_is); (case lR => k_is); (case cR => k_is); (case kR => k_is); (case aL => k_is); (case lL => k_is); (case cL => k_is); (case kL => k_is); (case zint => k_is); (case zisinstance => k_is); (case ztuple => k_is); (case zlen => k_is); (case zabs => k_is); (case zrange => k_is); (case hTab => exact hT8 _ (List.mem_singleton_self _)); (case ggcd => k_is); (case aNC => k_is); (case aCE => k_is); (case lCN => k_is); (case bCN => exact fun Y => by rw [List.contains_cons]; rfl); (case iC => k_is); (case lIn => k_is); (case cIn => k_is); (case kIn => k_is); (case fnT => k_is); (case exC => k_is); (case tyC => k_is); (case kCN => k_is); (case x1 => k_is); (case x2 => k_is); (case x4 => k_is); (case x5 => k_is); (case x6 => k_is); (case x7 => k_is); (case x8 => k_is); (case sC => k_is); (case kE => kernel_rfl); (case hHd => kernel_rfl); (case nPR => kernel_rfl)
