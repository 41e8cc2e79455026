import PyProof.Rows.All
import Wide.All
import OpenK.AllK
import Wide.FinOn
import HandS.ForMost
import HandS.TupLe
import HandS.IsInst
import HandS.Wide
import HandS.Walk
import HandS.Gcd
import HandS.Codes
import HandS.Style
import PySem.Challenge.RW_nearcells_k01_signs_of_three_sites
set_option Elab.async false
set_option linter.all false
set_option maxRecDepth 100000
set_option maxHeartbeats 4000000
/-! Own rules: min and max of two things that are compared by the heap (pairs); a call by keywords alone. -/
namespace Nc
open PySem PySem.Spec PyProof.Rows L2
section
variable {prog : Program} {w : World} {A : Around} {E : Value → Shared → Prop} {s : Shared} {va vb : Value} {k : Bool}
/-- all that stood before stands -/
abbrev KeepH (h h' : Heap) : Prop := ∀ c o, h.get? c = some o → h'.get? c = some o


/-- the loop of min behind its first item: best so far vx (twice at S), one more item vy to come, or none -/
theorem min_round {R : Result → Shared → Prop} {I S T : Addr} {vx vy : Value} {its : Array Value} {b : Bool} {c i : Nat} {s : Shared} (hh : A.handled = none) (hIT : T ≠ I) (hIS : S ≠ I) (hST : S ≠ T)
    (hit : s.heap.IsTupleIter I T i ∧ s.heap.IsTuple T its) (hy : its[i]? = some vy) (hend : its.size = i + 1) (hS : s.heap.get? S = some { cls := .type "list", dict := none, data := .seq #[vx, vx] c, slots := #[] })
    (hc : ∀ h' tk, (∀ b o, b ≠ I → s.heap.get? b = some o → h'.get? b = some o) → Ob.RcOp .Lt A.in1 { s with heap := h', toks := tk } vy vx b)
    (hR : ∀ h' tk, (∀ b o, b ≠ I → b ≠ S → s.heap.get? b = some o → h'.get? b = some o) → R (.ok (.ret (if b = true then vy else vx))) { s with heap := h', toks := tk }) :
    codeAny (model prog w) A (.builtin "min.loop" ⟨[.ref I, .none, .ref S], []⟩) R s := by
  have nm : (toString "min" ++ toString ".loop" : String) = "min.loop" := by decide
  have W := Walks.tuple (prog := prog) (w := w) (A := A.in1) hh I T hIT its
  -- no item is left: vz is handed back
  have last : ∀ (vz : Value) (c' : Nat) (s1 : Shared), s1.heap.IsTupleIter I T (i + 1) ∧ s1.heap.IsTuple T its → s1.heap.get? S = some { cls := .type "list", dict := none, data := .seq #[vz, vz] c', slots := #[] } →
      (∀ h' tk, (∀ b o, b ≠ I → b ≠ S → s1.heap.get? b = some o → h'.get? b = some o) → R (.ok (.ret vz)) { s1 with heap := h', toks := tk }) → codeAny (model prog w) A (.builtin "min.loop" ⟨[.ref I, .none, .ref S], []⟩) R s1 := by
    intro vz c' s1 st1 g1 r1
    obtain ⟨hp, gg, dd, tt, os⟩ := s1
    refine codeAny_builtin PySem.F.entry_min_loop ?_
    rw [Around.under_plainId PySem.F.plain_min_loop _]
    refine wpAny_bind (wpAny_seqItems g1 rfl (wpAny_bind (wpAny_tryCatch (W.done _ _ _ (hend ▸ st1) fun hq tk hk => ?_))))
    have g2 := hk S _ (fun z => hIS (List.mem_singleton.mp z)) g1
    refine wpAny_bind (wpAny_updateSeq g2 rfl (wpAny_bind (wpAny_letGo (wpAny_pure ?_))))
    exact r1 _ tk fun d o n1 n2 e => (Heap.get?_update_other _ _ (Ne.symm n2)).trans (hk d o (fun z => n1 (List.mem_singleton.mp z)) e)
  obtain ⟨hp, gg, dd, tt, os⟩ := s
  refine codeAny_builtin PySem.F.entry_min_loop ?_
  rw [Around.under_plainId PySem.F.plain_min_loop _]
  refine wpAny_bind (wpAny_seqItems hS rfl (wpAny_bind (wpAny_tryCatch (W.item i _ _ _ (by omega) hit fun v hq tk hP st hk => ?_))))
  have ev : v = vy := Option.some.inj ((show its[i]? = some v from hP).symm.trans hy)
  subst ev
  have kk : ∀ d o, d ≠ I → hp.get? d = some o → hq.get? d = some o := fun d o n e => hk d o (fun z => n (List.mem_singleton.mp z)) e
  have g2 := kk S _ hIS hS
  refine wpAny_bind (wpAny_pure ?_)
  show wpAny _ _ (tryCatch (holding [v, v] (richCompare _ v vx >>= _)) _ >>= _) _ _ _
  refine wpAny_bind (wpAny_tryCatch (wpAny_holding (wpAny_bind ((hc hq tk kk) prog w _ _ ?_))))
  refine wpAny_bind (wpAny_holding (wpAny_truthy_bool (wpAny_bind (wpAny_letGo (wpAny_pure ?_)))))
  cases b with
  | true =>
    simp only [if_true]
    refine wpAny_bind (wpAny_updateSeq g2 rfl (wpAny_bind (wpAny_letGo ?_)))
    rw [nm]
    have fr : ∀ d o, d ≠ S → hq.get? d = some o → (hq.update S fun o => { o with data := .seq #[v, v] (c + 1) }).get? d = some o := fun d o n e => (Heap.get?_update_other _ _ (Ne.symm n)).trans e
    refine wpAny_pure ⟨plainId_quiet PySem.F.plain_min_loop _, last v _ _ (W.frame _ _ _ st fun d hd o e => ?_) (Heap.get?_update_self _ g2 rfl) fun h' tk' hk' => ?_⟩
    · refine (Heap.get?_update_other _ _ ?_).trans e
      intro z
      rcases List.mem_cons.mp hd with q | q
      · exact hIS (z.trans q)
      · exact hST (z.trans (List.mem_singleton.mp q))
    · exact hR h' tk' fun d o n1 n2 e => hk' d o n1 n2 ((Heap.get?_update_other _ _ (Ne.symm n2)).trans (kk d o n1 e))
  | false =>
    simp only [Bool.false_eq_true, if_false]
    refine wpAny_bind (wpAny_letGo ?_)
    rw [nm]
    refine wpAny_pure ⟨plainId_quiet PySem.F.plain_min_loop _, last vx _ _ st g2 fun h' tk' hk' => ?_⟩
    exact hR h' tk' fun d o n1 n2 e => hk' d o n1 n2 (kk d o n1 e)

theorem min2_by {Q : Value → Shared → Prop} (hh : A.handled = none)
    (hc : ∀ h' tk, KeepH s.heap h' → Ob.RcOp .Lt A.in1 { s with heap := h', toks := tk } vb va k)
    (hq : ∀ h' tk, KeepH s.heap h' → Q (if k = true then vb else va) { s with heap := h', toks := tk }) :
    wpAny (model prog w) A (call (.builtin "min") [va, vb]) Q E s := by
  have nm : (toString "min" ++ toString ".loop" : String) = "min.loop" := by decide
  obtain ⟨hp, gg, dd, tt, os⟩ := s
  refine call_function_tree PySem.F.kind_min PySem.F.plain_min PySem.F.entry_min (PySem.F.args_min2 _ _) ?_
  refine wpAny_bind (wpAny_of_eq (show Builtin.Builtins.bindParams "min" ["key", "default"] 0 ⟨[], []⟩ = pure [none, none] from rfl) ?_)
  show wpAny _ A.in1 (newTuple [va, vb] >>= _) _ _ _
  have hT : (hp.push { cls := .type "tuple", data := .seq #[va, vb] }).IsTuple hp.objs.size #[va, vb] := ⟨_, Heap.get?_push_size _ rfl, rfl, 0, rfl⟩
  have z1 : (hp.push { cls := .type "tuple", data := .seq #[va, vb] }).objs.size = hp.objs.size + 1 := Heap.size_push ..
  have k1 : KeepH hp (hp.push { cls := .type "tuple", data := .seq #[va, vb] }) := fun c o e => Heap.get?_push_of_some _ e
  refine wpAny_bind (wpAny_newObj_type (wpAny_bind (wpAny_pyIter_tuple hT (wpAny_bind (wpAny_newObj_type ?_)))))
  generalize hp.push { cls := .type "tuple", data := .seq #[va, vb] } = h1 at *
  generalize eT : hp.objs.size = T at *
  generalize eI : h1.objs.size = I at *
  have gI : (h1.push { cls := .type "tuple_iterator", data := .fields #[.ref T, .int 0 0] }).get? I = some { cls := .type "tuple_iterator", data := .fields #[.ref T, .int 0 0] } := by
    rw [← eI]
    exact Heap.get?_push_size _ rfl
  have k2 : KeepH h1 (h1.push { cls := .type "tuple_iterator", data := .fields #[.ref T, .int 0 0] }) := fun c o e => Heap.get?_push_of_some _ e
  have z2 : (h1.push { cls := .type "tuple_iterator", data := .fields #[.ref T, .int 0 0] }).objs.size = I + 1 := by
    rw [← eI]
    exact Heap.size_push ..
  have hIT : T ≠ I := by omega
  obtain ⟨oT, gT, cT, nT, dT⟩ := hT
  generalize h1.push { cls := .type "tuple_iterator", data := .fields #[.ref T, .int 0 0] } = h2 at *
  have gS : (h2.push { cls := .type "list", data := .seq #[] }).get? h2.objs.size = some { cls := .type "list", data := .seq #[] } := Heap.get?_push_size _ rfl
  have k3 : KeepH h2 (h2.push { cls := .type "list", data := .seq #[] }) := fun c o e => Heap.get?_push_of_some _ e
  show wpAny _ _ (pure (Fin.again (Code.builtin (toString "min" ++ toString ".loop") ⟨[.ref I, .none, .ref h2.objs.size], []⟩))) _ _ ⟨h2.push { cls := .type "list", data := .seq #[] }, gg, dd, tt, os⟩
  rw [nm]
  generalize eS : h2.objs.size = S at *
  generalize h2.push { cls := .type "list", data := .seq #[] } = h3 at *
  have hIS : S ≠ I := by
    omega
  have hST : S ≠ T := by omega
  have W := Walks.tuple (prog := prog) (w := w) (A := A.in1) hh I T hIT #[va, vb]
  refine wpAny_pure ⟨plainId_quiet PySem.F.plain_min_loop _, ?_⟩
  refine codeAny_builtin PySem.F.entry_min_loop ?_
  rw [Around.under_plainId PySem.F.plain_min_loop _]
  have st0 : h3.IsTupleIter I T 0 ∧ h3.IsTuple T #[va, vb] := ⟨⟨_, k3 _ _ gI, rfl, rfl⟩, ⟨oT, k3 _ _ (k2 _ _ gT), cT, nT, dT⟩⟩
  refine wpAny_bind (wpAny_seqItems gS rfl (wpAny_bind (wpAny_tryCatch (W.item 0 ⟨h3, gg, dd, tt, os⟩ _ _ (by show 0 < 2; decide) st0 fun v hq' tk hP st hk => ?_))))
  have ev : v = va := (Option.some.inj (show some va = some v from hP)).symm
  subst ev
  refine wpAny_bind (wpAny_pure ?_)
  have kk : ∀ d o, d ≠ I → h3.get? d = some o → hq'.get? d = some o := fun d o n e => hk d o (fun z => n (List.mem_singleton.mp z)) e
  have g2 := kk S _ hIS gS
  show wpAny _ _ (updateSeq S (fun _ => #[v, v]) >>= _) _ _ _
  refine wpAny_bind (wpAny_updateSeq g2 rfl ?_)
  rw [nm]
  have all : ∀ d o, hp.get? d = some o → d ≠ I ∧ d ≠ S ∧ hq'.get? d = some o := fun d o e => by
    have l : d < T := eT ▸ Heap.lt_size e
    have lI : T < I := by omega
    have lS : T < S := by omega
    have n1 : d ≠ I := Nat.ne_of_lt (Nat.lt_trans l lI)
    exact ⟨n1, Nat.ne_of_lt (Nat.lt_trans l lS), kk d o n1 (k3 _ _ (k2 _ _ (k1 _ _ e)))⟩
  refine wpAny_pure ⟨plainId_quiet PySem.F.plain_min_loop _, min_round (i := 1) (its := #[v, vb]) (vy := vb) (vx := v) (T := T) (b := k) hh hIT hIS hST ?_ rfl rfl (Heap.get?_update_self _ g2 rfl) (fun h' tk' kp => ?_) fun h' tk' kp => ?_⟩
  · refine W.frame _ _ _ st fun d hd o e => (Heap.get?_update_other _ _ ?_).trans e
    intro z
    rcases List.mem_cons.mp hd with q | q
    · exact hIS (z.trans q)
    · exact hST (z.trans (List.mem_singleton.mp q))
  · refine hc h' tk' fun d o e => ?_
    obtain ⟨n1, n2, e2⟩ := all d o e
    exact kp d o n1 ((Heap.get?_update_other _ _ (Ne.symm n2)).trans e2)
  · refine hq h' tk' fun d o e => ?_
    obtain ⟨n1, n2, e2⟩ := all d o e
    exact kp d o n1 n2 ((Heap.get?_update_other _ _ (Ne.symm n2)).trans e2)


/-- the loop of max behind its first item: best so far vx (twice at S), one more item vy to come, or none -/
theorem max_round {R : Result → Shared → Prop} {I S T : Addr} {vx vy : Value} {its : Array Value} {b : Bool} {c i : Nat} {s : Shared} (hh : A.handled = none) (hIT : T ≠ I) (hIS : S ≠ I) (hST : S ≠ T)
    (hit : s.heap.IsTupleIter I T i ∧ s.heap.IsTuple T its) (hy : its[i]? = some vy) (hend : its.size = i + 1) (hS : s.heap.get? S = some { cls := .type "list", dict := none, data := .seq #[vx, vx] c, slots := #[] })
    (hc : ∀ h' tk, (∀ b o, b ≠ I → s.heap.get? b = some o → h'.get? b = some o) → Ob.RcOp .Gt A.in1 { s with heap := h', toks := tk } vy vx b)
    (hR : ∀ h' tk, (∀ b o, b ≠ I → b ≠ S → s.heap.get? b = some o → h'.get? b = some o) → R (.ok (.ret (if b = true then vy else vx))) { s with heap := h', toks := tk }) :
    codeAny (model prog w) A (.builtin "max.loop" ⟨[.ref I, .none, .ref S], []⟩) R s := by
  have nm : (toString "max" ++ toString ".loop" : String) = "max.loop" := by decide
  have W := Walks.tuple (prog := prog) (w := w) (A := A.in1) hh I T hIT its
  -- no item is left: vz is handed back
  have last : ∀ (vz : Value) (c' : Nat) (s1 : Shared), s1.heap.IsTupleIter I T (i + 1) ∧ s1.heap.IsTuple T its → s1.heap.get? S = some { cls := .type "list", dict := none, data := .seq #[vz, vz] c', slots := #[] } →
      (∀ h' tk, (∀ b o, b ≠ I → b ≠ S → s1.heap.get? b = some o → h'.get? b = some o) → R (.ok (.ret vz)) { s1 with heap := h', toks := tk }) → codeAny (model prog w) A (.builtin "max.loop" ⟨[.ref I, .none, .ref S], []⟩) R s1 := by
    intro vz c' s1 st1 g1 r1
    obtain ⟨hp, gg, dd, tt, os⟩ := s1
    refine codeAny_builtin PySem.F.entry_max_loop ?_
    rw [Around.under_plainId PySem.F.plain_max_loop _]
    refine wpAny_bind (wpAny_seqItems g1 rfl (wpAny_bind (wpAny_tryCatch (W.done _ _ _ (hend ▸ st1) fun hq tk hk => ?_))))
    have g2 := hk S _ (fun z => hIS (List.mem_singleton.mp z)) g1
    refine wpAny_bind (wpAny_updateSeq g2 rfl (wpAny_bind (wpAny_letGo (wpAny_pure ?_))))
    exact r1 _ tk fun d o n1 n2 e => (Heap.get?_update_other _ _ (Ne.symm n2)).trans (hk d o (fun z => n1 (List.mem_singleton.mp z)) e)
  obtain ⟨hp, gg, dd, tt, os⟩ := s
  refine codeAny_builtin PySem.F.entry_max_loop ?_
  rw [Around.under_plainId PySem.F.plain_max_loop _]
  refine wpAny_bind (wpAny_seqItems hS rfl (wpAny_bind (wpAny_tryCatch (W.item i _ _ _ (by omega) hit fun v hq tk hP st hk => ?_))))
  have ev : v = vy := Option.some.inj ((show its[i]? = some v from hP).symm.trans hy)
  subst ev
  have kk : ∀ d o, d ≠ I → hp.get? d = some o → hq.get? d = some o := fun d o n e => hk d o (fun z => n (List.mem_singleton.mp z)) e
  have g2 := kk S _ hIS hS
  refine wpAny_bind (wpAny_pure ?_)
  show wpAny _ _ (tryCatch (holding [v, v] (richCompare _ v vx >>= _)) _ >>= _) _ _ _
  refine wpAny_bind (wpAny_tryCatch (wpAny_holding (wpAny_bind ((hc hq tk kk) prog w _ _ ?_))))
  refine wpAny_bind (wpAny_holding (wpAny_truthy_bool (wpAny_bind (wpAny_letGo (wpAny_pure ?_)))))
  cases b with
  | true =>
    simp only [if_true]
    refine wpAny_bind (wpAny_updateSeq g2 rfl (wpAny_bind (wpAny_letGo ?_)))
    rw [nm]
    have fr : ∀ d o, d ≠ S → hq.get? d = some o → (hq.update S fun o => { o with data := .seq #[v, v] (c + 1) }).get? d = some o := fun d o n e => (Heap.get?_update_other _ _ (Ne.symm n)).trans e
    refine wpAny_pure ⟨plainId_quiet PySem.F.plain_max_loop _, last v _ _ (W.frame _ _ _ st fun d hd o e => ?_) (Heap.get?_update_self _ g2 rfl) fun h' tk' hk' => ?_⟩
    · refine (Heap.get?_update_other _ _ ?_).trans e
      intro z
      rcases List.mem_cons.mp hd with q | q
      · exact hIS (z.trans q)
      · exact hST (z.trans (List.mem_singleton.mp q))
    · exact hR h' tk' fun d o n1 n2 e => hk' d o n1 n2 ((Heap.get?_update_other _ _ (Ne.symm n2)).trans (kk d o n1 e))
  | false =>
    simp only [Bool.false_eq_true, if_false]
    refine wpAny_bind (wpAny_letGo ?_)
    rw [nm]
    refine wpAny_pure ⟨plainId_quiet PySem.F.plain_max_loop _, last vx _ _ st g2 fun h' tk' hk' => ?_⟩
    exact hR h' tk' fun d o n1 n2 e => hk' d o n1 n2 (kk d o n1 e)

theorem max2_by {Q : Value → Shared → Prop} (hh : A.handled = none)
    (hc : ∀ h' tk, KeepH s.heap h' → Ob.RcOp .Gt A.in1 { s with heap := h', toks := tk } vb va k)
    (hq : ∀ h' tk, KeepH s.heap h' → Q (if k = true then vb else va) { s with heap := h', toks := tk }) :
    wpAny (model prog w) A (call (.builtin "max") [va, vb]) Q E s := by
  have nm : (toString "max" ++ toString ".loop" : String) = "max.loop" := by decide
  obtain ⟨hp, gg, dd, tt, os⟩ := s
  refine call_function_tree PySem.F.kind_max PySem.F.plain_max PySem.F.entry_max (PySem.F.args_max2 _ _) ?_
  refine wpAny_bind (wpAny_of_eq (show Builtin.Builtins.bindParams "max" ["key", "default"] 0 ⟨[], []⟩ = pure [none, none] from rfl) ?_)
  show wpAny _ A.in1 (newTuple [va, vb] >>= _) _ _ _
  have hT : (hp.push { cls := .type "tuple", data := .seq #[va, vb] }).IsTuple hp.objs.size #[va, vb] := ⟨_, Heap.get?_push_size _ rfl, rfl, 0, rfl⟩
  have z1 : (hp.push { cls := .type "tuple", data := .seq #[va, vb] }).objs.size = hp.objs.size + 1 := Heap.size_push ..
  have k1 : KeepH hp (hp.push { cls := .type "tuple", data := .seq #[va, vb] }) := fun c o e => Heap.get?_push_of_some _ e
  refine wpAny_bind (wpAny_newObj_type (wpAny_bind (wpAny_pyIter_tuple hT (wpAny_bind (wpAny_newObj_type ?_)))))
  generalize hp.push { cls := .type "tuple", data := .seq #[va, vb] } = h1 at *
  generalize eT : hp.objs.size = T at *
  generalize eI : h1.objs.size = I at *
  have gI : (h1.push { cls := .type "tuple_iterator", data := .fields #[.ref T, .int 0 0] }).get? I = some { cls := .type "tuple_iterator", data := .fields #[.ref T, .int 0 0] } := by
    rw [← eI]
    exact Heap.get?_push_size _ rfl
  have k2 : KeepH h1 (h1.push { cls := .type "tuple_iterator", data := .fields #[.ref T, .int 0 0] }) := fun c o e => Heap.get?_push_of_some _ e
  have z2 : (h1.push { cls := .type "tuple_iterator", data := .fields #[.ref T, .int 0 0] }).objs.size = I + 1 := by
    rw [← eI]
    exact Heap.size_push ..
  have hIT : T ≠ I := by omega
  obtain ⟨oT, gT, cT, nT, dT⟩ := hT
  generalize h1.push { cls := .type "tuple_iterator", data := .fields #[.ref T, .int 0 0] } = h2 at *
  have gS : (h2.push { cls := .type "list", data := .seq #[] }).get? h2.objs.size = some { cls := .type "list", data := .seq #[] } := Heap.get?_push_size _ rfl
  have k3 : KeepH h2 (h2.push { cls := .type "list", data := .seq #[] }) := fun c o e => Heap.get?_push_of_some _ e
  show wpAny _ _ (pure (Fin.again (Code.builtin (toString "max" ++ toString ".loop") ⟨[.ref I, .none, .ref h2.objs.size], []⟩))) _ _ ⟨h2.push { cls := .type "list", data := .seq #[] }, gg, dd, tt, os⟩
  rw [nm]
  generalize eS : h2.objs.size = S at *
  generalize h2.push { cls := .type "list", data := .seq #[] } = h3 at *
  have hIS : S ≠ I := by
    omega
  have hST : S ≠ T := by omega
  have W := Walks.tuple (prog := prog) (w := w) (A := A.in1) hh I T hIT #[va, vb]
  refine wpAny_pure ⟨plainId_quiet PySem.F.plain_max_loop _, ?_⟩
  refine codeAny_builtin PySem.F.entry_max_loop ?_
  rw [Around.under_plainId PySem.F.plain_max_loop _]
  have st0 : h3.IsTupleIter I T 0 ∧ h3.IsTuple T #[va, vb] := ⟨⟨_, k3 _ _ gI, rfl, rfl⟩, ⟨oT, k3 _ _ (k2 _ _ gT), cT, nT, dT⟩⟩
  refine wpAny_bind (wpAny_seqItems gS rfl (wpAny_bind (wpAny_tryCatch (W.item 0 ⟨h3, gg, dd, tt, os⟩ _ _ (by show 0 < 2; decide) st0 fun v hq' tk hP st hk => ?_))))
  have ev : v = va := (Option.some.inj (show some va = some v from hP)).symm
  subst ev
  refine wpAny_bind (wpAny_pure ?_)
  have kk : ∀ d o, d ≠ I → h3.get? d = some o → hq'.get? d = some o := fun d o n e => hk d o (fun z => n (List.mem_singleton.mp z)) e
  have g2 := kk S _ hIS gS
  show wpAny _ _ (updateSeq S (fun _ => #[v, v]) >>= _) _ _ _
  refine wpAny_bind (wpAny_updateSeq g2 rfl ?_)
  rw [nm]
  have all : ∀ d o, hp.get? d = some o → d ≠ I ∧ d ≠ S ∧ hq'.get? d = some o := fun d o e => by
    have l : d < T := eT ▸ Heap.lt_size e
    have lI : T < I := by omega
    have lS : T < S := by omega
    have n1 : d ≠ I := Nat.ne_of_lt (Nat.lt_trans l lI)
    exact ⟨n1, Nat.ne_of_lt (Nat.lt_trans l lS), kk d o n1 (k3 _ _ (k2 _ _ (k1 _ _ e)))⟩
  refine wpAny_pure ⟨plainId_quiet PySem.F.plain_max_loop _, max_round (i := 1) (its := #[v, vb]) (vy := vb) (vx := v) (T := T) (b := k) hh hIT hIS hST ?_ rfl rfl (Heap.get?_update_self _ g2 rfl) (fun h' tk' kp => ?_) fun h' tk' kp => ?_⟩
  · refine W.frame _ _ _ st fun d hd o e => (Heap.get?_update_other _ _ ?_).trans e
    intro z
    rcases List.mem_cons.mp hd with q | q
    · exact hIS (z.trans q)
    · exact hST (z.trans (List.mem_singleton.mp q))
  · refine hc h' tk' fun d o e => ?_
    obtain ⟨n1, n2, e2⟩ := all d o e
    exact kp d o n1 ((Heap.get?_update_other _ _ (Ne.symm n2)).trans e2)
  · refine hq h' tk' fun d o e => ?_
    obtain ⟨n1, n2, e2⟩ := all d o e
    exact kp d o n1 n2 ((Heap.get?_update_other _ _ (Ne.symm n2)).trans e2)

end
/-! ### min(t, u), max(t, u) of two tuples of ints -/
/-- t < u by the model's own look from place to place -/
def lexP (lt : Int → Int → Bool) (e : Bool) (ns ms : List Int) : Bool := Ob.lexAt (fun j => decide (ns.getD j 0 = ms.getD j 0)) (fun j => lt (ns.getD j 0) (ms.getD j 0)) e 0 (min ns.length ms.length)
section
variable {X : Cx}
theorem tup_ops {s : Shared} {pins : List (Addr × Obj)} {σ : L2.St} {H : Hp} {a b : Addr} {ns ms : List Int} (I : L2.Inv X pins σ H s) (ha : H a = some (.tup (ns.map V.int))) (hb : H b = some (.tup (ms.map V.int))) (hu : X.A.units + 1 < cLine) (h' : Heap) (tk : Nat) (kp : KeepH s.heap h') :
    Ob.RcOp .Lt X.A.in1 { s with heap := h', toks := tk } (.ref a) (.ref b) (lexP (fun x y => decide (x < y)) (decide (ns.length < ms.length)) ns ms) ∧
    Ob.RcOp .Gt X.A.in1 { s with heap := h', toks := tk } (.ref a) (.ref b) (lexP (fun x y => decide (x > y)) (decide (ns.length > ms.length)) ns ms) := by
  obtain ⟨its, r1, p1, _⟩ := I.tuple (SqT.of ha)
  obtain ⟨its2, r2, p2, _⟩ := I.tuple (SqT.of hb)
  have i1 : IntsAre its ns := Vals.ints r1
  have i2 : IntsAre its2 ms := Vals.ints r2
  have e1 : its.toArray.size = ns.length := by rw [List.size_toArray]; exact i1.length
  have e2 : its2.toArray.size = ms.length := by rw [List.size_toArray]; exact i2.length
  obtain ⟨o1, g1, c1, n1, d1⟩ := p1
  obtain ⟨o2, g2, c2, n2, d2⟩ := p2
  have q1 : Heap.IsTuple h' a its.toArray := ⟨o1, kp _ _ g1, c1, n1, d1⟩
  have q2 : Heap.IsTuple h' b its2.toArray := ⟨o2, kp _ _ g2, c2, n2, d2⟩
  have at1 : ∀ j (h1 : j < its.toArray.size), ∃ t, its.toArray[j] = .int (ns.getD j 0) t := fun j h1 => PyProof.Rows.IntsAre.int_at i1 _ _ (by simp at h1; simp [h1])
  have at2 : ∀ j (h1 : j < its2.toArray.size), ∃ t, its2.toArray[j] = .int (ms.getD j 0) t := fun j h1 => PyProof.Rows.IntsAre.int_at i2 _ _ (by simp at h1; simp [h1])
  have eqs : ∀ (B : Around) (s2 : Shared) j (h1 : j < its.toArray.size) (h2 : j < its2.toArray.size), SeqAt.EqAt B s2 its.toArray[j] its2.toArray[j] (decide (ns.getD j 0 = ms.getD j 0)) := fun B s2 j h1 h2 => by
    obtain ⟨t, et⟩ := at1 j h1
    obtain ⟨t', et'⟩ := at2 j h2
    rw [et, et', ← Bool.beq_eq_decide_eq]
    exact SeqAt.EqAt.int_int _ _ _ _
  constructor
  · have R := Ob.RcOp.tuples_lt (A := X.A.in1) (s := { s with heap := h', toks := tk }) (e := fun j => decide (ns.getD j 0 = ms.getD j 0)) (r := fun j => decide (ns.getD j 0 < ms.getD j 0)) q1 q2 hu (eqs _ _) (fun j h1 h2 _ => by
      obtain ⟨t, et⟩ := at1 j h1
      obtain ⟨t', et'⟩ := at2 j h2
      rw [et, et']
      exact Ob.RcOp.lt_int _ _ _ _)
    rw [e1, e2] at R
    exact R
  · have R := Ob.RcOp.tuples_gt (A := X.A.in1) (s := { s with heap := h', toks := tk }) (e := fun j => decide (ns.getD j 0 = ms.getD j 0)) (r := fun j => decide (ns.getD j 0 > ms.getD j 0)) q1 q2 hu (eqs _ _) (fun j h1 h2 _ => by
      obtain ⟨t, et⟩ := at1 j h1
      obtain ⟨t', et'⟩ := at2 j h2
      rw [et, et']
      exact Ob.RcOp.gt_int _ _ _ _)
    rw [e1, e2] at R
    exact R
/-- min(t, u), max(t, u), both tracked tuples of ints: one of the two themselves -/
def rBest (lt : List Int → List Int → Bool) : List V → Hp → VK → Prop := fun xs H Q => ∃ (a b : Addr) (ns ms : List Int), xs = [.ref a, .ref b] ∧ H a = some (.tup (ns.map V.int)) ∧ H b = some (.tup (ms.map V.int)) ∧ Q (.ref (if lt ms ns = true then b else a)) H
theorem call_minT (hc : X.calm = true) (hu : X.A.units + 1 < cLine) : CallR X (.builtin "min") (rBest fun ns ms => lexP (fun x y => decide (x < y)) (decide (ns.length < ms.length)) ns ms) := by
  intro pins s σ H xs us Q I r h
  obtain ⟨a, b, ns, ms, rfl, ha, hb, q⟩ := h
  obtain ⟨u, w', rfl, r1, r2⟩ := vals2 r
  cases r1
  cases r2
  refine min2_by (I.ok.hd hc) (fun h' tk kp => (tup_ops I hb ha hu h' tk kp).1) fun h' tk kp => ⟨_, H, I.kept kp, ?_, q⟩
  split <;> rfl
theorem call_maxT (hc : X.calm = true) (hu : X.A.units + 1 < cLine) : CallR X (.builtin "max") (rBest fun ns ms => lexP (fun x y => decide (x > y)) (decide (ns.length > ms.length)) ns ms) := by
  intro pins s σ H xs us Q I r h
  obtain ⟨a, b, ns, ms, rfl, ha, hb, q⟩ := h
  obtain ⟨u, w', rfl, r1, r2⟩ := vals2 r
  cases r1
  cases r2
  refine max2_by (I.ok.hd hc) (fun h' tk kp => (tup_ops I hb ha hu h' tk kp).2) fun h' tk kp => ⟨_, H, I.kept kp, ?_, q⟩
  split <;> rfl
end
/-! ### f(k = v, ..), keywords alone -/
section
variable {X : Cx} {CX : CXT} {k : Nat} {f : Addr} {fd : FuncData} {ps ks : List Str} {sp : Sp} {x : Str} {p pos : Pos} {E : XK} {tk : TA} {kws : List Keyword} {g : List Value → List Value → List Value} {gV : List V → List V → List V}
theorem pe_callKw (F : FnOk X.prog X.w X.K X.mg X.base CX k f fd ps sp) (hr : Room k X.A) (hg : Gl X x) (hm : X.mg x = some (.ref f)) (hk : PySem.W.keepIn X.K (.ref f) = true) (hb : KBinds X.K fd ps ks g gV) (hx : Passes CX X E)
    (hkw : PK X kws tk) (hall : (backToKw pos (keywordEach kws X.env)).all (·.1.isSome) = true := by rfl) (hks : (backToKw pos (keywordEach kws X.env)).filterMap (·.1) = ks := by rfl)
    (hdb : (x == ("__debug__" : Str)) = false := by decide) (hpl : ((backTo pos (starEach [] X.env)).any (·.1) || (backToKw pos (keywordEach kws X.env)).any (·.1.isNone)) = false := by rfl) :
    PE X (.Call (.Name x p) [] kws pos) (fun σ H Q => tk σ H fun zs H2 => sp (gV [] zs) H2 Q E) := by
  refine ⟨fun pins s σ H Q I h => ?_⟩
  refine wpAny_Call_Name_kw (ld_glob I hg hm ?_ hdb)
  refine PySem.W.callWith_KW0 (h₀ := X.base) I.ok.mod.kin hk hall (thn (hkw.run pos pins s σ H _ I h) fun ws s2 ⟨zs, H2, I2, rz, q2⟩ => ⟨I2.kIn, ?_⟩) hpl
  rw [hks]
  exact run_fnk (us := []) (vs := []) F hr hb hx I2 .nil rz q2
end
/-! ### what a source is, and what a step leaves -/
/-- a source at s: three ints -/
def Src (H : Hp) (s : Addr) : Prop := ∃ a b c : Int, H s = some (.lst [.int a, .int b, .int c])
theorem Src.ne {H : Hp} {s p : Addr} {o : HO} (h : Src H s) (e : H p = some o) (d : ∀ a b c : Int, o ≠ .lst [.int a, .int b, .int c]) : p ≠ s := by
  obtain ⟨a, b, c, q⟩ := h
  exact ne_of e q (d a b c)
theorem Src.nen {H : Hp} {s p : Addr} (h : Src H s) (e : H p = none) : p ≠ s := by
  obtain ⟨a, b, c, q⟩ := h
  exact (ne_of_none q e).symm
/-- from H to H' all stands but the source at s, which is still one -/
structure Stp (s : Addr) (H H' : Hp) : Prop where
  keep : ∀ b o, b ≠ s → H b = some o → H' b = some o
  src : Src H' s
theorem Stp.refl {s : Addr} {H : Hp} (h : Src H s) : Stp s H H := ⟨fun _ _ _ e => e, h⟩
theorem Stp.trans {s : Addr} {H H1 H2 : Hp} (a : Stp s H H1) (b : Stp s H1 H2) : Stp s H H2 := ⟨fun c o n e => b.keep c o n (a.keep c o n e), b.src⟩
theorem Stp.new {s : Addr} {H H' : Hp} {p : Addr} {o : HO} (a : Stp s H H') (n : H' p = none) : Stp s H (upd H' p o) := by
  obtain ⟨x, y, z, e⟩ := a.src
  refine ⟨fun b u nb eb => ?_, x, y, z, ?_⟩
  · have q := a.keep b u nb eb
    rw [upd_ne (ne_of_none q n)]
    exact q
  · rw [upd_ne (ne_of_none e n)]
    exact e
theorem Stp.turn {s : Addr} {H H' : Hp} (a : Stp s H H') (x y z : Int) : Stp s H (upd H' s (.lst [.int x, .int y, .int z])) :=
  ⟨fun b u nb eb => by rw [upd_ne nb]; exact a.keep b u nb eb, x, y, z, upd_same⟩
theorem Stp.free {s p : Addr} {H H' : Hp} (a : Stp s H H') (n : H' p = none) : H p = none := by
  cases q : H p with
  | none => rfl
  | some o =>
    have np : p ≠ s := a.src.nen n
    rw [a.keep _ _ np q] at n
    cases n
theorem Stp.set {s : Addr} {H H' : Hp} {p : Addr} {o : HO} (a : Stp s H H') (n : H p = none) (np : p ≠ s) : Stp s H (upd H' p o) := by
  obtain ⟨x, y, z, e⟩ := a.src
  refine ⟨fun b u nb eb => ?_, x, y, z, ?_⟩
  · rw [upd_ne (ne_of_none eb n)]
    exact a.keep b u nb eb
  · rw [upd_ne np.symm]
    exact e
/-- a site at t -/
def Sit (H : Hp) (t : Addr) (x y : Int) : Prop := H t = some (.tup [.int x, .int y])
theorem Sit.ne {H : Hp} {s t : Addr} {x y : Int} (h : Sit H t x y) (q : Src H s) : t ≠ s := q.ne h fun _ _ _ z => by cases z
theorem Sit.stp {H H' : Hp} {s t : Addr} {x y : Int} (h : Sit H t x y) (q : Src H s) (a : Stp s H H') : Sit H' t x y := a.keep _ _ (h.ne q) h
theorem Sit.same {H H' : Hp} {t : Addr} {x y : Int} (h : Sit H t x y) (a : Same H H') : Sit H' t x y := a _ _ h

theorem b2i_small (b : Bool) : -(2 ^ 64) < (if b = true then (1 : Int) else 0) ∧ (if b = true then (1 : Int) else 0) < 2 ^ 64 := by cases b <;> decide
theorem sm {m : Int} (h : m.natAbs < 2 ^ 64) : m.natAbs < 2 ^ 8000 := Nat.lt_of_lt_of_le h (Nat.pow_le_pow_right (by decide) (by decide))
theorem Same.upd {H : Hp} {p : Addr} {o : HO} (h : H p = none) : Same H (upd H p o) := fun b x e => by
  rw [upd_ne (ne_of_none e h)]
  exact e
theorem Stp.same {s : Addr} {H H1 H2 : Hp} (a : Stp s H H1) (b : Same H1 H2) : Stp s H H2 := by
  obtain ⟨x, y, z, e⟩ := a.src
  exact ⟨fun c o n q => b _ _ (a.keep c o n q), x, y, z, b _ _ e⟩
/-! ### ** 2 and // of great numbers, of either sign -/
def CSq (i j : Int) : Prop := j = 2 ∧ i.natAbs < 2 ^ 1000
theorem op_sq {X : Cx} : OpR X (binaryOp .Pow) (rI CSq fun i _ => .int (i * i)) := opI fun i j _ _ _ _ _ hc q => by
  obtain ⟨rfl, hb⟩ := hc
  refine pow_int (by decide) ?_ (by rw [show i ^ (2 : Int).toNat = i * i from Int.pow_succ i 1 ▸ by rw [Int.pow_one]]; exact q)
  have b : Builtin.Int.intBits i ≤ i.natAbs.log2 + 1 := by
    unfold Builtin.Int.intBits
    split <;> omega
  have l := PySem.Flt.log2_lt_of (by decide : 0 < 1000) hb
  omega
def CDivE (_ j : Int) : Prop := j ≠ 0 ∧ j.natAbs < 2 ^ 8000
theorem op_fdivE {X : Cx} : OpR X (binaryOp .FloorDiv) (rI CDivE fun i j => .int (i.fdiv j)) := opI fun i j _ _ _ _ _ hc q =>
  floordiv_int hc.1 q (.inl (PyProof.noPylong_of_log2 (Nat.lt_of_lt_of_le (PySem.Flt.log2_lt_of (by decide) hc.2) (by decide))))
/-! ### readings made weaker -/
theorem peOf {X : Cx} {e : Expr} {t t' : TE} (h : PE X e t) (m : ∀ σ H Q, t' σ H Q → t σ H Q) : PE X e t' := ⟨fun pins s σ H Q I hw => h.run pins s σ H Q I (m σ H Q hw)⟩
theorem paOf {X : Cx} {es : List Expr} {t t' : TA} (h : PA X es t) (m : ∀ σ H Q, t' σ H Q → t σ H Q) : PA X es t' := ⟨fun pos pins s σ H Q I hw => h.run pos pins s σ H Q I (m σ H Q hw)⟩
theorem psOf {X : Cx} {st : Stmt} {t t' : TS} (h : PS X st t) (m : ∀ D σ H, t' D σ H → t D σ H) : PS X st t' := ⟨fun pins s σ H D I hw => h.run pins s σ H D I (m D σ H hw)⟩
theorem pssOf {X : Cx} {st : List Stmt} {t t' : TS} (h : PSs X st t) (m : ∀ D σ H, t' D σ H → t D σ H) : PSs X st t' := ⟨fun pins s σ H D I hw => h.run pins s σ H D I (m D σ H hw)⟩
/-- a written number with a minus -/
theorem pe_neg {X : Cx} {i : Int} {j : Nat} {p p2 : Pos} : PE X (.UnaryOp .USub (.Constant (.int i) j p) p2) (tC (.int (-i))) := peOf (pe_un un_neg pe_int) fun _ _ _ h => ⟨_, rfl, h⟩
/-! ### displays of sites -/
def Bd (b x y : Int) : Prop := -b ≤ x ∧ x ≤ b ∧ -b ≤ y ∧ y ≤ b
theorem Bd.mono {b c x y : Int} (h : Bd b x y) (l : b ≤ c) : Bd c x y := by
  obtain ⟨h1, h2, h3, h4⟩ := h
  exact ⟨by omega, by omega, by omega, by omega⟩
/-- every address of ps a site within b -/
def Sits (b : Int) (H : Hp) (ps : List Addr) : Prop := ∀ p ∈ ps, ∃ x y, Sit H p x y ∧ Bd b x y
theorem Sits.same {b : Int} {H H' : Hp} {ps : List Addr} (h : Sits b H ps) (a : Same H H') : Sits b H' ps := fun p m => by
  obtain ⟨x, y, e, d⟩ := h p m
  exact ⟨x, y, a _ _ e, d⟩
theorem Sits.stp {b : Int} {s : Addr} {H H' : Hp} {ps : List Addr} (h : Sits b H ps) (q : Src H s) (a : Stp s H H') : Sits b H' ps := fun p m => by
  obtain ⟨x, y, e, d⟩ := h p m
  exact ⟨x, y, e.stp q a, d⟩
theorem Sits.put {b : Int} {H : Hp} {ps : List Addr} {p : Addr} {o : HO} (h : Sits b H ps) (n : ∀ x y, H p ≠ some (.tup [.int x, .int y])) : Sits b (upd H p o) ps := fun r m => by
  obtain ⟨x, y, e, d⟩ := h r m
  refine ⟨x, y, ?_, d⟩
  show upd H p o r = _
  rw [upd_ne (fun z => n x y (by rw [← z]; exact e))]
  exact e
def tSit (b : Int) : TE := fun _ H Q => ∀ (p : Addr) H' (x y : Int), Same H H' → H p = none → Sit H' p x y → Bd b x y → Q (.ref p) H'
def tSits (b : Int) (n : Nat) : TA := fun _ H Q => ∀ (ps : List Addr) H', Same H H' → ps.length = n → Sits b H' ps → Q (ps.map V.ref) H'
theorem two_line : 2 ≤ sizeLine := by decide
theorem pe_sit {X : Cx} {e1 e2 : Expr} {k : Nat} {pos : Pos} {x y b : Int} (h : PA X [e1, e2] (tCons (tC (.int x)) (tCons (tC (.int y)) tNil))) (hb : Bd b x y) : PE X (.Tuple [e1, e2] k pos) (tSit b) :=
  peOf (pe_tup h) fun _ H Q q => ⟨two_line, fun p np => q p _ x y (Same.upd np) np upd_same hb⟩
theorem sits_nil {b : Int} : ∀ σ H Q, tSits b 0 σ H Q → tNil σ H Q := fun _ H Q q => q [] H (Same.refl _) rfl (fun _ m => nomatch m)
theorem sits_cons {b : Int} {n : Nat} : ∀ σ H Q, tSits b (n + 1) σ H Q → tCons (tSit b) (tSits b n) σ H Q := fun _ H Q q p H1 x y s1 _ e d ps H2 s2 l h => by
  refine q (p :: ps) H2 (s1.trans s2) (by rw [List.length_cons, l]) fun r m => ?_
  rcases List.mem_cons.mp m with rfl | m
  · exact ⟨x, y, s2 _ _ e, d⟩
  · exact h r m
theorem pa_sits0 {X : Cx} {b : Int} : PA X [] (tSits b 0) := paOf pa_nil sits_nil
theorem pa_sits {X : Cx} {e : Expr} {es : List Expr} {b : Int} {n : Nat} (h : PE X e (tSit b)) (hs : PA X es (tSits b n)) (st : starEach (e :: es) X.env = (false, eval e X.env) :: starEach es X.env := by rfl) : PA X (e :: es) (tSits b (n + 1)) := paOf (pa_cons h hs st) sits_cons
end Nc

namespace NcK
open PySem PySem.Spec PyProof.Rows L2 Nc
def topS (i : Nat) : Stmt := PySem.Challenge.pw_nearcells_k01_signs_of_three_sites.main.body.getD i (.Pass ⟨0, 0, 0, 0⟩)
abbrev sSrc : Stmt := topS 12
abbrev sNext : Stmt := topS 13
abbrev sOne : Stmt := topS 14
abbrev sCell : Stmt := topS 15
abbrev sSites : Stmt := topS 16
theorem scSrc : FnScope ["_law_number_here"] ["_law_number_here"] (defScope sSrc) := ⟨rfl, rfl, rfl, by decide +kernel, rfl, by decide +kernel, by decide +kernel⟩
theorem scNext : FnScope ["_law_source", "_law_many", "_law_found", "_law_prime", "_law_number"] ["_law_source", "_law_many"] (defScope sNext) := ⟨rfl, rfl, rfl, by decide +kernel, rfl, by decide +kernel, by decide +kernel⟩
theorem scOne : FnScope ["_law_source", "_law_some"] ["_law_source", "_law_some"] (defScope sOne) := ⟨rfl, rfl, rfl, by decide +kernel, rfl, by decide +kernel, by decide +kernel⟩
theorem scCell : FnScope ["_law_script", "_law_index"] ["_law_script", "_law_index"] (defScope sCell) := ⟨rfl, rfl, rfl, by decide +kernel, rfl, by decide +kernel, by decide +kernel⟩
section
variable {P : Program} {w : World} {K : PySem.W.Frag} {mg : Str → Option Value} {base : Heap}
/-! ### a source of a number -/
def spSrc : Sp := fun vs H Q _ => ∃ n : Int, vs = [.int n] ∧ ∀ p (a b c : Int), H p = none → Q (.ref p) (upd H p (.lst [.int a, .int b, .int c]))
theorem ok_src {f : Addr} {fd : FuncData} {k : Nat} (F : Fun K "_law_source_of" "_law_source_of" sSrc f fd) (mi : mg "int" = none) : FnOk P w K mg base CX0 (k + 1) f fd ["_law_number_here"] spSrc := by
  refine F.ok scSrc (fun vs H Q E h => ?_) (fun cdv A outer s H vs Q E hr h => ?_)
  · obtain ⟨n, rfl, _⟩ := h
    rfl
  · obtain ⟨n, rfl, q⟩ := h
    refine ⟨_, pss_cons (ps_set (i := 0) scSrc.nd rfl (.inl rfl) (pe_ifExp (pt_cmpR op_ge (pv 0) pe_int (nomark _)) (pv 0) (pe_op op_sub (pe_op op_sub pe_int (pe_op op_mul pe_int (pv 0))) pe_int)))
      (pss_one (ps_ret (pe_lst (pa_cons (pe_op op_mul (pv 0) (pe_callTy call_int1 (by rfl) mi (by decide +kernel) (pa_cons (pe_cmpR op_ge (pv 0) (pe_op op_pow pe_int pe_int) (nomark _)) pa_nil)))
        (pa_cons (pe_op op_mod (pe_callTy call_int1 (by rfl) mi (by decide +kernel) (pa_cons (pv 0) pa_nil)) pe_int) (pa_cons pe_int pa_nil)))))), ?_⟩
    refine ⟨_, rfl, _, _, rfl, rfl, _, rfl, ite2 (fun c => ?_) fun c => ?_⟩
    · refine ⟨_, rfl, _, rfl, _, rfl, _, _, rfl, rfl, ⟨by decide, by decide, by decide⟩, _, _, rfl, rfl, .inr ⟨_, rfl, _, _, rfl, rfl, .inr (b2i_small _), ?_⟩⟩
      exact ⟨_, rfl, .inl ⟨_, rfl, _, _, rfl, rfl, (by decide : (0 : Int) < 2147483647), by show 3 ≤ sizeLine; decide, fun p hp => q p _ _ _ hp⟩⟩
    · refine ⟨_, rfl, _, _, rfl, rfl, .inl ⟨by decide, by decide⟩, _, _, rfl, rfl, _, _, rfl, rfl, _, rfl, _, rfl, _, _, rfl, rfl, ⟨by decide, by decide, by decide⟩, _, _, rfl, rfl, .inr ⟨_, rfl, _, _, rfl, rfl, .inr (b2i_small _), ?_⟩⟩
      exact ⟨_, rfl, .inl ⟨_, rfl, _, _, rfl, rfl, (by decide : (0 : Int) < 2147483647), by show 3 ≤ sizeLine; decide, fun p hp => q p _ _ _ hp⟩⟩
end
section
variable {P : Program} {w : World} {K : PySem.W.Frag} {mg : Str → Option Value} {base : Heap}
/-! ### the next draw below many -/
def spNext : Sp := fun vs H Q _ => ∃ (s : Addr) (m : Int), vs = [.ref s, .int m] ∧ Src H s ∧ 0 < m ∧ m.natAbs < 2 ^ 8000 ∧ ∀ (r : Int) H', 0 ≤ r → r < m → Stp s H H' → Q (.int r) H'
theorem ok_next {f : Addr} {fd : FuncData} {k : Nat} (F : Fun K "_law_next" "_law_next" sNext f fd) (mi : mg "int" = none) : FnOk P w K mg base CX0 (k + 1) f fd ["_law_source", "_law_many"] spNext := by
  refine F.ok scNext (fun vs H Q E h => ?_) (fun cdv A outer s H vs Q E hr h => ?_)
  · obtain ⟨s, m, rfl, _⟩ := h
    rfl
  · obtain ⟨s, m, rfl, ⟨a, b, c, hs⟩, hm, hw, q⟩ := h
    have bi : bootBuiltins "int" = some (.type "int") := by decide +kernel
    refine ⟨_, pss_cons (ps_if (pt_cmpR op_gt (pe_ix ix_list (pv 0) pe_int (fun _ _ => rfl)) pe_int (nomark _))
        (pss_cons (ps_set (i := 2) scNext.nd rfl (.inl rfl) (pe_op op_mod (pe_callTy call_int1 (by rfl) mi bi (pa_cons (pe_ix ix_list (pv 0) pe_int (fun _ _ => rfl)) pa_nil)) (pv 1)))
          (pss_cons (ps_asg (pe_op op_fdivW (pe_ix ix_list (pv 0) pe_int (fun _ _ => rfl)) (pv 1)) (pg_sub (pv 0) pe_int set_list)) (pss_one (ps_ret (pv 2))))) pss_nil)
      (pss_cons (ps_asg (pe_op op_add (pe_ix ix_list (pv 0) pe_int (fun _ _ => rfl)) pe_int) (pg_sub (pv 0) pe_int set_list))
      (pss_cons (ps_set (i := 3) scNext.nd rfl (.inl rfl) pe_int)
      (pss_cons (ps_set (i := 4) scNext.nd rfl (.inl rfl) (pe_op op_mod (pe_callTy call_int1 (by rfl) mi bi (pa_cons (pe_op op_add (pe_op op_add (pe_ix ix_list (pv 0) pe_int (fun _ _ => rfl)) (pe_op op_mul pe_int (pe_ix ix_list (pv 0) pe_int (fun _ _ => rfl)))) pe_int) pa_nil)) (pv 3)))
      (pss_cons (ps_set (i := 4) scNext.nd rfl (.inl rfl) (pe_op op_mod (pe_callTy call_int1 (by rfl) mi bi (pa_cons (pe_op op_mul (pv 4) pe_int) pa_nil)) (pv 3)))
      (pss_cons (ps_set (i := 4) scNext.nd rfl (.inl rfl) (pe_op op_mod (pe_callTy call_int1 (by rfl) mi bi (pa_cons (pe_op op_mul (pv 4) (pe_op op_add (pe_op op_fdiv (pv 4) pe_int) pe_int)) pa_nil)) (pv 3)))
      (pss_cons (ps_set (i := 4) scNext.nd rfl (.inl rfl) (pe_op op_mod (pe_callTy call_int1 (by rfl) mi bi (pa_cons (pe_op op_mul (pv 4) (pe_op op_add (pe_op op_fdiv (pv 4) pe_int) pe_int)) pa_nil)) pe_int))
      (pss_one (ps_ret (pe_op op_mod (pe_callTy call_int1 (by rfl) mi bi (pa_cons (pe_op op_fdiv (pv 4) pe_int) pa_nil)) (pv 1)))))))))), ?_⟩
    have at0 : ∀ x y z : V, atI [x, y, z] 0 = some x := fun _ _ _ => rfl
    refine ⟨_, rfl, s, _, _, _, rfl, rfl, SqL.of hs, at0 _ _ _, _, _, rfl, rfl, _, rfl, ite2 (fun g => ?_) fun g => ?_⟩
    · refine ⟨_, rfl, s, _, _, _, rfl, rfl, SqL.of hs, at0 _ _ _, .inl ⟨_, rfl, _, rfl, _, _, rfl, rfl, hm, ?_⟩⟩
      refine ⟨_, rfl, s, _, _, _, rfl, rfl, SqL.of hs, at0 _ _ _, _, rfl, _, _, rfl, rfl, wide_div hm hw (by decide) (by decide), ?_⟩
      refine ⟨_, rfl, s, _, 0, 0, rfl, rfl, hs, rfl, ?_⟩
      exact ⟨_, rfl, q _ _ (Int.emod_nonneg _ (Int.ne_of_gt hm)) (Int.emod_lt_of_pos _ hm) ((Stp.refl ⟨a, b, c, hs⟩).turn _ _ _)⟩
    · refine ⟨_, rfl, s, _, _, _, rfl, rfl, SqL.of hs, rfl, _, _, rfl, rfl, ?_⟩
      refine ⟨_, rfl, s, _, 2, 2, rfl, rfl, hs, rfl, ?_⟩
      have h2 : (upd H s (.lst [.int a, .int b, .int (c + 1)])) s = some (.lst [.int a, .int b, .int (c + 1)]) := upd_same
      refine ⟨_, rfl, s, _, _, _, rfl, rfl, SqL.of h2, rfl, _, rfl, s, _, _, _, rfl, rfl, SqL.of h2, rfl, _, _, rfl, rfl, .inl ⟨by decide, by decide⟩, _, _, rfl, rfl, _, _, rfl, rfl, .inl ⟨_, rfl, ?_⟩⟩
      have hp : (0 : Int) < 2147483647 := by decide
      refine ⟨_, rfl, _, _, rfl, rfl, hp, ?_⟩
      refine ⟨_, rfl, _, _, rfl, rfl, .inr ⟨by decide, by decide⟩, .inl ⟨_, rfl, _, rfl, _, _, rfl, rfl, hp, ?_⟩⟩
      have b1 : 0 ≤ (b + 104729 * (c + 1) + 7919) % 2147483647 * 48271 % 2147483647 := Int.emod_nonneg _ (Int.ne_of_gt hp)
      have b2 : (b + 104729 * (c + 1) + 7919) % 2147483647 * 48271 % 2147483647 < 2147483647 := Int.emod_lt_of_pos _ hp
      generalize (b + 104729 * (c + 1) + 7919) % 2147483647 * 48271 % 2147483647 = n1 at b1 b2
      refine ⟨_, rfl, _, rfl, _, _, rfl, rfl, ⟨by decide, by decide⟩, _, _, rfl, rfl, _, _, rfl, rfl, .inl ⟨by omega, by omega⟩, .inl ⟨_, rfl, _, rfl, _, _, rfl, rfl, hp, ?_⟩⟩
      have c1 : 0 ≤ n1 * (n1 / 1009 + 69621) % 2147483647 := Int.emod_nonneg _ (Int.ne_of_gt hp)
      have c2 : n1 * (n1 / 1009 + 69621) % 2147483647 < 2147483647 := Int.emod_lt_of_pos _ hp
      generalize n1 * (n1 / 1009 + 69621) % 2147483647 = n2 at c1 c2
      refine ⟨_, rfl, _, rfl, _, _, rfl, rfl, ⟨by decide, by decide⟩, _, _, rfl, rfl, _, _, rfl, rfl, .inl ⟨by omega, by omega⟩, .inl ⟨_, rfl, _, _, rfl, rfl, (by decide : (0 : Int) < 2147483399), ?_⟩⟩
      refine ⟨_, rfl, _, _, rfl, rfl, ⟨by decide, by decide⟩, .inl ⟨_, rfl, _, rfl, _, _, rfl, rfl, hm, ?_⟩⟩
      exact q _ _ (Int.emod_nonneg _ (Int.ne_of_gt hm)) (Int.emod_lt_of_pos _ hm) ((Stp.refl ⟨a, b, c, hs⟩).turn _ _ _)
/-! ### one of some -/
/-- the source at s, some: a list of xs (another object than the source): one of xs -/
def spOne (K : PySem.W.Frag) : Sp := fun vs H Q _ => ∃ (s l : Addr) (xs : List V), vs = [.ref s, .ref l] ∧ Src H s ∧ H l = some (.lst xs) ∧ l ≠ s ∧ 0 < xs.length ∧ xs.length ≤ 1000 ∧ ∀ x H', x ∈ xs → Stp s H H' → Q x H'
theorem ok_one {f fN : Addr} {fd fdN : FuncData} {k : Nat} (F : Fun K "_law_one" "_law_one" sOne f fd) (GN : FnOk P w K mg base CX0 (k + 1) fN fdN ["_law_source", "_law_many"] spNext) (gN : mg "_law_next" = some (.ref fN)) (kN : PySem.W.keepIn K (.ref fN) = true) (bN : Binds K fdN ["_law_source", "_law_many"] [])
    (ml : mg "len" = none) : FnOk P w K mg base CX0 (k + 2) f fd ["_law_source", "_law_some"] (spOne K) := by
  refine F.ok scOne (fun vs H Q E h => ?_) (fun cdv A outer s H vs Q E hr h => ?_)
  · obtain ⟨s, l, xs, rfl, _⟩ := h
    rfl
  · obtain ⟨s, l, xs, rfl, hs, hl, hne, h0, h1, q⟩ := h
    refine ⟨_, pss_one (ps_ret (pe_ix ix_list (pv 1) (pe_call GN hr (by rfl) gN kN bN .nil pass0 (pa_cons (pv 0) (pa_cons (pe_callB call_len_seq (by rfl) ml (by decide +kernel) (pa_cons (pv 1) pa_nil)) pa_nil))) (fun _ _ => rfl))), ?_⟩
    refine ⟨_, rfl, _, rfl, _, rfl, l, xs, rfl, .inl (SqL.of hl), ?_⟩
    have small : ((xs.length : Nat) : Int).natAbs < 2 ^ 8000 := by
      rw [Int.natAbs_natCast]
      exact Nat.lt_of_le_of_lt h1 (Nat.lt_of_lt_of_le (by decide : 1000 < 2 ^ 10) (Nat.pow_le_pow_right (by decide) (by decide)))
    refine ⟨s, xs.length, rfl, hs, by omega, small, fun r H' r0 r1 st => ?_⟩
    have hl' := st.keep l _ hne hl
    have hr : r.toNat < xs.length := by omega
    have at1 : atI xs r = some xs[r.toNat] := by
      have z := atI_nat (List.getElem?_eq_getElem hr)
      rwa [Int.toNat_of_nonneg r0] at z
    exact ⟨l, xs, r, _, rfl, rfl, SqL.of hl', at1, q _ _ (List.getElem_mem hr) st⟩
/-! ### a cell of the script, 0 beyond its end -/
def spCell (K : PySem.W.Frag) : Sp := fun vs H Q _ => ∃ (a : Addr) (ns : List Int), vs = [.ref a, .int 0] ∧ SqL K H a (ns.map V.int) ∧ ns.length ≤ 1000 ∧ ∀ (n : Int) H', Same H H' → Q (.int n) H'
theorem ok_cell {f : Addr} {fd : FuncData} {k : Nat} (F : Fun K "_law_cell_at" "_law_cell_at" sCell f fd) : FnOk P w K mg base CX0 (k + 1) f fd ["_law_script", "_law_index"] (spCell K) := by
  refine F.ok scCell (fun vs H Q E h => ?_) (fun cdv A outer s H vs Q E hr h => ?_)
  · obtain ⟨a, ns, rfl, _⟩ := h
    rfl
  · obtain ⟨a, ns, rfl, hS, hlen, q⟩ := h
    refine ⟨_, pss_one (ps_ret (pe_ix ix_list (pe_op op_cat (pe_slice sl_list (pv 0) (po_some (pv 1)) (po_some (pe_op op_add (pv 1) pe_int))) (pe_lst (pa_cons pe_int pa_nil))) pe_int (fun _ _ => rfl))), ?_⟩
    refine ⟨_, rfl, _, rfl, _, rfl, _, rfl, _, _, rfl, rfl, _, rfl, a, ns.map V.int, rfl, hS, fun p np => ?_⟩
    refine ⟨by show 1 ≤ sizeLine; decide, fun p2 np2 => ?_⟩
    have e1 : (upd (upd H p (.lst (cutV (ns.map V.int) (some 0) (some (0 + 1))))) p2 (.lst [.int 0])) p = some (.lst (cutV (ns.map V.int) (some 0) (some (0 + 1)))) := by
      rw [upd_ne (ne_of_none upd_same np2)]
      exact upd_same
    have len : (cutV (ns.map V.int) (some 0) (some (0 + 1))).length ≤ ns.length := by
      have z := cutV_length (ns.map V.int) (some 0) (some (0 + 1))
      rwa [List.length_map] at z
    refine ⟨p, p2, _, _, rfl, rfl, e1, upd_same, ?_, fun p3 np3 => ?_⟩
    · refine Nat.le_trans (Nat.add_le_add_right (Nat.le_trans len hlen) _) (by decide)
    · obtain ⟨n, en⟩ : ∃ n : Int, (cutV (ns.map V.int) (some 0) (some (0 + 1)) ++ [V.int 0])[0]? = some (V.int n) := by
        unfold cutV
        rw [← List.map_drop, ← List.map_take]
        cases (List.take (HT.sIx (ns.map V.int).length (ns.map V.int).length (some (0 + 1)) - HT.sIx (ns.map V.int).length 0 (some 0)) (List.drop (HT.sIx (ns.map V.int).length 0 (some 0)) ns)) with
        | nil => exact ⟨0, rfl⟩
        | cons x r => exact ⟨x, rfl⟩
      refine ⟨p3, _, 0, .int n, rfl, rfl, SqL.of upd_same, atI_nat (j := 0) en, q n _ ?_⟩
      exact ((Same.upd np).trans (Same.upd np2)).trans (Same.upd np3)
end
/-! ### drawn sites -/
theorem scSites : FnScope ["_law_source", "_law_most", "_law_round_one", "_law_way", "_law_found", "_law_u", "_law_v", "_law_k", "_law_site", "_law_x", "_law_y"] ["_law_source", "_law_most"] (defScope sSites) := ⟨rfl, rfl, rfl, by decide +kernel, rfl, by decide +kernel, by decide +kernel⟩
section
variable {P : Program} {w : World} {K : PySem.W.Frag} {mg : Str → Option Value} {base : Heap}
/-- the source at s, a new list of sites, at least one, at most as many as are asked -/
def spSites : Sp := fun vs H Q _ => ∃ (s : Addr) (most : Int), vs = [.ref s, .int most] ∧ Src H s ∧ 0 < most ∧ most ≤ 1000 ∧
  ∀ (p : Addr) (ts : List Addr) H', Stp s H H' → H p = none → H' p = some (.lst (ts.map V.ref)) → 0 < ts.length → (ts.length : Int) ≤ most → Sits 1000000 H' ts → Q (.ref p) H'
/-- within the loop: what stands -/
structure SL (s R d : Addr) (rs : List Addr) (H H' : Hp) (kvs : List (List Key × V)) : Prop where
  st : Stp s H H'
  nR : H R = none
  nd : H d = none
  lR : H' R = some (.lst (rs.map V.ref))
  sR : Sits 5 H' rs
  dd : H' d = some (.dT kvs)
  kk : ∀ kv ∈ kvs, ∃ x y : Int, kv.1 = [Sum.inl x, Sum.inl y] ∧ Bd 999000 x y
theorem put_keys {kvs : List (List Key × V)} {x y : Int} {v : V} (h : ∀ kv ∈ kvs, ∃ x y : Int, kv.1 = [Sum.inl x, Sum.inl y] ∧ Bd 999000 x y) (b : Bd 999000 x y) : ∀ kv ∈ putK kvs [Sum.inl x, Sum.inl y] v, ∃ x y : Int, kv.1 = [Sum.inl x, Sum.inl y] ∧ Bd 999000 x y := by
  intro kv m
  unfold putK at m
  split at m
  · obtain ⟨u, mu, e⟩ := List.mem_map.mp m
    obtain ⟨x', y', e1, b1⟩ := h u mu
    refine ⟨x', y', ?_, b1⟩
    rw [← e]
    split
    · exact e1
    · exact e1
  · rcases List.mem_append.mp m with m | m
    · exact h kv m
    · have e := List.mem_singleton.mp m
      subst e
      exact ⟨x, y, rfl, b⟩
theorem put_pos {kvs : List (List Key × V)} {k : List Key} {v : V} : 0 < (putK kvs k v).length := by
  unfold putK
  split
  · rename_i h
    rw [List.length_map]
    cases kvs with
    | nil => cases h
    | cons a r => exact Nat.zero_lt_succ _
  · rw [List.length_append]
    exact Nat.lt_of_lt_of_le (Nat.zero_lt_succ _) (Nat.le_add_left _ _)
theorem SL.step {s R d : Addr} {rs : List Addr} {H H1 H2 : Hp} {kvs : List (List Key × V)} (h : SL s R d rs H H1 kvs) (q : Src H s) (a : Stp s H1 H2) : SL s R d rs H H2 kvs :=
  ⟨h.st.trans a, h.nR, h.nd, a.keep _ _ (q.nen h.nR) h.lR, h.sR.stp h.st.src a, a.keep _ _ (q.nen h.nd) h.dd, h.kk⟩
theorem ok_sites {f fN fO : Addr} {fd fdN fdO : FuncData} {k : Nat} (F : Fun K "_law_sites" "_law_sites" sSites f fd)
    (GN : FnOk P w K mg base CX0 (k + 1) fN fdN ["_law_source", "_law_many"] spNext) (gN : mg "_law_next" = some (.ref fN)) (kN : PySem.W.keepIn K (.ref fN) = true) (bN : Binds K fdN ["_law_source", "_law_many"] [])
    (GO : FnOk P w K mg base CX0 (k + 2) fO fdO ["_law_source", "_law_some"] (spOne K)) (gO : mg "_law_one" = some (.ref fO)) (kO : PySem.W.keepIn K (.ref fO) = true) (bO : Binds K fdO ["_law_source", "_law_some"] [])
    (mr : mg "range" = none) : FnOk P w K mg base CX0 (k + 3) f fd ["_law_source", "_law_most"] spSites := by
  refine F.ok scSites (fun vs H Q E h => ?_) (fun cdv A outer s H vs Q E hr h => ?_)
  · obtain ⟨s, m, rfl, _⟩ := h
    rfl
  · obtain ⟨s, most, rfl, hs, m0, m1, q⟩ := h
    have hr1 : Room (k + 1) _ := hr.mono (by omega)
    have nd := scSites.nd
    have bd : ∀ {x y : Int}, x.natAbs ≤ 5 → y.natAbs ≤ 5 → Bd 5 x y := fun h1 h2 => ⟨by omega, by omega, by omega, by omega⟩
    refine ⟨_, pss_cons (ps_set (i := 2) nd rfl (.inl rfl) (pe_lst
        (pa_sits (pe_sit (b := 5) (pa_cons pe_int (pa_cons pe_int pa_nil)) (bd (by decide) (by decide)))
        (pa_sits (pe_sit (b := 5) (pa_cons pe_int (pa_cons pe_int pa_nil)) (bd (by decide) (by decide)))
        (pa_sits (pe_sit (b := 5) (pa_cons pe_int (pa_cons pe_int pa_nil)) (bd (by decide) (by decide)))
        (pa_sits (pe_sit (b := 5) (pa_cons pe_int (pa_cons pe_int pa_nil)) (bd (by decide) (by decide)))
        (pa_sits (pe_sit (b := 5) (pa_cons pe_neg (pa_cons pe_int pa_nil)) (bd (by decide) (by decide)))
        (pa_sits (pe_sit (b := 5) (pa_cons pe_neg (pa_cons pe_int pa_nil)) (bd (by decide) (by decide)))
        (pa_sits (pe_sit (b := 5) (pa_cons pe_neg (pa_cons pe_int pa_nil)) (bd (by decide) (by decide)))
        (pa_sits (pe_sit (b := 5) (pa_cons pe_neg (pa_cons pe_neg pa_nil)) (bd (by decide) (by decide))) pa_sits0))))))))))
      (pss_cons (ps_set (i := 2) nd rfl (.inl rfl) (pe_op op_cat (pv 2) (pe_lst
        (pa_sits (pe_sit (b := 5) (pa_cons pe_neg (pa_cons pe_neg pa_nil)) (bd (by decide) (by decide)))
        (pa_sits (pe_sit (b := 5) (pa_cons pe_int (pa_cons pe_neg pa_nil)) (bd (by decide) (by decide)))
        (pa_sits (pe_sit (b := 5) (pa_cons pe_int (pa_cons pe_neg pa_nil)) (bd (by decide) (by decide)))
        (pa_sits (pe_sit (b := 5) (pa_cons pe_int (pa_cons pe_neg pa_nil)) (bd (by decide) (by decide))) pa_sits0)))))))
      (pss_cons (ps_par (i := 3) (j := 4) (by rfl) nd rfl rfl (by decide) rfl rfl (pa_cons (pe_call GN hr1 (by rfl) gN kN bN .nil pass0 (pa_cons (pv 0) (pa_cons pe_int pa_nil))) (pa_cons pe_dnewT pa_nil)) (by rfl))
      (pss_cons (ps_asg (pe_tup (pa_cons (pe_op op_sub (pe_call GN hr1 (by rfl) gN kN bN .nil pass0 (pa_cons (pv 0) (pa_cons pe_int pa_nil))) pe_int) (pa_cons (pe_op op_sub (pe_call GN hr1 (by rfl) gN kN bN .nil pass0 (pa_cons (pv 0) (pa_cons pe_int pa_nil))) pe_int) pa_nil)))
          (pg_tup (by rfl) (pgs_cons (pg_name (i := 5) nd rfl (.inr rfl)) (pgs_cons (pg_name (i := 6) nd rfl (.inr rfl)) pgs_nil))))
      (C8.pss_cut (ps_for PassesOwn.never rfl (pi_range1 (by rfl) mr (pa_cons (pe_op op_add pe_int (pe_call GN hr1 (by rfl) gN kN bN .nil pass0 (pa_cons (pv 0) (pa_cons (pv 1) pa_nil)))) pa_nil)) (pg_name (i := 7) nd rfl (.inl rfl))
          (pss_cons (ps_set (i := 8) nd rfl (.inl rfl) (pe_tup (pa_cons (pe_call GN hr1 (by rfl) gN kN bN .nil pass0 (pa_cons (pv 0) (pa_cons pe_int pa_nil))) (pa_cons (pe_call GN hr1 (by rfl) gN kN bN .nil pass0 (pa_cons (pv 0) (pa_cons pe_int pa_nil))) pa_nil))))
          (C8.pss_cut (ps_if (PW.pt (pw_and (pt_cmpR op_eq (pv 3) pe_int (nomark _)) (pw_and1 (pt_cmpR op_gt (pe_call GN hr1 (by rfl) gN kN bN .nil pass0 (pa_cons (pv 0) (pa_cons pe_int pa_nil))) pe_int (nomark _)))))
              (pss_one (ps_set (i := 8) nd rfl (.inl rfl) (pe_call GO hr (by rfl) gO kO bO .nil pass0 (pa_cons (pv 0) (pa_cons (pv 2) pa_nil))))) pss_nil)
          (C8.pss_cut (ps_if (pt_cmpR op_eq (pv 3) pe_int (nomark _))
              (pss_one (ps_set (i := 8) nd rfl (.inl rfl) (pe_tup (pa_cons (pe_op op_mul (pe_call GN hr1 (by rfl) gN kN bN .nil pass0 (pa_cons (pv 0) (pa_cons pe_int pa_nil))) pe_int)
                (pa_cons (pe_op op_mul (pe_call GN hr1 (by rfl) gN kN bN .nil pass0 (pa_cons (pv 0) (pa_cons pe_int pa_nil))) (pe_call GN hr1 (by rfl) gN kN bN .nil pass0 (pa_cons (pv 0) (pa_cons pe_int pa_nil)))) pa_nil))))) pss_nil)
          (C8.pss_cut (ps_if (pt_cmpR op_eq (pv 3) pe_int (nomark _))
              (pss_one (ps_set (i := 8) nd rfl (.inl rfl) (pe_tup (pa_cons (pe_op op_sub (pe_call GN hr1 (by rfl) gN kN bN .nil pass0 (pa_cons (pv 0) (pa_cons pe_int pa_nil))) pe_int)
                (pa_cons (pe_op op_sub (pe_call GN hr1 (by rfl) gN kN bN .nil pass0 (pa_cons (pv 0) (pa_cons pe_int pa_nil))) pe_int) pa_nil))))) pss_nil)
          (C8.pss_cut (ps_if (pt_cmpR op_eq (pv 3) pe_int (nomark _))
              (pss_one (ps_set (i := 8) nd rfl (.inl rfl) (pe_tup (pa_cons (pe_op op_sub (pe_call GN hr1 (by rfl) gN kN bN .nil pass0 (pa_cons (pv 0) (pa_cons pe_int pa_nil))) pe_int)
                (pa_cons (pe_op op_sub (pe_call GN hr1 (by rfl) gN kN bN .nil pass0 (pa_cons (pv 0) (pa_cons pe_int pa_nil))) pe_int) pa_nil))))) pss_nil)
          (pss_one (ps_dput (hu_of hr) (pv 4) (pv 8) pe_bl rfl))))))))
      (pss_one (ps_ret (pe_lock (pe_lc (own := [("_law_x", 9), ("_law_y", 10)]) (g := gTup K 2 (gCons (gName 9) (gCons (gName 10) gNil))) (tt := tYes) (te := tTup (tCons (tOp (rI0 fun i j => .int (i + j)) (tVar 9) (tVar 5)) (tCons (tOp (rI0 fun i j => .int (i + j)) (tVar 10) (tVar 6)) tNil))) rfl nd (pi_keys (pv 4)) (blkOk_by (own := [("_law_x", 9), ("_law_y", 10)]) (N := ["_law_source", "_law_most", "_law_round_one", "_law_way", "_law_found", "_law_u", "_law_v", "_law_k", "_law_site", "_law_x", "_law_y"]) (sc := defScope sSites) (by decide +kernel))
          (fun _ _ _ _ _ => by exact pg_tup rfl (pgs_cons (pg_name (i := 9) nd rfl (.inl rfl)) (pgs_cons (pg_name (i := 10) nd rfl (.inl rfl)) pgs_nil)))
          (fun _ _ _ _ _ => pts_nil)
          (fun _ _ _ _ _ => by exact pe_tup (pa_cons (pe_op op_add (pv 9) (pv 5)) (pa_cons (pe_op op_add (pv 10) (pv 6)) pa_nil))))))))))), ?_⟩
    -- the round ones
    refine fun ps1 H1 sm1 l1 st1 => ⟨by rw [List.length_map, l1]; decide, fun p1 np1 => ?_⟩
    have e1 : (upd H1 p1 (.lst (ps1.map V.ref))) p1 = some (.lst (ps1.map V.ref)) := upd_same
    have s1 : Same H (upd H1 p1 (.lst (ps1.map V.ref))) := sm1.trans (Same.upd np1)
    have t1 : Sits 5 (upd H1 p1 (.lst (ps1.map V.ref))) ps1 := st1.same (Same.upd np1)
    generalize upd H1 p1 (.lst (ps1.map V.ref)) = G1 at e1 s1 t1
    refine ⟨_, rfl, fun ps2 H2 sm2 l2 st2 => ⟨by rw [List.length_map, l2]; decide, fun p2 np2 => ?_⟩⟩
    have s2 : Same G1 (upd H2 p2 (.lst (ps2.map V.ref))) := sm2.trans (Same.upd np2)
    have e2 : (upd H2 p2 (.lst (ps2.map V.ref))) p2 = some (.lst (ps2.map V.ref)) := upd_same
    have t2 : Sits 5 (upd H2 p2 (.lst (ps2.map V.ref))) (ps1 ++ ps2) := fun r m => by
      rcases List.mem_append.mp m with m | m
      · exact (t1.same s2) r m
      · exact (st2.same (Same.upd np2)) r m
    have n2 : ∀ p, (upd H2 p2 (.lst (ps2.map V.ref))) p = none → H p = none := fun p e => (s1.trans s2).free e
    have s2' := s1.trans s2
    generalize upd H2 p2 (.lst (ps2.map V.ref)) = G2 at s2 e2 t2 n2 s2'
    refine ⟨p1, p2, _, _, rfl, rfl, s2 _ _ e1, e2, by rw [List.length_map, List.length_map, l1, l2]; decide, fun R nR => ?_⟩
    have eR : (upd G2 R (.lst (ps1.map V.ref ++ ps2.map V.ref))) R = some (.lst ((ps1 ++ ps2).map V.ref)) := by
      rw [List.map_append]
      exact upd_same
    have tR : Sits 5 (upd G2 R (.lst (ps1.map V.ref ++ ps2.map V.ref))) (ps1 ++ ps2) := t2.same (Same.upd nR)
    have sR : Stp s H (upd G2 R (.lst (ps1.map V.ref ++ ps2.map V.ref))) := (Stp.refl hs).same (s2'.trans (Same.upd nR))
    have lR : (ps1 ++ ps2).length = 12 := by rw [List.length_append, l1, l2]
    have nRH := n2 R nR
    generalize upd G2 R (.lst (ps1.map V.ref ++ ps2.map V.ref)) = G3 at eR tR sR
    generalize ps1 ++ ps2 = rs at eR tR lR
    -- way, found
    refine ⟨_, rfl, s, 5, rfl, sR.src, by decide, sm (by decide), fun w H4 w0 w1 st4 d nd4 => ⟨_, _, rfl, ?_⟩⟩
    have hRs : R ≠ s := hs.nen nRH
    have st04 := sR.trans st4
    have keep4 := st4.keep _ _ hRs eR
    have eR4 : (upd H4 d (.dT [])) R = some (.lst (rs.map V.ref)) := by
      rw [upd_ne (ne_of_none keep4 nd4)]
      exact keep4
    have sl4 : SL s R d rs H (upd H4 d (.dT [])) [] :=
      ⟨st04.new nd4, nRH, st04.free nd4, eR4, (tR.stp sR.src st4).same (Same.upd nd4), upd_same, fun _ m => nomatch m⟩
    generalize upd H4 d (.dT []) = G4 at sl4
    -- u, v
    refine ⟨_, rfl, s, 2001, rfl, sl4.st.src, by decide, sm (by decide), fun u0 H5 u1 u2 st5 => ⟨_, _, rfl, rfl, _, rfl, s, 2001, rfl, st5.src, by decide, sm (by decide), fun v0 H6 v1 v2 st6 => ⟨_, _, rfl, rfl, two_line, fun p4 np4 => ?_⟩⟩⟩
    have sl6 := ((sl4.step hs st5).step hs st6).step hs ((Stp.refl st6.src).new (o := .tup [.int (u0 - 1000), .int (v0 - 1000)]) np4)
    refine ⟨p4, _, rfl, SqT.of upd_same, rfl, _, _, rfl, _, _, rfl, rfl, ?_⟩
    generalize upd H6 p4 (.tup [.int (u0 - 1000), .int (v0 - 1000)]) = G6 at sl6
    refine ⟨fun σ' H' => ∃ y7 y8 kvs, σ' = [some (.ref s), some (.int most), some (.ref R), some (.int w), some (.ref d), some (.int (u0 - 1000)), some (.int (v0 - 1000)), y7, y8, none, none] ∧ SL s R d rs H H' kvs ∧ 0 < kvs.length ∧ (kvs.length : Int) ≤ most, ?_, ?_⟩
    · -- the loop
      refine ⟨_, rfl, _, rfl, s, most, rfl, sl6.st.src, m0, sm (by omega), fun n H7 n0 n1 st7 => ⟨_, _, rfl, rfl, _, rfl, by omega, by omega, ?_⟩⟩
      have sl7 := sl6.step hs st7
      refine for_range (lo := 0) (n := (1 + n).toNat) (fun i σ' H' => ∃ y7 y8 kvs, σ' = [some (.ref s), some (.int most), some (.ref R), some (.int w), some (.ref d), some (.int (u0 - 1000)), some (.int (v0 - 1000)), y7, y8, none, none] ∧ SL s R d rs H H' kvs ∧ (0 < i → 0 < kvs.length) ∧ kvs.length ≤ i)
        ⟨none, none, [], rfl, sl7, fun z => absurd z (Nat.lt_irrefl _), Nat.le_refl _⟩ ?_ ?_
      · rintro i σ' H' hi ⟨y7, y8, kvs, rfl, sl, c1, c2⟩
        refine ⟨_, rfl, s, 4, rfl, sl.st.src, by decide, sm (by decide), fun a Ha a0 a1 sta => ⟨_, rfl, s, 4, rfl, sta.src, by decide, sm (by decide), fun b Hb b0 b1 stb => ⟨two_line, fun t nt => ?_⟩⟩⟩
        have sl1 := ((sl.step hs sta).step hs stb).step hs ((Stp.refl stb.src).new (o := .tup [.int a, .int b]) nt)
        have e1 : Sit (upd Hb t (.tup [.int a, .int b])) t a b := upd_same
        have d1 : Bd 999000 a b := ⟨by omega, by omega, by omega, by omega⟩
        generalize upd Hb t (.tup [.int a, .int b]) = Hc at sl1 e1
        -- between the ifs
        let M : L2.St → Hp → Prop := fun σ' H' => ∃ (t : Addr) (x y : Int), σ' = [some (V.ref s), some (V.int most), some (V.ref R), some (V.int w), some (V.ref d), some (V.int (u0 - 1000)), some (V.int (v0 - 1000)), some (V.int (0 + i)), some (V.ref t), none, none] ∧ SL s R d rs H H' kvs ∧ Sit H' t x y ∧ Bd 999000 x y
        have m1 : M [some (V.ref s), some (V.int most), some (V.ref R), some (V.int w), some (V.ref d), some (V.int (u0 - 1000)), some (V.int (v0 - 1000)), some (V.int (0 + i)), some (V.ref t), none, none] Hc := ⟨t, a, b, rfl, sl1, e1, d1⟩
        refine ⟨M, ⟨_, rfl, rfl, _, rfl, ?_⟩, ?_⟩
        · refine ite2 (fun _ => ?_) (fun _ => m1)
          refine ⟨_, rfl, s, 4, rfl, sl1.st.src, by decide, sm (by decide), fun a Ha a0 a1 sta => ⟨_, _, rfl, rfl, _, rfl, ite2 (fun _ => ?_) fun _ => ⟨t, _, _, rfl, sl1.step hs sta, e1.stp sl1.st.src sta, d1⟩⟩⟩
          have sl2 := sl1.step hs sta
          refine ⟨_, rfl, _, rfl, s, R, _, rfl, sl2.st.src, sl2.lR, hRs, by rw [List.length_map, lR]; decide, by rw [List.length_map, lR]; decide, fun x H' mx st => ?_⟩
          obtain ⟨r, mr', rfl⟩ := List.mem_map.mp mx
          obtain ⟨x, y, er, dr⟩ := sl2.sR r mr'
          exact ⟨r, x, y, rfl, sl2.step hs st, er.stp sl2.st.src st, dr.mono (by decide)⟩
        rintro σ' H' ⟨t, x, y, rfl, sl, et, dt⟩
        -- the others
        refine ⟨M, ⟨_, rfl, rfl, _, rfl, ite2 (fun _ => ?_) fun _ => ⟨t, x, y, rfl, sl, et, dt⟩⟩, ?_⟩
        · refine ⟨_, rfl, s, 9, rfl, sl.st.src, by decide, sm (by decide), fun a Ha a0 a1 sta => ⟨_, _, rfl, rfl, .inr ⟨by decide, by decide⟩, _, rfl, s, 9, rfl, sta.src, by decide, sm (by decide), fun b Hb b0 b1 stb => ?_⟩⟩
          refine ⟨_, rfl, s, 2, rfl, stb.src, by decide, sm (by decide), fun c Hd c0 c1 stc => ⟨_, _, rfl, rfl, .inr ⟨by omega, by omega⟩, two_line, fun t nt => ?_⟩⟩
          refine ⟨t, _, _, rfl, (((sl.step hs sta).step hs stb).step hs stc).step hs ((Stp.refl stc.src).new nt), upd_same, ?_⟩
          have hc : c = 0 ∨ c = 1 := by omega
          rcases hc with rfl | rfl
          · exact ⟨by omega, by omega, by omega, by omega⟩
          · exact ⟨by omega, by omega, by omega, by omega⟩
        rintro σ' H' ⟨t, x, y, rfl, sl, et, dt⟩
        refine ⟨M, ⟨_, rfl, rfl, _, rfl, ite2 (fun _ => ?_) fun _ => ⟨t, x, y, rfl, sl, et, dt⟩⟩, ?_⟩
        · refine ⟨_, rfl, s, 41, rfl, sl.st.src, by decide, sm (by decide), fun a Ha a0 a1 sta => ⟨_, _, rfl, rfl, _, rfl, s, 41, rfl, sta.src, by decide, sm (by decide), fun b Hb b0 b1 stb => ⟨_, _, rfl, rfl, two_line, fun t nt => ?_⟩⟩⟩
          exact ⟨t, _, _, rfl, ((sl.step hs sta).step hs stb).step hs ((Stp.refl stb.src).new nt), upd_same, by omega, by omega, by omega, by omega⟩
        rintro σ' H' ⟨t, x, y, rfl, sl, et, dt⟩
        refine ⟨M, ⟨_, rfl, rfl, _, rfl, ite2 (fun _ => ?_) fun _ => ⟨t, x, y, rfl, sl, et, dt⟩⟩, ?_⟩
        · refine ⟨_, rfl, s, 1998001, rfl, sl.st.src, by decide, sm (by decide), fun a Ha a0 a1 sta => ⟨_, _, rfl, rfl, _, rfl, s, 1998001, rfl, sta.src, by decide, sm (by decide), fun b Hb b0 b1 stb => ⟨_, _, rfl, rfl, two_line, fun t nt => ?_⟩⟩⟩
          exact ⟨t, _, _, rfl, ((sl.step hs sta).step hs stb).step hs ((Stp.refl stb.src).new nt), upd_same, by omega, by omega, by omega, by omega⟩
        rintro σ' H' ⟨t, x, y, rfl, sl, et, dt⟩
        -- found[site] = True
        have nds : d ≠ s := hs.nen sl.nd
        have hlen : kvs.length < sizeLine := Nat.lt_of_lt_of_le (Nat.lt_of_le_of_lt c2 hi) (Nat.le_trans (by omega) (by decide : 1000 ≤ sizeLine))
        refine ⟨_, rfl, _, rfl, d, _, rfl, DPut.t (k := [Sum.inl x, Sum.inl y]) sl.dd et hlen, ?_⟩
        refine ⟨_, _, _, rfl, ⟨sl.st.set sl.nd nds, sl.nR, sl.nd, ?_, sl.sR.put fun x y z => ?_, upd_same, put_keys sl.kk dt⟩, fun _ => put_pos, ?_⟩
        · rw [upd_ne (ne_of sl.lR sl.dd (by intro z; cases z))]
          exact sl.lR
        · rw [sl.dd] at z
          cases z
        · exact Nat.le_trans (length_putK _ _ _) (Nat.succ_le_succ c2)
      · rintro σ' H' ⟨y7, y8, kvs, rfl, sl, c1, c2⟩
        exact ⟨y7, y8, kvs, rfl, sl, c1 (by omega), by omega⟩
    · -- the sites, moved
      rintro σ' H' ⟨y7, y8, kvs, rfl, sl, c1, c2⟩
      have nds : d ≠ s := hs.nen sl.nd
      refine ⟨d, _, sl.dd, True.intro, fun od => ⟨_, rfl, d, od, rfl, .inr ⟨kvs, upd_same, fun D nD => ?_⟩⟩⟩
      have nDd : D ≠ d := fun z => by
        rw [z, upd_same] at nD
        cases nD
      refine lc_it walk_keysT (fun i Hc => Same (upd H' d (.frz od (.dT kvs))) Hc ∧ ∃ ts : List Addr, Hc D = some (.lst (ts.map V.ref)) ∧ ts.length = i ∧ Sits 1000000 Hc ts)
        ⟨Same.upd nD, [], upd_same, rfl, fun _ m => nomatch m⟩ (fun i Hc _ z => z.1 _ _ upd_same) ?_ ?_
      · rintro i x Hc0 Hc hi ⟨sm', ts, eD, lt, tt⟩ ⟨rfl, k, v, p, ek, rfl, ep⟩
        obtain ⟨x, y, e1, b1⟩ := sl.kk (k, v) (List.mem_of_getElem? ek)
        have e1 : k = [Sum.inl x, Sum.inl y] := e1
        subst e1
        refine ⟨p, _, rfl, SqT.of ep, rfl, _, _, rfl, _, _, rfl, rfl, rfl, ?_⟩
        refine ⟨_, rfl, _, rfl, _, _, rfl, rfl, _, rfl, _, rfl, _, _, rfl, rfl, two_line, fun r nr => ?_⟩
        have eD' : (upd Hc r (.tup [.int (x + (u0 - 1000)), .int (y + (v0 - 1000))])) D = some (.lst (ts.map V.ref)) := (Same.upd nr) _ _ eD
        refine ⟨_, eD', ?_, ?_⟩
        · rw [List.length_map, lt]
          exact Nat.lt_of_lt_of_le hi (Nat.le_trans (by omega) (by decide : 1000 ≤ sizeLine))
        · have nr' : r ≠ D := (ne_of_none eD nr).symm
          refine ⟨fun b o e => ?_, ts ++ [r], ?_, by rw [List.length_append, lt]; rfl, fun q m => ?_⟩
          · have nbD : b ≠ D := ne_of_none e nD
            rw [upd_ne nbD]
            exact (Same.upd nr) _ _ (sm' b o e)
          · rw [List.map_append]
            exact upd_same
          · obtain ⟨h1, h2, h3, h4⟩ := b1
            rcases List.mem_append.mp m with m | m
            · have z := (tt.same (Same.upd (o := .tup [.int (x + (u0 - 1000)), .int (y + (v0 - 1000))]) nr)).put (p := D) (o := .lst (ts.map V.ref ++ [.ref r])) (fun x y z => by rw [eD'] at z; cases z)
              exact z q m
            · have e : q = r := List.mem_singleton.mp m
              subst e
              refine ⟨x + (u0 - 1000), y + (v0 - 1000), ?_, by omega, by omega, by omega, by omega⟩
              show upd _ D _ q = _
              rw [upd_ne nr', upd_same]
      · rintro Hc ⟨sm', ts, eD, lt, tt⟩
        refine ⟨sm' _ _ upd_same, q D ts _ ⟨fun b o nb e => ?_, ?_⟩ ?_ ?_ (by omega) (by omega) (tt.put fun x y z => ?_)⟩
        · have nbd : b ≠ d := ne_of_none e sl.nd
          rw [upd_ne nbd]
          refine sm' _ _ ?_
          rw [upd_ne nbd]
          exact sl.st.keep b o nb e
        · obtain ⟨x, y, z, e⟩ := sl.st.src
          refine ⟨x, y, z, ?_⟩
          rw [upd_ne nds.symm]
          refine sm' _ _ ?_
          rw [upd_ne nds.symm]
          exact e
        · rw [upd_ne nDd] at nD
          exact sl.st.free nD
        · rw [upd_ne nDd]
          exact eD
        · rw [sm' _ _ upd_same] at z
          cases z
end
/-! ### the program's own defs: what a site is -/
abbrev sIsSite : Stmt := topS 4
abbrev sToS : Stmt := topS 5
abbrev sCheck : Stmt := topS 6
theorem scIsSite : FnScope ["value", "x", "y"] ["value"] (defScope sIsSite) := ⟨rfl, rfl, rfl, by decide +kernel, rfl, by decide +kernel, by decide +kernel⟩
theorem scToS : FnScope ["a", "b", "c", "ax", "ay", "bx", "by", "cx", "cy"] ["a", "b", "c"] (defScope sToS) := ⟨rfl, rfl, rfl, by decide +kernel, rfl, by decide +kernel, by decide +kernel⟩
theorem scCheck : FnScope ["value", "name"] ["value", "name"] (defScope sCheck) := ⟨rfl, rfl, rfl, by decide +kernel, rfl, by decide +kernel, by decide +kernel⟩
section
variable {P : Program} {w : World} {K : PySem.W.Frag} {mg : Str → Option Value} {base : Heap}
/-- a number is neither True nor False -/
theorem op_isIB {X : Cx} : OpR X (compareOp .Is) (fun x y H Q => ∃ (n : Int) (b : Bool), x = .int n ∧ y = .bl b ∧ Q (.bl false) H) := by
  intro pins s σ H x y v u Q I rx ry h
  obtain ⟨n, b, rfl, rfl, q⟩ := h
  obtain ⟨t, rfl⟩ := rx
  cases (show u = Value.bool b from ry)
  exact wpAny_is_other rfl (fun z => by cases z) ⟨.bl false, H, I, rfl, q⟩
theorem itf {p A B : Prop} [Decidable p] (h : ¬ p) (b : B) : if decide p = true then A else B := by
  rw [decide_eq_false h]
  exact b
theorem itt {p A B : Prop} [Decidable p] (h : p) (a : A) : if decide p = true then A else B := by
  rw [decide_eq_true h]
  exact a
theorem kTT (K : PySem.W.Frag) : PySem.W.kitOne K (.type "tuple") (.type "tuple") = some true := kit_ty (by decide +kernel)
theorem kII (K : PySem.W.Frag) : PySem.W.kitOne K (.type "int") (.type "int") = some true := kit_ty (by decide +kernel)
/-- a site -/
def spIsSite : Sp := fun vs H Q _ => ∃ (t : Addr) (x y : Int), vs = [.ref t] ∧ Sit H t x y ∧ Bd 1000000 x y ∧ Q (.bl true) H
theorem ok_issite {f : Addr} {fd : FuncData} {k : Nat} (F : Fun K "is_site" "is_site" sIsSite f fd) (misinstance : mg "isinstance" = none) (mtuple : mg "tuple" = none) (mint : mg "int" = none) (mlen : mg "len" = none) : FnOk P w K mg base CX0 (k + 1) f fd ["value"] spIsSite := by
  refine F.ok scIsSite (fun vs H Q E h => ?_) (fun cdv A outer s H vs Q E hr h => ?_)
  · obtain ⟨t, x, y, rfl, _⟩ := h
    rfl
  · obtain ⟨t, x, y, rfl, h, d, q⟩ := h
    have nd := scIsSite.nd
    obtain ⟨d1, d2, d3, d4⟩ := d
    refine ⟨_, (pss_cons (ps_if (PW.pt (pw_or (pt_not (pt_val (pe_callB call_isi (by rfl) misinstance (by decide +kernel) (pa_cons (pv 0) (pa_cons (pe_bltn (v := .ty "tuple") (by rfl) mtuple (by decide +kernel) rfl) pa_nil))))) (pw_or1 (pt_cmpR op_ne (pe_callB call_len_seq (by rfl) mlen (by decide +kernel) (pa_cons (pv 0) pa_nil)) pe_int (nomark _))))) (pss_one (ps_ret pe_bl)) pss_nil) (pss_cons (ps_asg (pv 0) (pg_tup (by rfl) (pgs_cons (pg_name (i := 1) nd rfl (.inl rfl)) (pgs_cons (pg_name (i := 2) nd rfl (.inl rfl)) pgs_nil)))) (pss_cons (ps_if (PW.pt (pw_or (pt_not (pt_val (pe_callB call_isi (by rfl) misinstance (by decide +kernel) (pa_cons (pv 1) (pa_cons (pe_bltn (v := .ty "int") (by rfl) mint (by decide +kernel) rfl) pa_nil))))) (pw_or1 (pt_not (pt_val (pe_callB call_isi (by rfl) misinstance (by decide +kernel) (pa_cons (pv 2) (pa_cons (pe_bltn (v := .ty "int") (by rfl) mint (by decide +kernel) rfl) pa_nil)))))))) (pss_one (ps_ret pe_bl)) pss_nil) (pss_cons (ps_if (PW.pt (pw_or (pt_cmpR op_isIB (pv 1) pe_bl (nomark _)) (pw_or (pt_cmpR op_isIB (pv 1) pe_bl (nomark _)) (pw_or (pt_cmpR op_isIB (pv 2) pe_bl (nomark _)) (pw_or1 (pt_cmpR op_isIB (pv 2) pe_bl (nomark _))))))) (pss_one (ps_ret pe_bl)) pss_nil) (pss_cons (ps_if (PW.pt (pw_or (pt_cmpR op_gt (pv 1) pe_int (nomark _)) (pw_or (pt_cmpR op_lt (pv 1) pe_neg (nomark _)) (pw_or (pt_cmpR op_gt (pv 2) pe_int (nomark _)) (pw_or1 (pt_cmpR op_lt (pv 2) pe_neg (nomark _))))))) (pss_one (ps_ret pe_bl)) pss_nil) (pss_one (ps_ret pe_bl))))))), ?_⟩
    exact ⟨_, rfl, _, _, _, _, _, rfl, .ty "tuple", .base (.tup h), kTT K, _, rfl, _, rfl, _, _, rfl, .inr (SqT.of h), rfl, _, rfl, _, rfl, _, _, rfl, SqT.of h, rfl, _, _, rfl, _, _, rfl, rfl, _, rfl, _, _, _, _, _, rfl, .ty "int", .base (.int _), kII K, _, rfl, _, rfl, _, _, _, _, _, rfl, .ty "int", .base (.int _), kII K, _, rfl, _, rfl, _, _, rfl, rfl, _, rfl, _, rfl, _, _, rfl, rfl, _, rfl, _, rfl, _, _, rfl, rfl, _, rfl, _, rfl, _, _, rfl, rfl, _, rfl, _, rfl, _, _, rfl, rfl, _, rfl, itf (by omega) ⟨_, rfl, _, _, rfl, rfl, _, rfl, itf (by omega) ⟨_, rfl, _, _, rfl, rfl, _, rfl, itf (by omega) ⟨_, rfl, _, _, rfl, rfl, _, rfl, itf (by omega) q⟩⟩⟩⟩
def spCheck : Sp := fun vs H Q _ => ∃ (t : Addr) (x y : Int) (z : Str), vs = [.ref t, .str z] ∧ Sit H t x y ∧ Bd 1000000 x y ∧ Q .non H
theorem ok_check {f fS : Addr} {fd fdS : FuncData} {k : Nat} (F : Fun K "check_site" "check_site" sCheck f fd)
    (GS : FnOk P w K mg base CX0 (k + 1) fS fdS ["value"] spIsSite) (gS : mg "is_site" = some (.ref fS)) (kS : PySem.W.keepIn K (.ref fS) = true) (bS : Binds K fdS ["value"] []) : FnOk P w K mg base CX0 (k + 2) f fd ["value", "name"] spCheck := by
  refine F.ok scCheck (fun vs H Q E h => ?_) (fun cdv A outer s H vs Q E hr h => ?_)
  · obtain ⟨t, x, y, z, rfl, _⟩ := h
    rfl
  · obtain ⟨t, x, y, z, rfl, hx, d, q⟩ := h
    exact ⟨_, pss_one (ps_if (pt_not (pt_val (pe_call GS hr (by rfl) gS kS bS .nil pass0 (pa_cons (pv 0) pa_nil)))) (pss_one ps_never) pss_nil), _, rfl, t, x, y, rfl, hx, d, _, rfl, q⟩
/-- the double area -/
def tri (ax ay bx by' cx cy : Int) : Int := (bx - ax) * (cy - ay) - (by' - ay) * (cx - ax)
/-- three sites, and what is told of their numbers -/
def sp3 (K : PySem.W.Frag) (v : Int → Int → Int → Int → Int → Int → V) : Sp := fun vs H Q _ => ∃ (a b c : Addr) (ax ay bx by' cx cy : Int), vs = [.ref a, .ref b, .ref c] ∧ Sit H a ax ay ∧ Sit H b bx by' ∧ Sit H c cx cy ∧
  Bd 1000000 ax ay ∧ Bd 1000000 bx by' ∧ Bd 1000000 cx cy ∧ Q (v ax ay bx by' cx cy) H
theorem tri_m1 {ax ay bx cy : Int} (a : -1000000 ≤ ax ∧ ax ≤ 1000000) (b : -1000000 ≤ bx ∧ bx ≤ 1000000) : CMul (bx - ax) (cy - ay) := .inl ⟨by omega, by omega⟩
theorem ok_tos {f : Addr} {fd : FuncData} {k : Nat} (F : Fun K "turn_of_sites" "turn_of_sites" sToS f fd) (misinstance : mg "isinstance" = none) (mtuple : mg "tuple" = none) (mint : mg "int" = none) (mlen : mg "len" = none) : FnOk P w K mg base CX0 (k + 1) f fd ["a", "b", "c"] (sp3 K fun ax ay bx by' cx cy => .int (tri ax ay bx by' cx cy)) := by
  refine F.ok scToS (fun vs H Q E h => ?_) (fun cdv A outer s H vs Q E hr h => ?_)
  · obtain ⟨a, b, c, ax, ay, bx, by', cx, cy, rfl, _⟩ := h
    rfl
  · obtain ⟨a, b, c, ax, ay, bx, by', cx, cy, rfl, ha, hb, hc, da, db, dc, q⟩ := h
    have m1 : CMul (bx - ax) (cy - ay) := tri_m1 ⟨da.1, da.2.1⟩ ⟨db.1, db.2.1⟩
    have m2 : CMul (by' - ay) (cx - ax) := tri_m1 da.2.2 db.2.2
    have nd := scToS.nd
    obtain ⟨a1, a2, a3, a4⟩ := da
    obtain ⟨b1, b2, b3, b4⟩ := db
    obtain ⟨c1, c2, c3, c4⟩ := dc
    refine ⟨_, (pss_cons (ps_if (PW.pt (pw_or (pt_not (pt_val (pe_callB call_isi (by rfl) misinstance (by decide +kernel) (pa_cons (pv 0) (pa_cons (pe_bltn (v := .ty "tuple") (by rfl) mtuple (by decide +kernel) rfl) pa_nil))))) (pw_or (pt_not (pt_val (pe_callB call_isi (by rfl) misinstance (by decide +kernel) (pa_cons (pv 1) (pa_cons (pe_bltn (v := .ty "tuple") (by rfl) mtuple (by decide +kernel) rfl) pa_nil))))) (pw_or1 (pt_not (pt_val (pe_callB call_isi (by rfl) misinstance (by decide +kernel) (pa_cons (pv 2) (pa_cons (pe_bltn (v := .ty "tuple") (by rfl) mtuple (by decide +kernel) rfl) pa_nil))))))))) (pss_one (ps_ret pe_non)) pss_nil) (pss_cons (ps_if (PW.pt (pw_or (pt_cmpR op_ne (pe_callB call_len_seq (by rfl) mlen (by decide +kernel) (pa_cons (pv 0) pa_nil)) pe_int (nomark _)) (pw_or (pt_cmpR op_ne (pe_callB call_len_seq (by rfl) mlen (by decide +kernel) (pa_cons (pv 1) pa_nil)) pe_int (nomark _)) (pw_or1 (pt_cmpR op_ne (pe_callB call_len_seq (by rfl) mlen (by decide +kernel) (pa_cons (pv 2) pa_nil)) pe_int (nomark _)))))) (pss_one (ps_ret pe_non)) pss_nil) (pss_cons (ps_asg (pv 0) (pg_tup (by rfl) (pgs_cons (pg_name (i := 3) nd rfl (.inl rfl)) (pgs_cons (pg_name (i := 4) nd rfl (.inl rfl)) pgs_nil)))) (pss_cons (ps_asg (pv 1) (pg_tup (by rfl) (pgs_cons (pg_name (i := 5) nd rfl (.inl rfl)) (pgs_cons (pg_name (i := 6) nd rfl (.inl rfl)) pgs_nil)))) (pss_cons (ps_asg (pv 2) (pg_tup (by rfl) (pgs_cons (pg_name (i := 7) nd rfl (.inl rfl)) (pgs_cons (pg_name (i := 8) nd rfl (.inl rfl)) pgs_nil)))) (pss_cons (ps_if (PW.pt (pw_or (pt_not (pt_val (pe_callB call_isi (by rfl) misinstance (by decide +kernel) (pa_cons (pv 3) (pa_cons (pe_bltn (v := .ty "int") (by rfl) mint (by decide +kernel) rfl) pa_nil))))) (pw_or (pt_not (pt_val (pe_callB call_isi (by rfl) misinstance (by decide +kernel) (pa_cons (pv 5) (pa_cons (pe_bltn (v := .ty "int") (by rfl) mint (by decide +kernel) rfl) pa_nil))))) (pw_or1 (pt_not (pt_val (pe_callB call_isi (by rfl) misinstance (by decide +kernel) (pa_cons (pv 7) (pa_cons (pe_bltn (v := .ty "int") (by rfl) mint (by decide +kernel) rfl) pa_nil))))))))) (pss_one (ps_ret pe_non)) pss_nil) (pss_cons (ps_if (PW.pt (pw_or (pt_not (pt_val (pe_callB call_isi (by rfl) misinstance (by decide +kernel) (pa_cons (pv 4) (pa_cons (pe_bltn (v := .ty "int") (by rfl) mint (by decide +kernel) rfl) pa_nil))))) (pw_or (pt_not (pt_val (pe_callB call_isi (by rfl) misinstance (by decide +kernel) (pa_cons (pv 6) (pa_cons (pe_bltn (v := .ty "int") (by rfl) mint (by decide +kernel) rfl) pa_nil))))) (pw_or1 (pt_not (pt_val (pe_callB call_isi (by rfl) misinstance (by decide +kernel) (pa_cons (pv 8) (pa_cons (pe_bltn (v := .ty "int") (by rfl) mint (by decide +kernel) rfl) pa_nil))))))))) (pss_one (ps_ret pe_non)) pss_nil) (pss_cons (ps_if (PW.pt (pw_or (pt_cmpR op_isIB (pv 3) pe_bl (nomark _)) (pw_or (pt_cmpR op_isIB (pv 3) pe_bl (nomark _)) (pw_or (pt_cmpR op_isIB (pv 5) pe_bl (nomark _)) (pw_or (pt_cmpR op_isIB (pv 5) pe_bl (nomark _)) (pw_or (pt_cmpR op_isIB (pv 7) pe_bl (nomark _)) (pw_or1 (pt_cmpR op_isIB (pv 7) pe_bl (nomark _))))))))) (pss_one (ps_ret pe_non)) pss_nil) (pss_cons (ps_if (PW.pt (pw_or (pt_cmpR op_isIB (pv 4) pe_bl (nomark _)) (pw_or (pt_cmpR op_isIB (pv 4) pe_bl (nomark _)) (pw_or (pt_cmpR op_isIB (pv 6) pe_bl (nomark _)) (pw_or (pt_cmpR op_isIB (pv 6) pe_bl (nomark _)) (pw_or (pt_cmpR op_isIB (pv 8) pe_bl (nomark _)) (pw_or1 (pt_cmpR op_isIB (pv 8) pe_bl (nomark _))))))))) (pss_one (ps_ret pe_non)) pss_nil) (pss_cons (ps_if (PW.pt (pw_or (pt_cmpR op_gt (pv 3) pe_int (nomark _)) (pw_or (pt_cmpR op_lt (pv 3) pe_neg (nomark _)) (pw_or (pt_cmpR op_gt (pv 5) pe_int (nomark _)) (pw_or1 (pt_cmpR op_lt (pv 5) pe_neg (nomark _))))))) (pss_one (ps_ret pe_non)) pss_nil) (pss_cons (ps_if (PW.pt (pw_or (pt_cmpR op_gt (pv 4) pe_int (nomark _)) (pw_or (pt_cmpR op_lt (pv 4) pe_neg (nomark _)) (pw_or (pt_cmpR op_gt (pv 6) pe_int (nomark _)) (pw_or1 (pt_cmpR op_lt (pv 6) pe_neg (nomark _))))))) (pss_one (ps_ret pe_non)) pss_nil) (pss_cons (ps_if (PW.pt (pw_or (pt_cmpR op_gt (pv 7) pe_int (nomark _)) (pw_or (pt_cmpR op_lt (pv 7) pe_neg (nomark _)) (pw_or (pt_cmpR op_gt (pv 8) pe_int (nomark _)) (pw_or1 (pt_cmpR op_lt (pv 8) pe_neg (nomark _))))))) (pss_one (ps_ret pe_non)) pss_nil) (pss_one (ps_ret (pe_op op_sub (pe_op op_mul (pe_op op_sub (pv 5) (pv 3)) (pe_op op_sub (pv 8) (pv 4))) (pe_op op_mul (pe_op op_sub (pv 6) (pv 4)) (pe_op op_sub (pv 7) (pv 3)))))))))))))))))), ?_⟩
    exact ⟨_, rfl, _, _, _, _, _, rfl, .ty "tuple", .base (.tup ha), kTT K, _, rfl, _, rfl, _, _, _, _, _, rfl, .ty "tuple", .base (.tup hb), kTT K, _, rfl, _, rfl, _, _, _, _, _, rfl, .ty "tuple", .base (.tup hc), kTT K, _, rfl, _, rfl, _, _, rfl, .inr (SqT.of ha), rfl, _, rfl, _, rfl, _, _, rfl, .inr (SqT.of hb), rfl, _, rfl, _, rfl, _, _, rfl, .inr (SqT.of hc), rfl, _, rfl, _, rfl, _, _, rfl, SqT.of ha, rfl, _, _, rfl, _, _, rfl, rfl, _, rfl, _, _, rfl, SqT.of hb, rfl, _, _, rfl, _, _, rfl, rfl, _, rfl, _, _, rfl, SqT.of hc, rfl, _, _, rfl, _, _, rfl, rfl, _, rfl, _, _, _, _, _, rfl, .ty "int", .base (.int _), kII K, _, rfl, _, rfl, _, _, _, _, _, rfl, .ty "int", .base (.int _), kII K, _, rfl, _, rfl, _, _, _, _, _, rfl, .ty "int", .base (.int _), kII K, _, rfl, _, rfl, _, _, _, _, _, rfl, .ty "int", .base (.int _), kII K, _, rfl, _, rfl, _, _, _, _, _, rfl, .ty "int", .base (.int _), kII K, _, rfl, _, rfl, _, _, _, _, _, rfl, .ty "int", .base (.int _), kII K, _, rfl, _, rfl, _, _, rfl, rfl, _, rfl, _, rfl, _, _, rfl, rfl, _, rfl, _, rfl, _, _, rfl, rfl, _, rfl, _, rfl, _, _, rfl, rfl, _, rfl, _, rfl, _, _, rfl, rfl, _, rfl, _, rfl, _, _, rfl, rfl, _, rfl, _, rfl, _, _, rfl, rfl, _, rfl, _, rfl, _, _, rfl, rfl, _, rfl, _, rfl, _, _, rfl, rfl, _, rfl, _, rfl, _, _, rfl, rfl, _, rfl, _, rfl, _, _, rfl, rfl, _, rfl, _, rfl, _, _, rfl, rfl, _, rfl, _, rfl, _, _, rfl, rfl, _, rfl, itf (by omega) ⟨_, rfl, _, _, rfl, rfl, _, rfl, itf (by omega) ⟨_, rfl, _, _, rfl, rfl, _, rfl, itf (by omega) ⟨_, rfl, _, _, rfl, rfl, _, rfl, itf (by omega) ⟨_, rfl, _, _, rfl, rfl, _, rfl, itf (by omega) ⟨_, rfl, _, _, rfl, rfl, _, rfl, itf (by omega) ⟨_, rfl, _, _, rfl, rfl, _, rfl, itf (by omega) ⟨_, rfl, _, _, rfl, rfl, _, rfl, itf (by omega) ⟨_, rfl, _, _, rfl, rfl, _, rfl, itf (by omega) ⟨_, rfl, _, _, rfl, rfl, _, rfl, itf (by omega) ⟨_, rfl, _, _, rfl, rfl, _, rfl, itf (by omega) ⟨_, rfl, _, _, rfl, rfl, _, rfl, itf (by omega) ⟨_, rfl, _, rfl, _, _, rfl, rfl, _, rfl, _, rfl, _, _, rfl, rfl, _, _, rfl, rfl, m1, _, rfl, _, rfl, _, _, rfl, rfl, _, rfl, _, rfl, _, _, rfl, rfl, _, _, rfl, rfl, m2, _, _, rfl, rfl, q⟩⟩⟩⟩⟩⟩⟩⟩⟩⟩⟩⟩⟩
end
/-! ### signs, sites that are alike -/
section
variable {P : Program} {w : World} {K : PySem.W.Frag} {mg : Str → Option Value} {base : Heap}
def sg (n : Int) : Int := if n = 0 then 0 else if 0 < n then 1 else -1
theorem dpSit {H : Hp} {t : Addr} {x y : Int} (h : Sit H t x y) : Dp K H (.ref t) (.tuple [.int x, .int y]) := .tup (SqT.of h) (.cons (.int x) (.cons (.int y) .nil))
theorem eqv_sit (x y u v : Int) : PyData.eqv (.tuple [.int x, .int y]) (.tuple [.int u, .int v]) = decide (x = u ∧ y = v) := by
  simp [PyData.eqv, PyData.eqvAll, Bool.decide_and, Bool.beq_eq_decide_eq]
theorem at0_ (u v : V) : atI [u, v] 0 = some u := rfl
theorem at1_ (u v : V) : atI [u, v] 1 = some v := rfl
end
abbrev sSide : Stmt := topS 8
abbrev sBtw : Stmt := topS 9
theorem scSide : FnScope ["a", "b", "c", "area"] ["a", "b", "c"] (defScope sSide) := ⟨rfl, rfl, rfl, by decide +kernel, rfl, by decide +kernel, by decide +kernel⟩
theorem scBtw : FnScope ["a", "b", "c", "area"] ["a", "b", "c"] (defScope sBtw) := ⟨rfl, rfl, rfl, by decide +kernel, rfl, by decide +kernel, by decide +kernel⟩
section
variable {P : Program} {w : World} {K : PySem.W.Frag} {mg : Str → Option Value} {base : Heap}
def spSide (K : PySem.W.Frag) : Sp := fun vs H Q _ => ∃ (a b c : Addr) (ax ay bx by' cx cy : Int), vs = [.ref a, .ref b, .ref c] ∧ Sit H a ax ay ∧ Sit H b bx by' ∧ Sit H c cx cy ∧
  Bd 1000000 ax ay ∧ Bd 1000000 bx by' ∧ Bd 1000000 cx cy ∧ ¬ (ax = bx ∧ ay = by') ∧ Q (.int (sg (tri ax ay bx by' cx cy))) H
/-- u <= v of pairs, as the model goes -/
def leP (ux uy vx vy : Int) : Bool := if ux = vx then (if uy = vy then true else decide (uy ≤ vy)) else decide (ux ≤ vx)
theorem leP_is (ux uy vx vy : Int) : Ob.lexAt (fun j => decide ([ux, uy].getD j 0 = [vx, vy].getD j 0)) (fun j => decide ([ux, uy].getD j 0 ≤ [vx, vy].getD j 0)) (decide ([ux, uy].length ≤ [vx, vy].length)) 0 (min [ux, uy].length [vx, vy].length) = leP ux uy vx vy := by
  simp [Ob.lexAt, leP]
/-- c on the stretch from a to b, as the program asks -/
def ons (ax ay bx by' cx cy : Int) : Bool := decide (tri ax ay bx by' cx cy = 0) && ((leP ax ay cx cy && leP cx cy bx by') || (leP bx by' cx cy && leP cx cy ax ay))
theorem ok_side {f fT : Addr} {fd fdT : FuncData} {k : Nat} (F : Fun K "side" "side" sSide f fd)
    (GT : FnOk P w K mg base CX0 (k + 1) fT fdT ["a", "b", "c"] (sp3 K fun ax ay bx by' cx cy => .int (tri ax ay bx by' cx cy))) (gT : mg "turn_of_sites" = some (.ref fT)) (kT : PySem.W.keepIn K (.ref fT) = true) (bT : Binds K fdT ["a", "b", "c"] []) : FnOk P w K mg base CX0 (k + 2) f fd ["a", "b", "c"] (spSide K) := by
  refine F.ok scSide (fun vs H Q E h => ?_) (fun cdv A outer s H vs Q E hr h => ?_)
  · obtain ⟨a, b, c, ax, ay, bx, by', cx, cy, rfl, _⟩ := h
    rfl
  · obtain ⟨a, b, c, ax, ay, bx, by', cx, cy, rfl, ha, hb, hc, da, db, dc, ne, q⟩ := h
    have nd := scSide.nd
    refine ⟨_, pss_cons (ps_set (i := 3) nd rfl (.inl rfl) (pe_call GT hr (by rfl) gT kT bT .nil pass0 (pa_cons (pv 0) (pa_cons (pv 1) (pa_cons (pv 2) pa_nil))))) (pss_cons (ps_if (pt_cmpR op_isN (pv 3) pe_non (nomark _)) pss_never (pss_one (ps_if (pt_cmpR op_gt (pv 3) pe_int (nomark _)) (pss_one (ps_ret pe_int)) (pss_one (ps_if (pt_cmpR op_lt (pv 3) pe_int (nomark _)) (pss_one (ps_ret pe_neg)) pss_nil)))))
      (pss_cons (ps_if (pt_cmpR (op_eqD hr.units) (pv 0) (pv 1) (nomark _)) (pss_one ps_never) pss_nil) (pss_one (ps_ret pe_int)))), ?_⟩
    refine ⟨_, rfl, _, rfl, _, rfl, a, b, c, ax, ay, bx, by', cx, cy, rfl, ha, hb, hc, da, db, dc, _, rfl, rfl, _, rfl, ?_⟩
    show _
    unfold sg at q
    refine ⟨_, rfl, _, _, rfl, rfl, _, rfl, ite2 (fun c => ?_) fun c => ?_⟩
    · have c := of_decide_eq_true c
      rw [if_neg (by omega), if_pos c] at q
      exact q
    · have c : ¬ 0 < tri ax ay bx by' cx cy := fun z => c (decide_eq_true z)
      refine ⟨_, rfl, _, _, rfl, rfl, _, rfl, ite2 (fun d => ?_) fun d => ?_⟩
      · have d := of_decide_eq_true d
        rw [if_neg (by omega), if_neg c] at q
        exact q
      · have d : ¬ tri ax ay bx by' cx cy < 0 := fun z => d (decide_eq_true z)
        rw [if_pos (by omega)] at q
        refine ⟨_, rfl, _, rfl, _, _, dpSit ha, dpSit hb, rfl, rfl, _, rfl, ?_⟩
        rw [eqv_sit, decide_eq_false (fun z => ne z)]
        exact q
theorem le_read {H : Hp} {u v : Addr} {ux uy vx vy : Int} {Q : VK} (hu : Sit H u ux uy) (hv : Sit H v vx vy) (q : Q (.bl (leP ux uy vx vy)) H) : rLeT K (.ref u) (.ref v) H Q := by
  refine ⟨u, v, [ux, uy], [vx, vy], rfl, rfl, SqT.of hu, SqT.of hv, ?_⟩
  rw [leP_is]
  exact q
theorem ok_btw {f fT : Addr} {fd fdT : FuncData} {k : Nat} (F : Fun K "is_between" "is_between" sBtw f fd)
    (GT : FnOk P w K mg base CX0 (k + 1) fT fdT ["a", "b", "c"] (sp3 K fun ax ay bx by' cx cy => .int (tri ax ay bx by' cx cy))) (gT : mg "turn_of_sites" = some (.ref fT)) (kT : PySem.W.keepIn K (.ref fT) = true) (bT : Binds K fdT ["a", "b", "c"] []) : FnOk P w K mg base CX0 (k + 2) f fd ["a", "b", "c"] (sp3 K fun ax ay bx by' cx cy => .bl (ons ax ay bx by' cx cy)) := by
  refine F.ok scBtw (fun vs H Q E h => ?_) (fun cdv A outer s H vs Q E hr h => ?_)
  · obtain ⟨a, b, c, ax, ay, bx, by', cx, cy, rfl, _⟩ := h
    rfl
  · obtain ⟨a, b, c, ax, ay, bx, by', cx, cy, rfl, ha, hb, hc, da, db, dc, q⟩ := h
    have nd := scBtw.nd
    refine ⟨_, pss_cons (ps_set (i := 3) nd rfl (.inl rfl) (pe_call GT hr (by rfl) gT kT bT .nil pass0 (pa_cons (pv 0) (pa_cons (pv 1) (pa_cons (pv 2) pa_nil))))) (pss_cons (ps_if (pt_cmpR op_isN (pv 3) pe_non (nomark _)) pss_never pss_nil)
      (pss_cons (ps_if (pt_cmpR op_ne (pv 3) pe_int (nomark _)) (pss_one (ps_ret pe_bl)) pss_nil) (pss_one (ps_ret (pe_or (pe_chain (op_leT hr.units0) (op_leT hr.units0) (pv 0) (pv 2) (pv 1)) (pe_one (pe_chain (op_leT hr.units0) (op_leT hr.units0) (pv 1) (pv 2) (pv 0)))))))), ?_⟩
    refine ⟨_, rfl, _, rfl, _, rfl, a, b, c, ax, ay, bx, by', cx, cy, rfl, ha, hb, hc, da, db, dc, _, rfl, rfl, _, rfl, ?_⟩
    have q : Q (.bl (ons ax ay bx by' cx cy)) H := q
    unfold ons at q
    refine ⟨_, rfl, rfl, _, rfl, ?_⟩
    by_cases z : tri ax ay bx by' cx cy = 0
    · rw [decide_eq_true z, Bool.true_and] at q
      have e : decide (V.int (tri ax ay bx by' cx cy) = V.int 0) = true := decide_eq_true (by rw [z])
      show if (!decide (V.int (tri ax ay bx by' cx cy) = V.int 0)) = true then _ else _
      rw [e]
      refine ⟨_, rfl, _, rfl, le_read ha hc ⟨_, rfl, ?_⟩⟩
      have second : ∀ R : VK, R (.bl (leP bx by' cx cy && leP cx cy ax ay)) H → tChain (rLeT K) (rLeT K) (tVar 1) (tVar 2) (tVar 0) [some (.ref a), some (.ref b), some (.ref c), some (.int (tri ax ay bx by' cx cy))] H R := fun R r => by
        refine ⟨_, rfl, _, rfl, le_read hb hc ⟨_, rfl, ?_⟩⟩
        cases k1 : leP bx by' cx cy with
        | false =>
          rw [k1, Bool.false_and] at r
          exact r
        | true =>
          rw [k1, Bool.true_and] at r
          exact ⟨_, rfl, le_read hc ha r⟩
      cases k1 : leP ax ay cx cy with
      | false =>
        rw [k1, Bool.false_and, Bool.false_or] at q
        exact ⟨_, rfl, second _ q⟩
      | true =>
        rw [k1, Bool.true_and] at q
        refine ⟨_, rfl, le_read hc hb ?_⟩
        cases k2 : leP cx cy bx by' with
        | false =>
          rw [k2, Bool.false_or] at q
          exact ⟨_, rfl, second _ q⟩
        | true =>
          rw [k2, Bool.true_or] at q
          exact ⟨_, rfl, q⟩
    · rw [decide_eq_false z, Bool.false_and] at q
      have e : decide (V.int (tri ax ay bx by' cx cy) = V.int 0) = false := decide_eq_false fun y => z (V.int.inj y)
      show if (!decide (V.int (tri ax ay bx by' cx cy) = V.int 0)) = true then Q (.bl false) H else _
      rw [e]
      exact q
end
/-! ### the law -/
abbrev sDue : Stmt := topS 17
abbrev sRight : Stmt := topS 18
abbrev sLaw : Stmt := topS 19
theorem scDue : FnScope ["_law_aa", "_law_bb", "_law_cc", "_law_u", "_law_v", "_law_gap"] ["_law_aa", "_law_bb", "_law_cc"] (defScope sDue) := ⟨rfl, rfl, rfl, by decide +kernel, rfl, by decide +kernel, by decide +kernel⟩
theorem scRight : FnScope ["_law_aa", "_law_bb", "_law_cc", "_law_within", "_law_is_on_here", "_law_due_here"] ["_law_aa", "_law_bb", "_law_cc"] (defScope sRight) := ⟨rfl, rfl, rfl, by decide +kernel, rfl, by decide +kernel, by decide +kernel⟩
theorem scLaw : FnScope ["_law_script", "_law_number_here", "_law_source", "_law_u", "_law_v", "_law_k", "_law_aa", "_law_bb", "_law_lap", "_law_sites_here", "_law_cc", "_law_edge"] ["_law_script"] (defScope sLaw) := ⟨rfl, rfl, rfl, by decide +kernel, rfl, by decide +kernel, by decide +kernel⟩
def withinB (ax ay bx by' cx cy : Int) : Bool := (decide ((if bx < ax then bx else ax) ≤ cx) && decide (cx ≤ (if bx > ax then bx else ax))) && (decide ((if by' < ay then by' else ay) ≤ cy) && decide (cy ≤ (if by' > ay then by' else ay)))
theorem leP_iff (ux uy vx vy : Int) : leP ux uy vx vy = true ↔ ux < vx ∨ (ux = vx ∧ uy ≤ vy) := by
  unfold leP
  by_cases h : ux = vx
  · by_cases h2 : uy = vy
    · simp [h, h2]
    · simp [h, h2]
  · rw [if_neg h, decide_eq_true_eq]
    omega
theorem between_of {u v x y : Int} (e : u * y = v * x) (hu : 0 < u) (h0 : 0 ≤ x) (h1 : x ≤ u) : (0 ≤ v → 0 ≤ y ∧ y ≤ v) ∧ (v ≤ 0 → v ≤ y ∧ y ≤ 0) := by
  have e2 : u * (v - y) = v * (u - x) := by grind
  constructor
  · intro hv
    have z1 : 0 ≤ u * y := by rw [e]; exact Int.mul_nonneg hv h0
    have z2 : 0 ≤ u * (v - y) := by rw [e2]; exact Int.mul_nonneg hv (by omega)
    have w1 := Int.nonneg_of_mul_nonneg_right z1 hu
    have w2 := Int.nonneg_of_mul_nonneg_right z2 hu
    exact ⟨w1, by omega⟩
  · intro hv
    have z1 : 0 ≤ u * (-y) := by
      rw [Int.mul_neg, e, ← Int.neg_mul]
      exact Int.mul_nonneg (by omega) h0
    have z2 : 0 ≤ u * (y - v) := by
      have e3 : u * (y - v) = (-v) * (u - x) := by grind
      rw [e3]
      exact Int.mul_nonneg (by omega) (by omega)
    have w1 := Int.nonneg_of_mul_nonneg_right z1 hu
    have w2 := Int.nonneg_of_mul_nonneg_right z2 hu
    exact ⟨by omega, by omega⟩
theorem ons_is (ax ay bx by' cx cy : Int) : ons ax ay bx by' cx cy = (withinB ax ay bx by' cx cy && (decide (ax = bx ∧ ay = by') || decide (tri ax ay bx by' cx cy = 0))) := by
  unfold ons
  by_cases t : tri ax ay bx by' cx cy = 0
  · rw [decide_eq_true t, Bool.true_and, Bool.or_true, Bool.and_true, Bool.eq_iff_iff]
    unfold tri at t
    have e : (bx - ax) * (cy - ay) = (by' - ay) * (cx - ax) := by omega
    have f1 : bx - ax = 0 → by' - ay = 0 ∨ cx - ax = 0 := fun z => by
      rw [z, Int.zero_mul] at e
      exact Int.mul_eq_zero.mp e.symm
    have f2 : bx - ax ≠ 0 → cx - ax = 0 → cy - ay = 0 := fun z y => by
      rw [y, Int.mul_zero] at e
      exact (Int.mul_eq_zero.mp e).resolve_left z
    have f2' : bx - ax ≠ 0 → cx - bx = 0 → cy - by' = 0 := fun z y => by
      have e2 : (bx - ax) * (cy - by') = (by' - ay) * (cx - bx) := by grind
      rw [y, Int.mul_zero] at e2
      exact (Int.mul_eq_zero.mp e2).resolve_left z
    have f3 : 0 < bx - ax → 0 ≤ cx - ax → cx - ax ≤ bx - ax → _ := fun a b c => between_of e a b c
    have f4 : 0 < ax - bx → 0 ≤ cx - bx → cx - bx ≤ ax - bx → _ := fun a b c => between_of (v := ay - by') (y := cy - by') (by grind) a b c
    have p1 := leP_iff bx by' cx cy
    have p2 := leP_iff ax ay cx cy
    have p3 := leP_iff cx cy bx by'
    have p4 := leP_iff cx cy ax ay
    unfold withinB
    simp only [Bool.and_eq_true, Bool.or_eq_true, decide_eq_true_eq, p1, p2, p3, p4]
    constructor
    · rintro (⟨h1, h2⟩ | ⟨h1, h2⟩)
      all_goals (split <;> split <;> split <;> split <;> omega)
    · rintro ⟨⟨h1, h2⟩, h3, h4⟩
      split at h1 <;> split at h2 <;> split at h3 <;> split at h4
      all_goals omega
  · rw [decide_eq_false t, Bool.false_and, Bool.or_false]
    have ne : ¬ (ax = bx ∧ ay = by') := fun ⟨h1, h2⟩ => t (by
      unfold tri
      rw [h1, h2, Int.sub_self, Int.sub_self, Int.zero_mul, Int.zero_mul, Int.sub_self])
    rw [decide_eq_false ne, Bool.and_false]
theorem sg_zero (n : Int) : decide (V.int (sg n) = V.int 0) = decide (n = 0) := by
  apply decide_eq_decide.mpr
  constructor
  · intro h
    have h := V.int.inj h
    unfold sg at h
    split at h
    · assumption
    · split at h <;> cases h
  · rintro rfl
    rfl
theorem sg_neg (n : Int) : sg (-n) = 0 - sg n := by
  unfold sg
  split <;> split <;> (try split) <;> (try split) <;> omega
section
variable {P : Program} {w : World} {K : PySem.W.Frag} {mg : Str → Option Value} {base : Heap}
theorem ok_due {f : Addr} {fd : FuncData} {k : Nat} (F : Fun K "_law_due" "_law_due" sDue f fd) : FnOk P w K mg base CX0 (k + 1) f fd ["_law_aa", "_law_bb", "_law_cc"] (sp3 K fun ax ay bx by' cx cy => .int (sg (tri ax ay bx by' cx cy))) := by
  refine F.ok scDue (fun vs H Q E h => ?_) (fun cdv A outer s H vs Q E hr h => ?_)
  · obtain ⟨a, b, c, ax, ay, bx, by', cx, cy, rfl, _⟩ := h
    rfl
  · obtain ⟨a, b, c, ax, ay, bx, by', cx, cy, rfl, ha, hb, hc, da, db, dc, q⟩ := h
    have nd := scDue.nd
    refine ⟨_, pss_cons (ps_par (i := 3) (j := 4) rfl nd rfl rfl (by decide) rfl rfl (pa_cons (pe_op op_sub (pe_ix ix_tup (pv 1) pe_int (fun _ _ => rfl)) (pe_ix ix_tup (pv 0) pe_int (fun _ _ => rfl))) (pa_cons (pe_op op_sub (pe_ix ix_tup (pv 1) pe_int (fun _ _ => rfl)) (pe_ix ix_tup (pv 0) pe_int (fun _ _ => rfl))) pa_nil)) rfl)
      (pss_cons (ps_if (pt_cmpR op_eq (pv 3) pe_int (nomark _)) (pss_one (ps_set (i := 5) nd rfl (.inl rfl) (pe_op op_mul (pe_op op_sub (pe_ix ix_tup (pv 0) pe_int (fun _ _ => rfl)) (pe_ix ix_tup (pv 2) pe_int (fun _ _ => rfl))) (pv 4))))
        (pss_one (ps_set (i := 5) nd rfl (.inl rfl) (pe_op op_sub (pe_op op_mul (pe_op op_sub (pe_ix ix_tup (pv 2) pe_int (fun _ _ => rfl)) (pe_ix ix_tup (pv 0) pe_int (fun _ _ => rfl))) (pv 3)) (pe_op op_mul (pv 4) (pe_op op_sub (pe_ix ix_tup (pv 2) pe_int (fun _ _ => rfl)) (pe_ix ix_tup (pv 0) pe_int (fun _ _ => rfl))))))))
      (pss_one (ps_ret (pe_ifExp (pt_cmpR op_eq (pv 5) pe_int (nomark _)) pe_int (pe_ifExp (pt_cmpR op_gt (pv 5) pe_int (nomark _)) pe_int pe_neg))))), ?_⟩
    have b1 : ∀ {x y : Int}, -1000000 ≤ x → x ≤ 1000000 → -1000000 ≤ y → y ≤ 1000000 → -(2 ^ 64) < x - y ∧ x - y < 2 ^ 64 := fun h1 h2 h3 h4 => ⟨by omega, by omega⟩
    have last : ∀ (g : Int), g = tri ax ay bx by' cx cy → tRet (tIf (tTest (tOp rEq (tVar 5) (tC (.int 0)))) (tC (.int 0)) (tIf (tTest (tOp (rI0 fun i j => .bl (decide (j < i))) (tVar 5) (tC (.int 0)))) (tC (.int 1)) (tC (.int (-1))))) { nx := fun _ H' => Q .non H', rt := Q } [some (.ref a), some (.ref b), some (.ref c), some (.int (bx - ax)), some (.int (by' - ay)), some (.int g)] H := by
      intro g eg
      subst eg
      unfold sg at q
      refine ⟨_, rfl, rfl, _, rfl, ite2 (fun c => ?_) fun c => ⟨_, rfl, _, _, rfl, rfl, _, rfl, ite2 (fun d => ?_) fun d => ?_⟩⟩
      · have c := V.int.inj (of_decide_eq_true c)
        simp only [c, if_true] at q
        exact q
      · have c : ¬ tri ax ay bx by' cx cy = 0 := fun z => c (decide_eq_true (by rw [z]))
        have d := of_decide_eq_true d
        simp only [c, d, if_true, if_false] at q
        exact q
      · have c : ¬ tri ax ay bx by' cx cy = 0 := fun z => c (decide_eq_true (by rw [z]))
        have d : ¬ 0 < tri ax ay bx by' cx cy := fun z => d (decide_eq_true z)
        simp only [c, d, if_false] at q
        exact q
    refine ⟨_, rfl, _, _, _, _, rfl, rfl, SqT.of hb, at0_ _ _, _, rfl, _, _, _, _, rfl, rfl, SqT.of ha, at0_ _ _, _, _, rfl, rfl, _, rfl, _, _, _, _, rfl, rfl, SqT.of hb, at1_ _ _, _, rfl, _, _, _, _, rfl, rfl, SqT.of ha, at1_ _ _, _, _, rfl, rfl, _, _, rfl, ?_⟩
    refine ⟨_, rfl, rfl, _, rfl, ite2 (fun z => ?_) fun z => ?_⟩
    · have z := V.int.inj (of_decide_eq_true z)
      refine ⟨_, rfl, _, _, _, _, rfl, rfl, SqT.of ha, at0_ _ _, _, rfl, _, _, _, _, rfl, rfl, SqT.of hc, at0_ _ _, _, _, rfl, rfl, _, rfl, _, _, rfl, rfl, .inl (b1 da.1 da.2.1 dc.1 dc.2.1), last _ ?_⟩
      unfold tri
      rw [z, Int.zero_mul]
      grind
    · refine ⟨_, rfl, _, _, _, _, rfl, rfl, SqT.of hc, at1_ _ _, _, rfl, _, _, _, _, rfl, rfl, SqT.of ha, at1_ _ _, _, _, rfl, rfl, _, rfl, _, _, rfl, rfl, .inl (b1 dc.2.2.1 dc.2.2.2 da.2.2.1 da.2.2.2), _, rfl, _, rfl, _, _, _, _, rfl, rfl, SqT.of hc, at0_ _ _, _, rfl, _, _, _, _, rfl, rfl, SqT.of ha, at0_ _ _, _, _, rfl, rfl, _, _, rfl, rfl, .inl (b1 db.2.2.1 db.2.2.2 da.2.2.1 da.2.2.2), _, _, rfl, rfl, last _ ?_⟩
      unfold tri
      grind
end
section
variable {P : Program} {w : World} {K : PySem.W.Frag} {mg : Str → Option Value} {base : Heap}
def gCBA {α : Type} (us ws : List α) : List α := match us, ws with
  | [], [z, v, u] => [u, v, z]
  | _, _ => []
theorem kb_cba {x q : Str} {st : Stmt} {f : Addr} {fd : FuncData} (F : Fun K x q st f fd)
    (h : ∀ (kV doc pm : Value) (an : Option Addr) (cdv ct u v z : Value), bindArgs (PySem.W.fnOf x q (defArgs st) (defBody st) (defScope st) .none kV doc pm an cdv ct) ⟨[], [("c", z), ("b", v), ("a", u)]⟩ = (pure [(("a" : Str), u), ("b", v), ("c", z)] : Sem (List (Str × Value)))) :
    KBinds K fd ["a", "b", "c"] ["c", "b", "a"] gCBA gCBA := by
  obtain ⟨oc, od, kV, doc, pm, an, cdv, ct, osl, rfl, lk, hcd⟩ := F.ex
  refine ⟨fun s us ws _ hl => ?_, fun {vs us zs ws} r rz => ?_⟩
  · unfold gCBA at hl ⊢
    split at hl
    · exact .of_eq (h kV doc pm an cdv ct _ _ _)
    · cases hl
  · unfold gCBA
    cases r with
    | nil =>
      cases rz with
      | nil => exact .nil
      | cons h1 t1 =>
        cases t1 with
        | nil => exact .nil
        | cons h2 t2 =>
          cases t2 with
          | nil => exact .nil
          | cons h3 t3 =>
            cases t3 with
            | nil => exact .cons h3 (.cons h2 (.cons h1 .nil))
            | cons _ _ => exact .nil
    | cons _ _ => exact .nil
theorem tri_swap (ax ay bx by' cx cy : Int) : tri bx by' ax ay cx cy = -tri ax ay bx by' cx cy := by
  unfold tri
  grind
theorem ok_right {f fD fB fS : Addr} {fd fdD fdB fdS : FuncData} {k : Nat} (F : Fun K "_law_right" "_law_right" sRight f fd)
    (GD : FnOk P w K mg base CX0 (k + 3) fD fdD ["_law_aa", "_law_bb", "_law_cc"] (sp3 K fun ax ay bx by' cx cy => .int (sg (tri ax ay bx by' cx cy)))) (gD : mg "_law_due" = some (.ref fD)) (kD : PySem.W.keepIn K (.ref fD) = true) (bD : Binds K fdD ["_law_aa", "_law_bb", "_law_cc"] [])
    (GB : FnOk P w K mg base CX0 (k + 3) fB fdB ["a", "b", "c"] (sp3 K fun ax ay bx by' cx cy => .bl (ons ax ay bx by' cx cy))) (gB : mg "is_between" = some (.ref fB)) (kB : PySem.W.keepIn K (.ref fB) = true) (bB : Binds K fdB ["a", "b", "c"] []) (kbB : KBinds K fdB ["a", "b", "c"] ["c", "b", "a"] gCBA gCBA)
    (GS : FnOk P w K mg base CX0 (k + 3) fS fdS ["a", "b", "c"] (spSide K)) (gS : mg "side" = some (.ref fS)) (kS : PySem.W.keepIn K (.ref fS) = true) (bS : Binds K fdS ["a", "b", "c"] []) (kbS : KBinds K fdS ["a", "b", "c"] ["c", "b", "a"] gCBA gCBA)
    (mn : mg "min" = none) (mx : mg "max" = none) : FnOk P w K mg base CX0 (k + 4) f fd ["_law_aa", "_law_bb", "_law_cc"] (sp3 K fun _ _ _ _ _ _ => .bl true) := by
  refine F.ok scRight (fun vs H Q E h => ?_) (fun cdv A outer s H vs Q E hr h => ?_)
  · obtain ⟨a, b, c, ax, ay, bx, by', cx, cy, rfl, _⟩ := h
    rfl
  · obtain ⟨a, b, c, ax, ay, bx, by', cx, cy, rfl, ha, hb, hc, da, db, dc, q⟩ := h
    have nd := scRight.nd
    refine ⟨_, C8.pss_cut (ps_set (i := 3) nd rfl (.inl rfl) (pe_and (pe_chain op_le op_le (pe_callB (call_min2 rfl) (by rfl) mn (by decide +kernel) (pa_cons (pe_ix ix_tup (pv 0) pe_int (fun _ _ => rfl)) (pa_cons (pe_ix ix_tup (pv 1) pe_int (fun _ _ => rfl)) pa_nil))) (pe_ix ix_tup (pv 2) pe_int (fun _ _ => rfl)) (pe_callB (call_max2 rfl) (by rfl) mx (by decide +kernel) (pa_cons (pe_ix ix_tup (pv 0) pe_int (fun _ _ => rfl)) (pa_cons (pe_ix ix_tup (pv 1) pe_int (fun _ _ => rfl)) pa_nil)))) (pe_one (pe_chain op_le op_le (pe_callB (call_min2 rfl) (by rfl) mn (by decide +kernel) (pa_cons (pe_ix ix_tup (pv 0) pe_int (fun _ _ => rfl)) (pa_cons (pe_ix ix_tup (pv 1) pe_int (fun _ _ => rfl)) pa_nil))) (pe_ix ix_tup (pv 2) pe_int (fun _ _ => rfl)) (pe_callB (call_max2 rfl) (by rfl) mx (by decide +kernel) (pa_cons (pe_ix ix_tup (pv 0) pe_int (fun _ _ => rfl)) (pa_cons (pe_ix ix_tup (pv 1) pe_int (fun _ _ => rfl)) pa_nil)))))))
      (C8.pss_cut (ps_set (i := 4) nd rfl (.inl rfl) (pe_and (pv 3) (pe_one (pe_or (pe_cmpR (op_eqD hr.units) (pv 0) (pv 1) (nomark _)) (pe_one (pe_cmpR op_eq (pe_call GD hr (by rfl) gD kD bD .nil pass0 (pa_cons (pv 0) (pa_cons (pv 1) (pa_cons (pv 2) pa_nil)))) pe_int (nomark _)))))))
      (pss_cons (ps_if (PW.pt (pw_or (pt_cmpR op_ne (pe_call GB hr (by rfl) gB kB bB .nil pass0 (pa_cons (pv 0) (pa_cons (pv 1) (pa_cons (pv 2) pa_nil)))) (pv 4) (nomark _)) (pw_or1 (pt_cmpR op_ne (pe_callKw GB hr (by rfl) gB kB kbB pass0 (pk_cons (pv 2) (pk_cons (pv 1) (pk_cons (pv 0) pk_nil)))) (pv 4) (nomark _))))) (pss_one (ps_ret pe_bl)) pss_nil)
      (pss_cons (ps_if (pt_cmpR (op_eqD hr.units) (pv 0) (pv 1) (nomark _)) (pss_one (ps_ret pe_bl)) pss_nil)
      (pss_cons (ps_set (i := 5) nd rfl (.inl rfl) (pe_call GD hr (by rfl) gD kD bD .nil pass0 (pa_cons (pv 0) (pa_cons (pv 1) (pa_cons (pv 2) pa_nil)))))
      (pss_cons (ps_if (pt_not (pt_cmpR op_eq (pe_call GS hr (by rfl) gS kS bS .nil pass0 (pa_cons (pv 0) (pa_cons (pv 1) (pa_cons (pv 2) pa_nil)))) (pv 5) (nomark _))) (pss_one (ps_ret pe_bl)) pss_nil)
      (pss_cons (ps_if (pt_not (pt_cmpR op_eq (pe_call GS hr (by rfl) gS kS bS .nil pass0 (pa_cons (pv 1) (pa_cons (pv 0) (pa_cons (pv 2) pa_nil)))) (pe_op op_sub pe_int (pv 5)) (nomark _))) (pss_one (ps_ret pe_bl)) pss_nil)
      (pss_one (ps_ret (pe_cmpR op_eq (pe_callKw GS hr (by rfl) gS kS kbS pass0 (pk_cons (pv 2) (pk_cons (pv 1) (pk_cons (pv 0) pk_nil)))) (pv 5) (nomark _)))))))))), ?_⟩
    refine ⟨fun σ' H' => σ' = [some (.ref a), some (.ref b), some (.ref c), some (.bl (withinB ax ay bx by' cx cy)), none, none] ∧ H = H', ?_, ?_⟩
    · have fin : ∀ z : Bool, z = withinB ax ay bx by' cx cy → [some (V.ref a), some (V.ref b), some (V.ref c), some (V.bl z), none, none] = [some (V.ref a), some (V.ref b), some (V.ref c), some (V.bl (withinB ax ay bx by' cx cy)), none, none] := fun z e => by rw [e]
      refine ⟨_, rfl, _, _, _, _, rfl, rfl, SqT.of ha, at0_ _ _, _, rfl, _, _, _, _, rfl, rfl, SqT.of hb, at0_ _ _, _, _, rfl, _, rfl, _, _, _, _, rfl, rfl, SqT.of hc, at0_ _ _, _, _, rfl, rfl, _, rfl, ite2 (fun h1 => ?_) fun h1 => ⟨_, rfl, ?_⟩⟩
      · refine ⟨_, rfl, _, _, _, _, rfl, rfl, SqT.of ha, at0_ _ _, _, rfl, _, _, _, _, rfl, rfl, SqT.of hb, at0_ _ _, _, _, rfl, _, _, rfl, rfl, _, rfl, ite2 (fun h2 => ?_) fun h2 => ?_⟩
        · refine ⟨_, rfl, _, _, _, _, rfl, rfl, SqT.of ha, at1_ _ _, _, rfl, _, _, _, _, rfl, rfl, SqT.of hb, at1_ _ _, _, _, rfl, _, rfl, _, _, _, _, rfl, rfl, SqT.of hc, at1_ _ _, _, _, rfl, rfl, _, rfl, ite2 (fun h3 => ?_) fun h3 => ?_⟩
          · refine ⟨_, rfl, _, _, _, _, rfl, rfl, SqT.of ha, at1_ _ _, _, rfl, _, _, _, _, rfl, rfl, SqT.of hb, at1_ _ _, _, _, rfl, _, _, rfl, rfl, ?_⟩
            exact ⟨fin _ (by unfold withinB; rw [h1, h2, h3]; rfl), rfl⟩
          · exact ⟨fin _ (by unfold withinB; rw [h1, h2, Bool.eq_false_iff.mpr h3]; rfl), rfl⟩
        · exact ⟨fin _ (by unfold withinB; rw [h1, Bool.eq_false_iff.mpr h2]; rfl), rfl⟩
      · exact ⟨fin _ (by unfold withinB; rw [Bool.eq_false_iff.mpr h1]; rfl), rfl⟩
    rintro _ _ ⟨rfl, rfl⟩
    refine ⟨fun σ' H' => σ' = [some (.ref a), some (.ref b), some (.ref c), some (.bl (withinB ax ay bx by' cx cy)), some (.bl (ons ax ay bx by' cx cy)), none] ∧ H = H', ?_, ?_⟩
    · rw [ons_is]
      refine ⟨_, rfl, _, rfl, ?_⟩
      cases withinB ax ay bx by' cx cy with
      | false => exact ⟨rfl, rfl⟩
      | true =>
        refine ⟨_, rfl, _, rfl, _, _, dpSit ha, dpSit hb, rfl, rfl, _, rfl, ?_⟩
        rw [eqv_sit]
        cases decide (ax = bx ∧ ay = by') with
        | true => exact ⟨rfl, rfl⟩
        | false =>
          refine ⟨_, rfl, _, rfl, _, rfl, a, b, c, ax, ay, bx, by', cx, cy, rfl, ha, hb, hc, da, db, dc, rfl, ?_⟩
          show _ = _ ∧ _
          refine ⟨?_, rfl⟩
          show [_, _, _, _, some (V.bl (decide (V.int (sg _) = V.int 0))), _] = _
          rw [sg_zero]
          rfl
    rintro _ _ ⟨rfl, rfl⟩
    refine ⟨_, rfl, _, rfl, _, rfl, a, b, c, ax, ay, bx, by', cx, cy, rfl, ha, hb, hc, da, db, dc, _, rfl, rfl, _, rfl, iteNS rfl ?_⟩
    refine ⟨_, rfl, _, rfl, _, rfl, a, b, c, ax, ay, bx, by', cx, cy, rfl, ha, hb, hc, da, db, dc, _, rfl, rfl, _, rfl, iteNS rfl ?_⟩
    refine ⟨_, rfl, _, rfl, _, _, dpSit ha, dpSit hb, rfl, rfl, _, rfl, ?_⟩
    rw [eqv_sit]
    refine ite2 (fun _ => q) fun ne => ?_
    have ne : ¬ (ax = bx ∧ ay = by') := fun z => ne (decide_eq_true z)
    have ne' : ¬ (bx = ax ∧ by' = ay) := fun z => ne ⟨z.1.symm, z.2.symm⟩
    refine ⟨_, rfl, _, rfl, _, rfl, a, b, c, ax, ay, bx, by', cx, cy, rfl, ha, hb, hc, da, db, dc, ?_⟩
    refine ⟨_, rfl, _, rfl, _, rfl, a, b, c, ax, ay, bx, by', cx, cy, rfl, ha, hb, hc, da, db, dc, ne, _, rfl, rfl, _, rfl, iteNS rfl ?_⟩
    refine ⟨_, rfl, _, rfl, _, rfl, b, a, c, bx, by', ax, ay, cx, cy, rfl, hb, ha, hc, db, da, dc, ne', _, rfl, _, _, rfl, rfl, rfl, _, rfl, iteNS ?_ ?_⟩
    · rw [tri_swap, sg_neg]
    refine ⟨_, rfl, _, rfl, _, rfl, a, b, c, ax, ay, bx, by', cx, cy, rfl, ha, hb, hc, da, db, dc, ne, _, rfl, rfl, ?_⟩

    show Q (.bl (decide _)) H
    rw [decide_eq_true rfl]
    exact q
end
section
variable {P : Program} {w : World} {K : PySem.W.Frag} {mg : Str → Option Value} {base : Heap}
def spLaw (K : PySem.W.Frag) : Sp := fun vs H Q _ => ∃ (a : Addr) (ns : List Int), vs = [.ref a] ∧ SqL K H a (ns.map V.int) ∧ ns.length ≤ 63 ∧ ∀ H', Q (.bl true) H'
theorem cut_ints (ns : List Int) (lo hi : Option Int) : ∃ ms : List Int, cutV (ns.map V.int) lo hi = ms.map V.int ∧ ms.length ≤ ns.length := by
  refine ⟨(ns.drop (HT.sIx (ns.map V.int).length 0 lo)).take (HT.sIx (ns.map V.int).length (ns.map V.int).length hi - HT.sIx (ns.map V.int).length 0 lo), ?_, ?_⟩
  · unfold cutV
    rw [List.map_take, List.map_drop]
  · rw [List.length_take, List.length_drop]
    omega
theorem near3 {u : Int} (x : Int) (h1 : -1000 ≤ u) (h2 : u ≤ 1000) : -1000000 ≤ u + x % 3 ∧ u + x % 3 ≤ 1000000 := by omega
theorem ok_law {f fC fSr fN fO fSi fR : Addr} {fd fdC fdSr fdN fdO fdSi fdR : FuncData} (F : Fun K "law" "law" sLaw f fd)
    (GC : FnOk P w K mg base CX0 1 fC fdC ["_law_script", "_law_index"] (spCell K)) (gC : mg "_law_cell_at" = some (.ref fC)) (kC : PySem.W.keepIn K (.ref fC) = true) (bC : Binds K fdC ["_law_script", "_law_index"] [])
    (GSr : FnOk P w K mg base CX0 1 fSr fdSr ["_law_number_here"] spSrc) (gSr : mg "_law_source_of" = some (.ref fSr)) (kSr : PySem.W.keepIn K (.ref fSr) = true) (bSr : Binds K fdSr ["_law_number_here"] [])
    (GN : FnOk P w K mg base CX0 1 fN fdN ["_law_source", "_law_many"] spNext) (gN : mg "_law_next" = some (.ref fN)) (kN : PySem.W.keepIn K (.ref fN) = true) (bN : Binds K fdN ["_law_source", "_law_many"] [])
    (GO : FnOk P w K mg base CX0 2 fO fdO ["_law_source", "_law_some"] (spOne K)) (gO : mg "_law_one" = some (.ref fO)) (kO : PySem.W.keepIn K (.ref fO) = true) (bO : Binds K fdO ["_law_source", "_law_some"] [])
    (GSi : FnOk P w K mg base CX0 3 fSi fdSi ["_law_source", "_law_most"] spSites) (gSi : mg "_law_sites" = some (.ref fSi)) (kSi : PySem.W.keepIn K (.ref fSi) = true) (bSi : Binds K fdSi ["_law_source", "_law_most"] [])
    (GR : FnOk P w K mg base CX0 6 fR fdR ["_law_aa", "_law_bb", "_law_cc"] (sp3 K fun _ _ _ _ _ _ => .bl true)) (gR : mg "_law_right" = some (.ref fR)) (kR : PySem.W.keepIn K (.ref fR) = true) (bR : Binds K fdR ["_law_aa", "_law_bb", "_law_cc"] [])
    (mi : mg "int" = none) (mr : mg "range" = none) : FnOk P w K mg base CX0 (6 + 1) f fd ["_law_script"] (spLaw K) := by
  refine F.ok scLaw (fun vs H Q E h => ?_) (fun cdv A outer s0 H vs Q E hr h => ?_)
  · obtain ⟨a, ns, rfl, _⟩ := h
    rfl
  · obtain ⟨a, ns, rfl, hS, hlen, q⟩ := h
    have nd := scLaw.nd
    have three : (0 : Int) < 3 := by decide
    refine ⟨_, pss_cons (ps_for PassesOwn.never rfl (pi_list (pe_op op_cat (pe_lst (pa_cons (pe_call GC (hr.mono (by decide)) (by rfl) gC kC bC .nil pass0 (pa_cons (pv 0) (pa_cons pe_int pa_nil))) pa_nil)) (pe_slice sl_list (pv 0) (po_some pe_int) (po_some pe_int)))) (pg_name (i := 1) nd rfl (.inl rfl))
        (pss_cons (ps_set (i := 2) nd rfl (.inl rfl) (pe_call GSr (hr.mono (by decide)) (by rfl) gSr kSr bSr .nil pass0 (pa_cons (pv 1) pa_nil)))
        (pss_cons (ps_par (i := 3) (j := 4) rfl nd rfl rfl (by decide) rfl rfl (pa_cons (pe_op op_sub (pe_call GN (hr.mono (by decide)) (by rfl) gN kN bN .nil pass0 (pa_cons (pv 2) (pa_cons pe_int pa_nil))) pe_int) (pa_cons (pe_op op_sub (pe_call GN (hr.mono (by decide)) (by rfl) gN kN bN .nil pass0 (pa_cons (pv 2) (pa_cons pe_int pa_nil))) pe_int) pa_nil)) rfl)
        (C8.pss_cut (ps_for PassesOwn.never rfl (pi_range1 rfl mr (pa_cons pe_int pa_nil)) (pg_name (i := 5) nd rfl (.inl rfl))
            (pss_cons (ps_par (i := 6) (j := 7) rfl nd rfl rfl (by decide) rfl rfl (pa_cons (pe_tup (pa_cons (pe_op op_add (pv 3) (pe_op op_mod (pe_callTy call_int1 (by rfl) mi (by decide +kernel) (pa_cons (pv 5) pa_nil)) pe_int)) (pa_cons (pe_op op_add (pv 4) (pe_op op_mod (pe_callTy call_int1 (by rfl) mi (by decide +kernel) (pa_cons (pe_op op_fdiv (pv 5) pe_int) pa_nil)) pe_int)) pa_nil))) (pa_cons (pe_tup (pa_cons (pe_op op_add (pv 3) (pe_op op_mod (pe_callTy call_int1 (by rfl) mi (by decide +kernel) (pa_cons (pe_op op_fdiv (pv 5) pe_int) pa_nil)) pe_int)) (pa_cons (pe_op op_add (pv 4) (pe_op op_mod (pe_callTy call_int1 (by rfl) mi (by decide +kernel) (pa_cons (pe_op op_fdiv (pv 5) pe_int) pa_nil)) pe_int)) pa_nil))) pa_nil)) rfl)
            (pss_one (ps_if (pt_not (pt_val (pe_call GR hr (by rfl) gR kR bR .nil pass0 (pa_cons (pv 6) (pa_cons (pv 7) (pa_cons (pe_tup (pa_cons (pe_op op_add (pv 3) (pe_op op_mod (pe_callTy call_int1 (by rfl) mi (by decide +kernel) (pa_cons (pe_op op_fdiv (pv 5) pe_int) pa_nil)) pe_int)) (pa_cons (pe_op op_add (pv 4) (pe_op op_mod (pe_callTy call_int1 (by rfl) mi (by decide +kernel) (pa_cons (pe_op op_fdiv (pv 5) pe_int) pa_nil)) pe_int)) pa_nil))) pa_nil)))))) (pss_one (ps_ret pe_bl)) pss_nil))))
        (C8.pss_cut (ps_for PassesOwn.never rfl (pi_range1 rfl mr (pa_cons pe_int pa_nil)) (pg_name (i := 8) nd rfl (.inl rfl))
            (pss_cons (ps_set (i := 9) nd rfl (.inl rfl) (pe_call GSi (hr.mono (by decide)) (by rfl) gSi kSi bSi .nil pass0 (pa_cons (pv 2) (pa_cons pe_int pa_nil))))
            (pss_cons (ps_par3 (i := 6) (j := 7) (l := 10) rfl nd rfl rfl rfl (by decide) (by decide) (by decide) rfl rfl rfl (pa_cons (pe_call GO (hr.mono (by decide)) (by rfl) gO kO bO .nil pass0 (pa_cons (pv 2) (pa_cons (pv 9) pa_nil))) (pa_cons (pe_call GO (hr.mono (by decide)) (by rfl) gO kO bO .nil pass0 (pa_cons (pv 2) (pa_cons (pv 9) pa_nil))) (pa_cons (pe_call GO (hr.mono (by decide)) (by rfl) gO kO bO .nil pass0 (pa_cons (pv 2) (pa_cons (pv 9) pa_nil))) pa_nil))) rfl)
            (pss_one (ps_if (pt_not (pt_val (pe_call GR hr (by rfl) gR kR bR .nil pass0 (pa_cons (pv 6) (pa_cons (pv 7) (pa_cons (pv 10) pa_nil)))))) (pss_one (ps_ret pe_bl)) pss_nil)))))
        (pss_cons (ps_set (i := 11) nd rfl (.inl rfl) (pe_op op_pow pe_int pe_int))
        (pss_cons (ps_if (pt_not (pt_val (pe_call GR hr (by rfl) gR kR bR .nil pass0 (pa_cons (pe_tup (pa_cons (pe_op op_sub pe_int (pv 11)) (pa_cons (pe_op op_sub pe_int (pv 11)) pa_nil))) (pa_cons (pe_tup (pa_cons (pv 11) (pa_cons (pv 11) pa_nil))) (pa_cons (pe_tup (pa_cons (pe_op op_sub (pv 11) pe_int) (pa_cons (pv 11) pa_nil))) pa_nil)))))) (pss_one (ps_ret pe_bl)) pss_nil)
        (pss_one (ps_if (pt_not (pt_val (pe_call GR hr (by rfl) gR kR bR .nil pass0 (pa_cons (pe_tup (pa_cons pe_int (pa_cons (pv 11) pa_nil))) (pa_cons (pe_tup (pa_cons pe_int (pa_cons (pe_op op_sub pe_int (pv 11)) pa_nil))) (pa_cons (pe_tup (pa_cons pe_int (pa_cons pe_int pa_nil))) pa_nil)))))) (pss_one (ps_ret pe_bl)) pss_nil)))))))))
      (pss_one (ps_ret pe_bl)), ?_⟩
    -- the numbers
    refine ⟨_, rfl, a, ns, rfl, hS, by omega, fun n0 H1 sm1 => ⟨by show 1 ≤ sizeLine; decide, fun L1 nL1 => ?_⟩⟩
    obtain ⟨ms, em, lm⟩ := cut_ints ns (some 1) (some 5)
    refine ⟨_, rfl, _, rfl, _, rfl, a, ns.map V.int, rfl, (sm1.trans (Same.upd nL1)).seq hS, fun L2 nL2 => ?_⟩
    refine ⟨L1, L2, _, _, rfl, rfl, (Same.upd nL2) _ _ upd_same, upd_same, ?_, fun L nL => ?_⟩
    · rw [em, List.length_map]
      exact Nat.le_trans (show _ ≤ 100 by show 1 + ms.length ≤ 100; omega) (by decide)
    have eL : (upd (upd (upd H1 L1 (.lst [.int n0])) L2 (.lst (cutV (ns.map V.int) (some 1) (some 5)))) L (.lst ([.int n0] ++ cutV (ns.map V.int) (some 1) (some 5)))) L = some (.lst ((n0 :: ms).map V.int)) := by
      rw [upd_same, em]
      rfl
    generalize upd (upd (upd H1 L1 (.lst [.int n0])) L2 (.lst (cutV (ns.map V.int) (some 1) (some 5)))) L (.lst ([.int n0] ++ cutV (ns.map V.int) (some 1) (some 5))) = G at eL
    refine ⟨L, rfl, ⟨_, SqL.of eL⟩, for_list (K := K) (a := L) (xs := (n0 :: ms).map V.int) (fun i σ' H' => (∃ y1 y2 y3 y4 y5 y6 y7 y8 y9 y10 y11, σ' = [some (.ref a), y1, y2, y3, y4, y5, y6, y7, y8, y9, y10, y11]) ∧ H' L = some (.lst ((n0 :: ms).map V.int)))
      ⟨⟨_, _, _, _, _, _, _, _, _, _, _, rfl⟩, eL⟩ (fun i σ' H' _ z => SqL.of z.2) ?_ (fun _ _ _ => q _)⟩
    rintro i x σ' H' ex ⟨⟨y1, y2, y3, y4, y5, y6, y7, y8, y9, y10, y11, rfl⟩, hL⟩
    obtain ⟨n, rfl⟩ : ∃ n, x = V.int n := by
      obtain ⟨n, _, e⟩ := List.mem_map.mp (List.mem_of_getElem? ex)
      exact ⟨n, e.symm⟩
    -- the source
    refine ⟨_, rfl, n, rfl, fun s p1 p2 p3 ns' => ?_⟩
    have hs : Src (upd H' s (.lst [.int p1, .int p2, .int p3])) s := ⟨p1, p2, p3, upd_same⟩
    have hLs : L ≠ s := ne_of_none hL ns'
    have hL1 : (upd H' s (.lst [.int p1, .int p2, .int p3])) L = some (.lst ((n0 :: ms).map V.int)) := by rw [upd_ne hLs]; exact hL
    generalize upd H' s (.lst [.int p1, .int p2, .int p3]) = G1 at hs hL1
    -- what stays
    let J : Hp → Prop := fun H' => Src H' s ∧ H' L = some (.lst ((n0 :: ms).map V.int))
    have Js : ∀ {H1 H2 : Hp}, J H1 → Stp s H1 H2 → J H2 := fun j st => ⟨st.src, st.keep _ _ hLs j.2⟩
    have Jn : ∀ {H1 : Hp} {p : Addr} {o : HO}, J H1 → H1 p = none → J (upd H1 p o) := fun j n => Js j ((Stp.refl j.1).new n)
    refine ⟨_, rfl, s, 2000, rfl, hs, by decide, sm (by decide), fun u0 Ha a0 a1 sta => ⟨_, _, rfl, rfl, _, rfl, s, 2000, rfl, sta.src, by decide, sm (by decide), fun v0 Hb b0 b1 stb => ⟨_, _, rfl, rfl, _, _, rfl, ?_⟩⟩⟩
    have j1 : J Hb := Js (Js ⟨hs, hL1⟩ sta) stb
    have hu1 : -1000 ≤ u0 - 1000 := by omega
    have hu2 : u0 - 1000 ≤ 1000 := by omega
    have hv1 : -1000 ≤ v0 - 1000 := by omega
    have hv2 : v0 - 1000 ≤ 1000 := by omega
    refine ⟨fun σ' H' => (∃ y5 y6 y7 y8 y9 y10 y11, σ' = [some (.ref a), some (.int n), some (.ref s), some (.int (u0 - 1000)), some (.int (v0 - 1000)), y5, y6, y7, y8, y9, y10, y11]) ∧ J H', ?_, ?_⟩
    · refine ⟨729, rfl, by decide, by decide, for_range (lo := 0) (n := 729) (fun i σ' H' => (∃ y5 y6 y7 y8 y9 y10 y11, σ' = [some (.ref a), some (.int n), some (.ref s), some (.int (u0 - 1000)), some (.int (v0 - 1000)), y5, y6, y7, y8, y9, y10, y11]) ∧ J H') ⟨⟨_, _, _, _, _, _, _, rfl⟩, j1⟩ ?_ (fun _ _ z => z)⟩
      rintro i σ' H' hi ⟨⟨y5, y6, y7, y8, y9, y10, y11, rfl⟩, j⟩
      refine ⟨_, rfl, _, rfl, .inl ⟨_, rfl, _, _, rfl, rfl, three, _, _, rfl, rfl, _, rfl, _, rfl, _, _, rfl, rfl, ⟨by decide, by decide⟩, .inl ⟨_, rfl, _, _, rfl, rfl, three, _, _, rfl, rfl, two_line, fun t1 n1 => ?_⟩⟩⟩
      have e1 : Sit (upd H' t1 (.tup [.int (u0 - 1000 + (0 + (i : Int)) % 3), .int (v0 - 1000 + (0 + (i : Int)) / 3 % 3)])) t1 (u0 - 1000 + (0 + (i : Int)) % 3) (v0 - 1000 + (0 + (i : Int)) / 3 % 3) := upd_same
      have k1 := Js j ((Stp.refl j.1).new (o := .tup [.int (u0 - 1000 + (0 + (i : Int)) % 3), .int (v0 - 1000 + (0 + (i : Int)) / 3 % 3)]) n1)
      generalize upd H' t1 (.tup [.int (u0 - 1000 + (0 + (i : Int)) % 3), .int (v0 - 1000 + (0 + (i : Int)) / 3 % 3)]) = G1 at e1 k1
      refine ⟨_, rfl, _, rfl, _, _, rfl, rfl, ⟨by decide, by decide⟩, .inl ⟨_, rfl, _, _, rfl, rfl, three, _, _, rfl, rfl, _, rfl, _, rfl, _, _, rfl, rfl, ⟨by decide, by decide⟩, .inl ⟨_, rfl, _, _, rfl, rfl, three, _, _, rfl, rfl, two_line, fun t2 n2 => ⟨_, _, rfl, ?_⟩⟩⟩⟩
      have e2 : Sit (upd G1 t2 (.tup [.int (u0 - 1000 + (0 + (i : Int)) / 9 % 3), .int (v0 - 1000 + (0 + (i : Int)) / 27 % 3)])) t2 (u0 - 1000 + (0 + (i : Int)) / 9 % 3) (v0 - 1000 + (0 + (i : Int)) / 27 % 3) := upd_same
      have k2 := Js k1 ((Stp.refl k1.1).new (o := .tup [.int (u0 - 1000 + (0 + (i : Int)) / 9 % 3), .int (v0 - 1000 + (0 + (i : Int)) / 27 % 3)]) n2)
      have e1' := e1.same (Same.upd (o := .tup [.int (u0 - 1000 + (0 + (i : Int)) / 9 % 3), .int (v0 - 1000 + (0 + (i : Int)) / 27 % 3)]) n2)
      generalize upd G1 t2 (.tup [.int (u0 - 1000 + (0 + (i : Int)) / 9 % 3), .int (v0 - 1000 + (0 + (i : Int)) / 27 % 3)]) = G2 at e2 k2 e1'
      refine ⟨_, rfl, _, rfl, _, rfl, _, rfl, _, _, rfl, rfl, ⟨by decide, by decide⟩, .inl ⟨_, rfl, _, _, rfl, rfl, three, _, _, rfl, rfl, _, rfl, _, rfl, _, _, rfl, rfl, ⟨by decide, by decide⟩, .inl ⟨_, rfl, _, _, rfl, rfl, three, _, _, rfl, rfl, two_line, fun t3 n3 => ?_⟩⟩⟩
      have k3 := Js k2 ((Stp.refl k2.1).new (o := .tup [.int (u0 - 1000 + (0 + (i : Int)) / 81 % 3), .int (v0 - 1000 + (0 + (i : Int)) / 243 % 3)]) n3)
      have bb : ∀ x y : Int, Bd 1000000 (u0 - 1000 + x % 3) (v0 - 1000 + y % 3) := fun x y => ⟨(near3 x hu1 hu2).1, (near3 x hu1 hu2).2, (near3 y hv1 hv2).1, (near3 y hv1 hv2).2⟩
      refine ⟨t1, t2, t3, _, _, _, _, _, _, rfl, e1'.same (Same.upd n3), e2.same (Same.upd n3), upd_same, bb _ _, bb _ _, bb _ _, _, rfl, ?_⟩
      exact ⟨⟨_, _, _, _, _, _, _, rfl⟩, k3⟩
    rintro σ' H' ⟨⟨y5, y6, y7, y8, y9, y10, y11, rfl⟩, j⟩
    -- drawn sites
    refine ⟨fun σ' H' => (∃ y5 y6 y7 y8 y9 y10 y11, σ' = [some (.ref a), some (.int n), some (.ref s), some (.int (u0 - 1000)), some (.int (v0 - 1000)), y5, y6, y7, y8, y9, y10, y11]) ∧ J H', ?_, ?_⟩
    · refine ⟨20, rfl, by decide, by decide, for_range (lo := 0) (n := 20) (fun i σ' H' => (∃ y5 y6 y7 y8 y9 y10 y11, σ' = [some (.ref a), some (.int n), some (.ref s), some (.int (u0 - 1000)), some (.int (v0 - 1000)), y5, y6, y7, y8, y9, y10, y11]) ∧ J H') ⟨⟨_, _, _, _, _, _, _, rfl⟩, j⟩ ?_ (fun _ _ z => z)⟩
      rintro i σ' H' hi ⟨⟨y5, y6, y7, y8, y9, y10, y11, rfl⟩, j⟩
      refine ⟨_, rfl, s, 6, rfl, j.1, by decide, by decide, fun p ts H1 st np ep l0 l6 tt => ?_⟩
      have j1 := Js j st
      have hps : p ≠ s := j.1.nen np
      have l1 : 0 < (ts.map V.ref).length := by rw [List.length_map]; exact l0
      have l2 : (ts.map V.ref).length ≤ 1000 := by rw [List.length_map]; omega
      refine ⟨_, rfl, _, rfl, s, p, _, rfl, j1.1, ep, hps, l1, l2, fun x1 H2 m1 st2 => ?_⟩
      have ep2 := st2.keep _ _ hps ep
      refine ⟨_, rfl, _, rfl, s, p, _, rfl, st2.src, ep2, hps, l1, l2, fun x2 H3 m2 st3 => ?_⟩
      have ep3 := st3.keep _ _ hps ep2
      refine ⟨_, rfl, _, rfl, s, p, _, rfl, st3.src, ep3, hps, l1, l2, fun x3 H4 m3 st4 => ⟨_, _, _, rfl, ?_⟩⟩
      have tt4 := ((tt.stp j1.1 st2).stp st2.src st3).stp st3.src st4
      obtain ⟨r1, w1, rfl⟩ := List.mem_map.mp m1
      obtain ⟨r2, w2, rfl⟩ := List.mem_map.mp m2
      obtain ⟨r3, w3, rfl⟩ := List.mem_map.mp m3
      obtain ⟨x1, y1, e1, b1⟩ := tt4 r1 w1
      obtain ⟨x2, y2, e2, b2⟩ := tt4 r2 w2
      obtain ⟨x3, y3, e3, b3⟩ := tt4 r3 w3
      refine ⟨_, rfl, _, rfl, _, rfl, r1, r2, r3, _, _, _, _, _, _, rfl, e1, e2, e3, b1, b2, b3, _, rfl, ?_⟩
      exact ⟨⟨_, _, _, _, _, _, _, rfl⟩, Js (Js (Js j1 st2) st3) st4⟩
    rintro σ' H' ⟨⟨y5, y6, y7, y8, y9, y10, y11, rfl⟩, j⟩
    -- far ones
    refine ⟨_, _, rfl, rfl, ⟨by decide, by decide, by decide⟩, ?_⟩
    refine ⟨_, rfl, _, _, rfl, rfl, _, rfl, _, _, rfl, rfl, two_line, fun t1 n1 => ⟨_, rfl, _, rfl, two_line, fun t2 n2 => ⟨_, rfl, _, _, rfl, rfl, _, rfl, two_line, fun t3 n3 => ?_⟩⟩⟩
    refine ⟨t1, t2, t3, _, _, _, _, _, _, rfl, (Same.upd n3) _ _ ((Same.upd n2) _ _ upd_same), (Same.upd n3) _ _ upd_same, upd_same, ⟨by decide, by decide, by decide, by decide⟩, ⟨by decide, by decide, by decide, by decide⟩, ⟨by decide, by decide, by decide, by decide⟩, _, rfl, ?_⟩
    refine ⟨_, rfl, two_line, fun t4 n4 => ⟨_, rfl, _, _, rfl, rfl, two_line, fun t5 n5 => ⟨two_line, fun t6 n6 => ?_⟩⟩⟩
    refine ⟨t4, t5, t6, _, _, _, _, _, _, rfl, (Same.upd n6) _ _ ((Same.upd n5) _ _ upd_same), (Same.upd n6) _ _ upd_same, upd_same, ⟨by decide, by decide, by decide, by decide⟩, ⟨by decide, by decide, by decide, by decide⟩, ⟨by decide, by decide, by decide, by decide⟩, _, rfl, ?_⟩
    exact ⟨⟨_, _, _, _, _, _, _, _, _, _, _, rfl⟩, (Jn (Jn (Jn (Jn (Jn (Jn j n1) n2) n3) n4) n5) n6).2⟩
end
/-! ### what the top has written; the law's own head -/
theorem all_mk {l : PySem.W.OpenLaw} {w : World} {K : PySem.W.Frag} {h : Heap} {mg : Str → Option Value} {fa fA fS fB fSr fN fO fC fSi fD fR fL : Addr} (X : K.In h) (G : h.Ns mainGlobals mg) (hfa : mg "law" = some (.ref fa))
    {odA anA : Option Addr} {slA : Array (Option Value)} {ocA kVA dcA pmA cdA ctA : Value}
    {odS anS : Option Addr} {slS : Array (Option Value)} {ocS kVS dcS pmS cdS ctS : Value}
    {odB anB : Option Addr} {slB : Array (Option Value)} {ocB kVB dcB pmB cdB ctB : Value}
    {odSr anSr : Option Addr} {slSr : Array (Option Value)} {ocSr kVSr dcSr pmSr cdSr ctSr : Value}
    {odN anN : Option Addr} {slN : Array (Option Value)} {ocN kVN dcN pmN cdN ctN : Value}
    {odO anO : Option Addr} {slO : Array (Option Value)} {ocO kVO dcO pmO cdO ctO : Value}
    {odC anC : Option Addr} {slC : Array (Option Value)} {ocC kVC dcC pmC cdC ctC : Value}
    {odSi anSi : Option Addr} {slSi : Array (Option Value)} {ocSi kVSi dcSi pmSi cdSi ctSi : Value}
    {odD anD : Option Addr} {slD : Array (Option Value)} {ocD kVD dcD pmD cdD ctD : Value}
    {odR anR : Option Addr} {slR : Array (Option Value)} {ocR kVR dcR pmR cdR ctR : Value}
    {odL anL : Option Addr} {slL : Array (Option Value)} {ocL kVL dcL pmL cdL ctL : Value}
    (aA : PySem.W.nsIn K mainGlobals "turn_of_sites" = some (some (.ref fA))) (lA : K.lookup fA = some ⟨ocA, odA, .func (PySem.W.fnOf "turn_of_sites" "turn_of_sites" (defArgs sToS) (defBody sToS) (defScope sToS) .none kVA dcA pmA anA cdA ctA), slA⟩) (cA : PySem.W.codeIn K cdA "turn_of_sites" = true) (kA : PySem.W.keepIn K (.ref fA) = true)
    (aS : PySem.W.nsIn K mainGlobals "side" = some (some (.ref fS))) (lS : K.lookup fS = some ⟨ocS, odS, .func (PySem.W.fnOf "side" "side" (defArgs sSide) (defBody sSide) (defScope sSide) .none kVS dcS pmS anS cdS ctS), slS⟩) (cS : PySem.W.codeIn K cdS "side" = true) (kS : PySem.W.keepIn K (.ref fS) = true)
    (aB : PySem.W.nsIn K mainGlobals "is_between" = some (some (.ref fB))) (lB : K.lookup fB = some ⟨ocB, odB, .func (PySem.W.fnOf "is_between" "is_between" (defArgs sBtw) (defBody sBtw) (defScope sBtw) .none kVB dcB pmB anB cdB ctB), slB⟩) (cB : PySem.W.codeIn K cdB "is_between" = true) (kB : PySem.W.keepIn K (.ref fB) = true)
    (aSr : PySem.W.nsIn K mainGlobals "_law_source_of" = some (some (.ref fSr))) (lSr : K.lookup fSr = some ⟨ocSr, odSr, .func (PySem.W.fnOf "_law_source_of" "_law_source_of" (defArgs sSrc) (defBody sSrc) (defScope sSrc) .none kVSr dcSr pmSr anSr cdSr ctSr), slSr⟩) (cSr : PySem.W.codeIn K cdSr "_law_source_of" = true) (kSr : PySem.W.keepIn K (.ref fSr) = true)
    (aN : PySem.W.nsIn K mainGlobals "_law_next" = some (some (.ref fN))) (lN : K.lookup fN = some ⟨ocN, odN, .func (PySem.W.fnOf "_law_next" "_law_next" (defArgs sNext) (defBody sNext) (defScope sNext) .none kVN dcN pmN anN cdN ctN), slN⟩) (cN : PySem.W.codeIn K cdN "_law_next" = true) (kN : PySem.W.keepIn K (.ref fN) = true)
    (aO : PySem.W.nsIn K mainGlobals "_law_one" = some (some (.ref fO))) (lO : K.lookup fO = some ⟨ocO, odO, .func (PySem.W.fnOf "_law_one" "_law_one" (defArgs sOne) (defBody sOne) (defScope sOne) .none kVO dcO pmO anO cdO ctO), slO⟩) (cO : PySem.W.codeIn K cdO "_law_one" = true) (kO : PySem.W.keepIn K (.ref fO) = true)
    (aC : PySem.W.nsIn K mainGlobals "_law_cell_at" = some (some (.ref fC))) (lC : K.lookup fC = some ⟨ocC, odC, .func (PySem.W.fnOf "_law_cell_at" "_law_cell_at" (defArgs sCell) (defBody sCell) (defScope sCell) .none kVC dcC pmC anC cdC ctC), slC⟩) (cC : PySem.W.codeIn K cdC "_law_cell_at" = true) (kC : PySem.W.keepIn K (.ref fC) = true)
    (aSi : PySem.W.nsIn K mainGlobals "_law_sites" = some (some (.ref fSi))) (lSi : K.lookup fSi = some ⟨ocSi, odSi, .func (PySem.W.fnOf "_law_sites" "_law_sites" (defArgs sSites) (defBody sSites) (defScope sSites) .none kVSi dcSi pmSi anSi cdSi ctSi), slSi⟩) (cSi : PySem.W.codeIn K cdSi "_law_sites" = true) (kSi : PySem.W.keepIn K (.ref fSi) = true)
    (aD : PySem.W.nsIn K mainGlobals "_law_due" = some (some (.ref fD))) (lD : K.lookup fD = some ⟨ocD, odD, .func (PySem.W.fnOf "_law_due" "_law_due" (defArgs sDue) (defBody sDue) (defScope sDue) .none kVD dcD pmD anD cdD ctD), slD⟩) (cD : PySem.W.codeIn K cdD "_law_due" = true) (kD : PySem.W.keepIn K (.ref fD) = true)
    (aR : PySem.W.nsIn K mainGlobals "_law_right" = some (some (.ref fR))) (lR : K.lookup fR = some ⟨ocR, odR, .func (PySem.W.fnOf "_law_right" "_law_right" (defArgs sRight) (defBody sRight) (defScope sRight) .none kVR dcR pmR anR cdR ctR), slR⟩) (cR : PySem.W.codeIn K cdR "_law_right" = true) (kR : PySem.W.keepIn K (.ref fR) = true)
    (aL : PySem.W.nsIn K mainGlobals "law" = some (some (.ref fL))) (lL : K.lookup fL = some ⟨ocL, odL, .func (PySem.W.fnOf "law" "law" (defArgs sLaw) (defBody sLaw) (defScope sLaw) .none kVL dcL pmL anL cdL ctL), slL⟩) (cL : PySem.W.codeIn K cdL "law" = true) (kL : PySem.W.keepIn K (.ref fL) = true)
    (zint : PySem.W.nsIn K mainGlobals "int" = some none)
    (zisinstance : PySem.W.nsIn K mainGlobals "isinstance" = some none)
    (ztuple : PySem.W.nsIn K mainGlobals "tuple" = some none)
    (zlen : PySem.W.nsIn K mainGlobals "len" = some none)
    (zmin : PySem.W.nsIn K mainGlobals "min" = some none)
    (zmax : PySem.W.nsIn K mainGlobals "max" = some none)
    (zrange : PySem.W.nsIn K mainGlobals "range" = some none)
    : ∃ fd : FuncData, (∀ (s : Shared) (v : Value), BindsTo s fd ⟨[v], []⟩ [("_law_script", v)]) ∧ ∀ base : Heap, K.In base → base.Ns mainGlobals mg → FnOk l.prog w K mg base CX0 7 fa fd ["_law_script"] (spLaw K) := by
  have e := hfa.symm.trans (PySem.W.mg_of X G aL)
  cases e
  have FA := fun_mk (st := sToS) lA cA kA
  have bA := FA.binds (ps := ["a", "b", "c"]) fun _ _ _ _ _ _ us hl => match us, hl with | [_, _, _], _ => rfl
  have gA := PySem.W.mg_of X G aA
  have FS := fun_mk (st := sSide) lS cS kS
  have bS := FS.binds (ps := ["a", "b", "c"]) fun _ _ _ _ _ _ us hl => match us, hl with | [_, _, _], _ => rfl
  have gS := PySem.W.mg_of X G aS
  have FB := fun_mk (st := sBtw) lB cB kB
  have bB := FB.binds (ps := ["a", "b", "c"]) fun _ _ _ _ _ _ us hl => match us, hl with | [_, _, _], _ => rfl
  have gB := PySem.W.mg_of X G aB
  have FSr := fun_mk (st := sSrc) lSr cSr kSr
  have bSr := FSr.binds (ps := ["_law_number_here"]) fun _ _ _ _ _ _ us hl => match us, hl with | [_], _ => rfl
  have gSr := PySem.W.mg_of X G aSr
  have FN := fun_mk (st := sNext) lN cN kN
  have bN := FN.binds (ps := ["_law_source", "_law_many"]) fun _ _ _ _ _ _ us hl => match us, hl with | [_, _], _ => rfl
  have gN := PySem.W.mg_of X G aN
  have FO := fun_mk (st := sOne) lO cO kO
  have bO := FO.binds (ps := ["_law_source", "_law_some"]) fun _ _ _ _ _ _ us hl => match us, hl with | [_, _], _ => rfl
  have gO := PySem.W.mg_of X G aO
  have FC := fun_mk (st := sCell) lC cC kC
  have bC := FC.binds (ps := ["_law_script", "_law_index"]) fun _ _ _ _ _ _ us hl => match us, hl with | [_, _], _ => rfl
  have gC := PySem.W.mg_of X G aC
  have FSi := fun_mk (st := sSites) lSi cSi kSi
  have bSi := FSi.binds (ps := ["_law_source", "_law_most"]) fun _ _ _ _ _ _ us hl => match us, hl with | [_, _], _ => rfl
  have gSi := PySem.W.mg_of X G aSi
  have FD := fun_mk (st := sDue) lD cD kD
  have bD := FD.binds (ps := ["_law_aa", "_law_bb", "_law_cc"]) fun _ _ _ _ _ _ us hl => match us, hl with | [_, _, _], _ => rfl
  have gD := PySem.W.mg_of X G aD
  have FR := fun_mk (st := sRight) lR cR kR
  have bR := FR.binds (ps := ["_law_aa", "_law_bb", "_law_cc"]) fun _ _ _ _ _ _ us hl => match us, hl with | [_, _, _], _ => rfl
  have gR := PySem.W.mg_of X G aR
  have FL := fun_mk (st := sLaw) lL cL kL
  have mint := PySem.W.mg_none_of X G zint
  have misinstance := PySem.W.mg_none_of X G zisinstance
  have mtuple := PySem.W.mg_none_of X G ztuple
  have mlen := PySem.W.mg_none_of X G zlen
  have mmin := PySem.W.mg_none_of X G zmin
  have mmax := PySem.W.mg_none_of X G zmax
  have mrange := PySem.W.mg_none_of X G zrange
  have kbB := kb_cba FB fun _ _ _ _ _ _ _ _ _ => rfl
  have kbS := kb_cba FS fun _ _ _ _ _ _ _ _ _ => rfl
  refine ⟨PySem.W.fnOf "law" "law" (defArgs sLaw) (defBody sLaw) (defScope sLaw) .none kVL dcL pmL anL cdL ctL, fun s v => .of_eq rfl, fun base _ _ => ?_⟩
  have GA := ok_tos (P := l.prog) (w := w) (base := base) (k := 3) FA misinstance mtuple mint mlen
  have GS := ok_side (k := 3) FS GA gA kA bA
  have GB := ok_btw (k := 3) FB GA gA kA bA
  have GD := ok_due (P := l.prog) (w := w) (mg := mg) (base := base) (k := 4) FD
  have GR := ok_right (k := 2) FR GD gD kD bD GB gB kB bB kbB GS gS kS bS kbS mmin mmax
  have GSr := ok_src (P := l.prog) (w := w) (base := base) (k := 0) FSr mint
  have GN := ok_next (P := l.prog) (w := w) (base := base) (k := 0) FN mint
  have GO := ok_one (k := 0) FO GN gN kN bN mlen
  have GC := ok_cell (P := l.prog) (w := w) (mg := mg) (base := base) (k := 0) FC
  have GSi := ok_sites (k := 0) FSi GN gN kN bN GO gO kO bO mrange
  exact ok_law FL GC gC kC bC GSr gSr kSr bSr GN gN kN bN GO gO kO bO GSi gSi kSi bSi GR gR kR bR mint mrange
end NcK
open PySem PySem.W PyProof.Rows
set_option maxHeartbeats 0 in
theorem PySem.Challenge.cw_nearcells_k01_signs_of_three_sites_holds : PySem.Challenge.rw_nearcells_k01_signs_of_three_sites.Holds := by
  w_on; o_law; k_head; (case hw => w_witness2)
  k_fill
  refine L2.walk_of (l := PySem.Challenge.rw_nearcells_k01_signs_of_three_sites) (n := 63) (k := 7) (x := "_law_script") (CX := fun _ => L2.CX0) (sp := fun w => NcK.spLaw _) rfl (by decide) rfl ⟨rfl, by decide, by decide⟩ (fun w h Y => PySem.W.kIn_of Y) ?F (fun _ _ a ns hl _ hS => ⟨a, ns, rfl, hS, hl, fun _ => rfl⟩) (fun _ _ _ _ _ h => h)
  case F =>
    intro w mg fa h KX G hmg
    refine' NcK.all_mk KX G hmg ?aA ?lA ?cA ?kA ?aS ?lS ?cS ?kS ?aB ?lB ?cB ?kB ?aSr ?lSr ?cSr ?kSr ?aN ?lN ?cN ?kN ?aO ?lO ?cO ?kO ?aC ?lC ?cC ?kC ?aSi ?lSi ?cSi ?kSi ?aD ?lD ?cD ?kD ?aR ?lR ?cR ?kR ?aL ?lL ?cL ?kL ?zint ?zisinstance ?ztuple ?zlen ?zmin ?zmax ?zrange
    (case aA => k_is); (case lA => k_is); (case cA => k_is); (case kA => k_is); (case aS => k_is); (case lS => k_is); (case cS => k_is); (case kS => k_is); (case aB => k_is); (case lB => k_is); (case cB => k_is); (case kB => k_is); (case aSr => k_is); (case lSr => k_is); (case cSr => k_is); (case kSr => k_is); (case aN => k_is); (case lN => k_is); (case cN => k_is); (case kN => k_is); (case aO => k_is); (case lO => k_is); (case cO => k_is); (case kO => k_is); (case aC => k_is); (case lC => k_is); (case cC => k_is); (case kC => k_is); (case aSi => k_is); (case lSi => k_is); (case cSi => k_is); (case kSi => k_is); (case aD => k_is); (case lD => k_is); (case cD => k_is); (case kD => k_is); (case aR => k_is); (case lR => k_is); (case cR => k_is); (case kR => k_is); (case aL => k_is); (case lL => k_is); (case cL => k_is); (case kL => k_is); (case zint => k_is); (case zisinstance => k_is); (case ztuple => k_is); (case zlen => k_is); (case zmin => k_is); (case zmax => k_is); (case zrange => k_is)
