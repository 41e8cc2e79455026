import PyProof.Rows.All
import Wide.All
import OpenK.AllK
import Wide.FinOn
import HandS.ForMost
import HandS.TupLe
import HandS.IsInst
import HandS.Wide
import HandS.Walk
import HandS.Gcd
import HandS.Codes
import HandS.Style
import KE.KMathG
import KE.KNestM
import KE.KLam
import PySem.Challenge.RW_nearcells_k03_whole_lifts_and_nearness
set_option Elab.async false
set_option linter.all false
set_option maxRecDepth 100000
set_option maxHeartbeats 4000000
/-! Own rules: min and max of two things that are compared by the heap (pairs); a call by keywords alone. -/
namespace Nc
open PySem PySem.Spec PyProof.Rows L2
section
variable {prog : Program} {w : World} {A : Around} {E : Value → Shared → Prop} {s : Shared} {va vb : Value} {k : Bool}
/-- all that stood before stands -/
abbrev KeepH (h h' : Heap) : Prop := ∀ c o, h.get? c = some o → h'.get? c = some o


/-- the loop of min behind its first item: best so far vx (twice at S), one more item vy to come, or none -/
theorem min_round {R : Result → Shared → Prop} {I S T : Addr} {vx vy : Value} {its : Array Value} {b : Bool} {c i : Nat} {s : Shared} (hh : A.handled = none) (hIT : T ≠ I) (hIS : S ≠ I) (hST : S ≠ T)
    (hit : s.heap.IsTupleIter I T i ∧ s.heap.IsTuple T its) (hy : its[i]? = some vy) (hend : its.size = i + 1) (hS : s.heap.get? S = some { cls := .type "list", dict := none, data := .seq #[vx, vx] c, slots := #[] })
    (hc : ∀ h' tk, (∀ b o, b ≠ I → s.heap.get? b = some o → h'.get? b = some o) → Ob.RcOp .Lt A.in1 { s with heap := h', toks := tk } vy vx b)
    (hR : ∀ h' tk, (∀ b o, b ≠ I → b ≠ S → s.heap.get? b = some o → h'.get? b = some o) → R (.ok (.ret (if b = true then vy else vx))) { s with heap := h', toks := tk }) :
    codeAny (model prog w) A (.builtin "min.loop" ⟨[.ref I, .none, .ref S], []⟩) R s := by
  have nm : (toString "min" ++ toString ".loop" : String) = "min.loop" := by decide
  have W := Walks.tuple (prog := prog) (w := w) (A := A.in1) hh I T hIT its
  -- no item is left: vz is handed back
  have last : ∀ (vz : Value) (c' : Nat) (s1 : Shared), s1.heap.IsTupleIter I T (i + 1) ∧ s1.heap.IsTuple T its → s1.heap.get? S = some { cls := .type "list", dict := none, data := .seq #[vz, vz] c', slots := #[] } →
      (∀ h' tk, (∀ b o, b ≠ I → b ≠ S → s1.heap.get? b = some o → h'.get? b = some o) → R (.ok (.ret vz)) { s1 with heap := h', toks := tk }) → codeAny (model prog w) A (.builtin "min.loop" ⟨[.ref I, .none, .ref S], []⟩) R s1 := by
    intro vz c' s1 st1 g1 r1
    obtain ⟨hp, gg, dd, tt, os⟩ := s1
    refine codeAny_builtin PySem.F.entry_min_loop ?_
    rw [Around.under_plainId PySem.F.plain_min_loop _]
    refine wpAny_bind (wpAny_seqItems g1 rfl (wpAny_bind (wpAny_tryCatch (W.done _ _ _ (hend ▸ st1) fun hq tk hk => ?_))))
    have g2 := hk S _ (fun z => hIS (List.mem_singleton.mp z)) g1
    refine wpAny_bind (wpAny_updateSeq g2 rfl (wpAny_bind (wpAny_letGo (wpAny_pure ?_))))
    exact r1 _ tk fun d o n1 n2 e => (Heap.get?_update_other _ _ (Ne.symm n2)).trans (hk d o (fun z => n1 (List.mem_singleton.mp z)) e)
  obtain ⟨hp, gg, dd, tt, os⟩ := s
  refine codeAny_builtin PySem.F.entry_min_loop ?_
  rw [Around.under_plainId PySem.F.plain_min_loop _]
  refine wpAny_bind (wpAny_seqItems hS rfl (wpAny_bind (wpAny_tryCatch (W.item i _ _ _ (by omega) hit fun v hq tk hP st hk => ?_))))
  have ev : v = vy := Option.some.inj ((show its[i]? = some v from hP).symm.trans hy)
  subst ev
  have kk : ∀ d o, d ≠ I → hp.get? d = some o → hq.get? d = some o := fun d o n e => hk d o (fun z => n (List.mem_singleton.mp z)) e
  have g2 := kk S _ hIS hS
  refine wpAny_bind (wpAny_pure ?_)
  show wpAny _ _ (tryCatch (holding [v, v] (richCompare _ v vx >>= _)) _ >>= _) _ _ _
  refine wpAny_bind (wpAny_tryCatch (wpAny_holding (wpAny_bind ((hc hq tk kk) prog w _ _ ?_))))
  refine wpAny_bind (wpAny_holding (wpAny_truthy_bool (wpAny_bind (wpAny_letGo (wpAny_pure ?_)))))
  cases b with
  | true =>
    simp only [if_true]
    refine wpAny_bind (wpAny_updateSeq g2 rfl (wpAny_bind (wpAny_letGo ?_)))
    rw [nm]
    have fr : ∀ d o, d ≠ S → hq.get? d = some o → (hq.update S fun o => { o with data := .seq #[v, v] (c + 1) }).get? d = some o := fun d o n e => (Heap.get?_update_other _ _ (Ne.symm n)).trans e
    refine wpAny_pure ⟨plainId_quiet PySem.F.plain_min_loop _, last v _ _ (W.frame _ _ _ st fun d hd o e => ?_) (Heap.get?_update_self _ g2 rfl) fun h' tk' hk' => ?_⟩
    · refine (Heap.get?_update_other _ _ ?_).trans e
      intro z
      rcases List.mem_cons.mp hd with q | q
      · exact hIS (z.trans q)
      · exact hST (z.trans (List.mem_singleton.mp q))
    · exact hR h' tk' fun d o n1 n2 e => hk' d o n1 n2 ((Heap.get?_update_other _ _ (Ne.symm n2)).trans (kk d o n1 e))
  | false =>
    simp only [Bool.false_eq_true, if_false]
    refine wpAny_bind (wpAny_letGo ?_)
    rw [nm]
    refine wpAny_pure ⟨plainId_quiet PySem.F.plain_min_loop _, last vx _ _ st g2 fun h' tk' hk' => ?_⟩
    exact hR h' tk' fun d o n1 n2 e => hk' d o n1 n2 (kk d o n1 e)

theorem min2_by {Q : Value → Shared → Prop} (hh : A.handled = none)
    (hc : ∀ h' tk, KeepH s.heap h' → Ob.RcOp .Lt A.in1 { s with heap := h', toks := tk } vb va k)
    (hq : ∀ h' tk, KeepH s.heap h' → Q (if k = true then vb else va) { s with heap := h', toks := tk }) :
    wpAny (model prog w) A (call (.builtin "min") [va, vb]) Q E s := by
  have nm : (toString "min" ++ toString ".loop" : String) = "min.loop" := by decide
  obtain ⟨hp, gg, dd, tt, os⟩ := s
  refine call_function_tree PySem.F.kind_min PySem.F.plain_min PySem.F.entry_min (PySem.F.args_min2 _ _) ?_
  refine wpAny_bind (wpAny_of_eq (show Builtin.Builtins.bindParams "min" ["key", "default"] 0 ⟨[], []⟩ = pure [none, none] from rfl) ?_)
  show wpAny _ A.in1 (newTuple [va, vb] >>= _) _ _ _
  have hT : (hp.push { cls := .type "tuple", data := .seq #[va, vb] }).IsTuple hp.objs.size #[va, vb] := ⟨_, Heap.get?_push_size _ rfl, rfl, 0, rfl⟩
  have z1 : (hp.push { cls := .type "tuple", data := .seq #[va, vb] }).objs.size = hp.objs.size + 1 := Heap.size_push ..
  have k1 : KeepH hp (hp.push { cls := .type "tuple", data := .seq #[va, vb] }) := fun c o e => Heap.get?_push_of_some _ e
  refine wpAny_bind (wpAny_newObj_type (wpAny_bind (wpAny_pyIter_tuple hT (wpAny_bind (wpAny_newObj_type ?_)))))
  generalize hp.push { cls := .type "tuple", data := .seq #[va, vb] } = h1 at *
  generalize eT : hp.objs.size = T at *
  generalize eI : h1.objs.size = I at *
  have gI : (h1.push { cls := .type "tuple_iterator", data := .fields #[.ref T, .int 0 0] }).get? I = some { cls := .type "tuple_iterator", data := .fields #[.ref T, .int 0 0] } := by
    rw [← eI]
    exact Heap.get?_push_size _ rfl
  have k2 : KeepH h1 (h1.push { cls := .type "tuple_iterator", data := .fields #[.ref T, .int 0 0] }) := fun c o e => Heap.get?_push_of_some _ e
  have z2 : (h1.push { cls := .type "tuple_iterator", data := .fields #[.ref T, .int 0 0] }).objs.size = I + 1 := by
    rw [← eI]
    exact Heap.size_push ..
  have hIT : T ≠ I := by omega
  obtain ⟨oT, gT, cT, nT, dT⟩ := hT
  generalize h1.push { cls := .type "tuple_iterator", data := .fields #[.ref T, .int 0 0] } = h2 at *
  have gS : (h2.push { cls := .type "list", data := .seq #[] }).get? h2.objs.size = some { cls := .type "list", data := .seq #[] } := Heap.get?_push_size _ rfl
  have k3 : KeepH h2 (h2.push { cls := .type "list", data := .seq #[] }) := fun c o e => Heap.get?_push_of_some _ e
  show wpAny _ _ (pure (Fin.again (Code.builtin (toString "min" ++ toString ".loop") ⟨[.ref I, .none, .ref h2.objs.size], []⟩))) _ _ ⟨h2.push { cls := .type "list", data := .seq #[] }, gg, dd, tt, os⟩
  rw [nm]
  generalize eS : h2.objs.size = S at *
  generalize h2.push { cls := .type "list", data := .seq #[] } = h3 at *
  have hIS : S ≠ I := by
    omega
  have hST : S ≠ T := by omega
  have W := Walks.tuple (prog := prog) (w := w) (A := A.in1) hh I T hIT #[va, vb]
  refine wpAny_pure ⟨plainId_quiet PySem.F.plain_min_loop _, ?_⟩
  refine codeAny_builtin PySem.F.entry_min_loop ?_
  rw [Around.under_plainId PySem.F.plain_min_loop _]
  have st0 : h3.IsTupleIter I T 0 ∧ h3.IsTuple T #[va, vb] := ⟨⟨_, k3 _ _ gI, rfl, rfl⟩, ⟨oT, k3 _ _ (k2 _ _ gT), cT, nT, dT⟩⟩
  refine wpAny_bind (wpAny_seqItems gS rfl (wpAny_bind (wpAny_tryCatch (W.item 0 ⟨h3, gg, dd, tt, os⟩ _ _ (by show 0 < 2; decide) st0 fun v hq' tk hP st hk => ?_))))
  have ev : v = va := (Option.some.inj (show some va = some v from hP)).symm
  subst ev
  refine wpAny_bind (wpAny_pure ?_)
  have kk : ∀ d o, d ≠ I → h3.get? d = some o → hq'.get? d = some o := fun d o n e => hk d o (fun z => n (List.mem_singleton.mp z)) e
  have g2 := kk S _ hIS gS
  show wpAny _ _ (updateSeq S (fun _ => #[v, v]) >>= _) _ _ _
  refine wpAny_bind (wpAny_updateSeq g2 rfl ?_)
  rw [nm]
  have all : ∀ d o, hp.get? d = some o → d ≠ I ∧ d ≠ S ∧ hq'.get? d = some o := fun d o e => by
    have l : d < T := eT ▸ Heap.lt_size e
    have lI : T < I := by omega
    have lS : T < S := by omega
    have n1 : d ≠ I := Nat.ne_of_lt (Nat.lt_trans l lI)
    exact ⟨n1, Nat.ne_of_lt (Nat.lt_trans l lS), kk d o n1 (k3 _ _ (k2 _ _ (k1 _ _ e)))⟩
  refine wpAny_pure ⟨plainId_quiet PySem.F.plain_min_loop _, min_round (i := 1) (its := #[v, vb]) (vy := vb) (vx := v) (T := T) (b := k) hh hIT hIS hST ?_ rfl rfl (Heap.get?_update_self _ g2 rfl) (fun h' tk' kp => ?_) fun h' tk' kp => ?_⟩
  · refine W.frame _ _ _ st fun d hd o e => (Heap.get?_update_other _ _ ?_).trans e
    intro z
    rcases List.mem_cons.mp hd with q | q
    · exact hIS (z.trans q)
    · exact hST (z.trans (List.mem_singleton.mp q))
  · refine hc h' tk' fun d o e => ?_
    obtain ⟨n1, n2, e2⟩ := all d o e
    exact kp d o n1 ((Heap.get?_update_other _ _ (Ne.symm n2)).trans e2)
  · refine hq h' tk' fun d o e => ?_
    obtain ⟨n1, n2, e2⟩ := all d o e
    exact kp d o n1 n2 ((Heap.get?_update_other _ _ (Ne.symm n2)).trans e2)


/-- the loop of max behind its first item: best so far vx (twice at S), one more item vy to come, or none -/
theorem max_round {R : Result → Shared → Prop} {I S T : Addr} {vx vy : Value} {its : Array Value} {b : Bool} {c i : Nat} {s : Shared} (hh : A.handled = none) (hIT : T ≠ I) (hIS : S ≠ I) (hST : S ≠ T)
    (hit : s.heap.IsTupleIter I T i ∧ s.heap.IsTuple T its) (hy : its[i]? = some vy) (hend : its.size = i + 1) (hS : s.heap.get? S = some { cls := .type "list", dict := none, data := .seq #[vx, vx] c, slots := #[] })
    (hc : ∀ h' tk, (∀ b o, b ≠ I → s.heap.get? b = some o → h'.get? b = some o) → Ob.RcOp .Gt A.in1 { s with heap := h', toks := tk } vy vx b)
    (hR : ∀ h' tk, (∀ b o, b ≠ I → b ≠ S → s.heap.get? b = some o → h'.get? b = some o) → R (.ok (.ret (if b = true then vy else vx))) { s with heap := h', toks := tk }) :
    codeAny (model prog w) A (.builtin "max.loop" ⟨[.ref I, .none, .ref S], []⟩) R s := by
  have nm : (toString "max" ++ toString ".loop" : String) = "max.loop" := by decide
  have W := Walks.tuple (prog := prog) (w := w) (A := A.in1) hh I T hIT its
  -- no item is left: vz is handed back
  have last : ∀ (vz : Value) (c' : Nat) (s1 : Shared), s1.heap.IsTupleIter I T (i + 1) ∧ s1.heap.IsTuple T its → s1.heap.get? S = some { cls := .type "list", dict := none, data := .seq #[vz, vz] c', slots := #[] } →
      (∀ h' tk, (∀ b o, b ≠ I → b ≠ S → s1.heap.get? b = some o → h'.get? b = some o) → R (.ok (.ret vz)) { s1 with heap := h', toks := tk }) → codeAny (model prog w) A (.builtin "max.loop" ⟨[.ref I, .none, .ref S], []⟩) R s1 := by
    intro vz c' s1 st1 g1 r1
    obtain ⟨hp, gg, dd, tt, os⟩ := s1
    refine codeAny_builtin PySem.F.entry_max_loop ?_
    rw [Around.under_plainId PySem.F.plain_max_loop _]
    refine wpAny_bind (wpAny_seqItems g1 rfl (wpAny_bind (wpAny_tryCatch (W.done _ _ _ (hend ▸ st1) fun hq tk hk => ?_))))
    have g2 := hk S _ (fun z => hIS (List.mem_singleton.mp z)) g1
    refine wpAny_bind (wpAny_updateSeq g2 rfl (wpAny_bind (wpAny_letGo (wpAny_pure ?_))))
    exact r1 _ tk fun d o n1 n2 e => (Heap.get?_update_other _ _ (Ne.symm n2)).trans (hk d o (fun z => n1 (List.mem_singleton.mp z)) e)
  obtain ⟨hp, gg, dd, tt, os⟩ := s
  refine codeAny_builtin PySem.F.entry_max_loop ?_
  rw [Around.under_plainId PySem.F.plain_max_loop _]
  refine wpAny_bind (wpAny_seqItems hS rfl (wpAny_bind (wpAny_tryCatch (W.item i _ _ _ (by omega) hit fun v hq tk hP st hk => ?_))))
  have ev : v = vy := Option.some.inj ((show its[i]? = some v from hP).symm.trans hy)
  subst ev
  have kk : ∀ d o, d ≠ I → hp.get? d = some o → hq.get? d = some o := fun d o n e => hk d o (fun z => n (List.mem_singleton.mp z)) e
  have g2 := kk S _ hIS hS
  refine wpAny_bind (wpAny_pure ?_)
  show wpAny _ _ (tryCatch (holding [v, v] (richCompare _ v vx >>= _)) _ >>= _) _ _ _
  refine wpAny_bind (wpAny_tryCatch (wpAny_holding (wpAny_bind ((hc hq tk kk) prog w _ _ ?_))))
  refine wpAny_bind (wpAny_holding (wpAny_truthy_bool (wpAny_bind (wpAny_letGo (wpAny_pure ?_)))))
  cases b with
  | true =>
    simp only [if_true]
    refine wpAny_bind (wpAny_updateSeq g2 rfl (wpAny_bind (wpAny_letGo ?_)))
    rw [nm]
    have fr : ∀ d o, d ≠ S → hq.get? d = some o → (hq.update S fun o => { o with data := .seq #[v, v] (c + 1) }).get? d = some o := fun d o n e => (Heap.get?_update_other _ _ (Ne.symm n)).trans e
    refine wpAny_pure ⟨plainId_quiet PySem.F.plain_max_loop _, last v _ _ (W.frame _ _ _ st fun d hd o e => ?_) (Heap.get?_update_self _ g2 rfl) fun h' tk' hk' => ?_⟩
    · refine (Heap.get?_update_other _ _ ?_).trans e
      intro z
      rcases List.mem_cons.mp hd with q | q
      · exact hIS (z.trans q)
      · exact hST (z.trans (List.mem_singleton.mp q))
    · exact hR h' tk' fun d o n1 n2 e => hk' d o n1 n2 ((Heap.get?_update_other _ _ (Ne.symm n2)).trans (kk d o n1 e))
  | false =>
    simp only [Bool.false_eq_true, if_false]
    refine wpAny_bind (wpAny_letGo ?_)
    rw [nm]
    refine wpAny_pure ⟨plainId_quiet PySem.F.plain_max_loop _, last vx _ _ st g2 fun h' tk' hk' => ?_⟩
    exact hR h' tk' fun d o n1 n2 e => hk' d o n1 n2 (kk d o n1 e)

theorem max2_by {Q : Value → Shared → Prop} (hh : A.handled = none)
    (hc : ∀ h' tk, KeepH s.heap h' → Ob.RcOp .Gt A.in1 { s with heap := h', toks := tk } vb va k)
    (hq : ∀ h' tk, KeepH s.heap h' → Q (if k = true then vb else va) { s with heap := h', toks := tk }) :
    wpAny (model prog w) A (call (.builtin "max") [va, vb]) Q E s := by
  have nm : (toString "max" ++ toString ".loop" : String) = "max.loop" := by decide
  obtain ⟨hp, gg, dd, tt, os⟩ := s
  refine call_function_tree PySem.F.kind_max PySem.F.plain_max PySem.F.entry_max (PySem.F.args_max2 _ _) ?_
  refine wpAny_bind (wpAny_of_eq (show Builtin.Builtins.bindParams "max" ["key", "default"] 0 ⟨[], []⟩ = pure [none, none] from rfl) ?_)
  show wpAny _ A.in1 (newTuple [va, vb] >>= _) _ _ _
  have hT : (hp.push { cls := .type "tuple", data := .seq #[va, vb] }).IsTuple hp.objs.size #[va, vb] := ⟨_, Heap.get?_push_size _ rfl, rfl, 0, rfl⟩
  have z1 : (hp.push { cls := .type "tuple", data := .seq #[va, vb] }).objs.size = hp.objs.size + 1 := Heap.size_push ..
  have k1 : KeepH hp (hp.push { cls := .type "tuple", data := .seq #[va, vb] }) := fun c o e => Heap.get?_push_of_some _ e
  refine wpAny_bind (wpAny_newObj_type (wpAny_bind (wpAny_pyIter_tuple hT (wpAny_bind (wpAny_newObj_type ?_)))))
  generalize hp.push { cls := .type "tuple", data := .seq #[va, vb] } = h1 at *
  generalize eT : hp.objs.size = T at *
  generalize eI : h1.objs.size = I at *
  have gI : (h1.push { cls := .type "tuple_iterator", data := .fields #[.ref T, .int 0 0] }).get? I = some { cls := .type "tuple_iterator", data := .fields #[.ref T, .int 0 0] } := by
    rw [← eI]
    exact Heap.get?_push_size _ rfl
  have k2 : KeepH h1 (h1.push { cls := .type "tuple_iterator", data := .fields #[.ref T, .int 0 0] }) := fun c o e => Heap.get?_push_of_some _ e
  have z2 : (h1.push { cls := .type "tuple_iterator", data := .fields #[.ref T, .int 0 0] }).objs.size = I + 1 := by
    rw [← eI]
    exact Heap.size_push ..
  have hIT : T ≠ I := by omega
  obtain ⟨oT, gT, cT, nT, dT⟩ := hT
  generalize h1.push { cls := .type "tuple_iterator", data := .fields #[.ref T, .int 0 0] } = h2 at *
  have gS : (h2.push { cls := .type "list", data := .seq #[] }).get? h2.objs.size = some { cls := .type "list", data := .seq #[] } := Heap.get?_push_size _ rfl
  have k3 : KeepH h2 (h2.push { cls := .type "list", data := .seq #[] }) := fun c o e => Heap.get?_push_of_some _ e
  show wpAny _ _ (pure (Fin.again (Code.builtin (toString "max" ++ toString ".loop") ⟨[.ref I, .none, .ref h2.objs.size], []⟩))) _ _ ⟨h2.push { cls := .type "list", data := .seq #[] }, gg, dd, tt, os⟩
  rw [nm]
  generalize eS : h2.objs.size = S at *
  generalize h2.push { cls := .type "list", data := .seq #[] } = h3 at *
  have hIS : S ≠ I := by
    omega
  have hST : S ≠ T := by omega
  have W := Walks.tuple (prog := prog) (w := w) (A := A.in1) hh I T hIT #[va, vb]
  refine wpAny_pure ⟨plainId_quiet PySem.F.plain_max_loop _, ?_⟩
  refine codeAny_builtin PySem.F.entry_max_loop ?_
  rw [Around.under_plainId PySem.F.plain_max_loop _]
  have st0 : h3.IsTupleIter I T 0 ∧ h3.IsTuple T #[va, vb] := ⟨⟨_, k3 _ _ gI, rfl, rfl⟩, ⟨oT, k3 _ _ (k2 _ _ gT), cT, nT, dT⟩⟩
  refine wpAny_bind (wpAny_seqItems gS rfl (wpAny_bind (wpAny_tryCatch (W.item 0 ⟨h3, gg, dd, tt, os⟩ _ _ (by show 0 < 2; decide) st0 fun v hq' tk hP st hk => ?_))))
  have ev : v = va := (Option.some.inj (show some va = some v from hP)).symm
  subst ev
  refine wpAny_bind (wpAny_pure ?_)
  have kk : ∀ d o, d ≠ I → h3.get? d = some o → hq'.get? d = some o := fun d o n e => hk d o (fun z => n (List.mem_singleton.mp z)) e
  have g2 := kk S _ hIS gS
  show wpAny _ _ (updateSeq S (fun _ => #[v, v]) >>= _) _ _ _
  refine wpAny_bind (wpAny_updateSeq g2 rfl ?_)
  rw [nm]
  have all : ∀ d o, hp.get? d = some o → d ≠ I ∧ d ≠ S ∧ hq'.get? d = some o := fun d o e => by
    have l : d < T := eT ▸ Heap.lt_size e
    have lI : T < I := by omega
    have lS : T < S := by omega
    have n1 : d ≠ I := Nat.ne_of_lt (Nat.lt_trans l lI)
    exact ⟨n1, Nat.ne_of_lt (Nat.lt_trans l lS), kk d o n1 (k3 _ _ (k2 _ _ (k1 _ _ e)))⟩
  refine wpAny_pure ⟨plainId_quiet PySem.F.plain_max_loop _, max_round (i := 1) (its := #[v, vb]) (vy := vb) (vx := v) (T := T) (b := k) hh hIT hIS hST ?_ rfl rfl (Heap.get?_update_self _ g2 rfl) (fun h' tk' kp => ?_) fun h' tk' kp => ?_⟩
  · refine W.frame _ _ _ st fun d hd o e => (Heap.get?_update_other _ _ ?_).trans e
    intro z
    rcases List.mem_cons.mp hd with q | q
    · exact hIS (z.trans q)
    · exact hST (z.trans (List.mem_singleton.mp q))
  · refine hc h' tk' fun d o e => ?_
    obtain ⟨n1, n2, e2⟩ := all d o e
    exact kp d o n1 ((Heap.get?_update_other _ _ (Ne.symm n2)).trans e2)
  · refine hq h' tk' fun d o e => ?_
    obtain ⟨n1, n2, e2⟩ := all d o e
    exact kp d o n1 n2 ((Heap.get?_update_other _ _ (Ne.symm n2)).trans e2)

end
/-! ### min(t, u), max(t, u) of two tuples of ints -/
/-- t < u by the model's own look from place to place -/
def lexP (lt : Int → Int → Bool) (e : Bool) (ns ms : List Int) : Bool := Ob.lexAt (fun j => decide (ns.getD j 0 = ms.getD j 0)) (fun j => lt (ns.getD j 0) (ms.getD j 0)) e 0 (min ns.length ms.length)
section
variable {X : Cx}
theorem tup_ops {s : Shared} {pins : List (Addr × Obj)} {σ : L2.St} {H : Hp} {a b : Addr} {ns ms : List Int} (I : L2.Inv X pins σ H s) (ha : H a = some (.tup (ns.map V.int))) (hb : H b = some (.tup (ms.map V.int))) (hu : X.A.units + 1 < cLine) (h' : Heap) (tk : Nat) (kp : KeepH s.heap h') :
    Ob.RcOp .Lt X.A.in1 { s with heap := h', toks := tk } (.ref a) (.ref b) (lexP (fun x y => decide (x < y)) (decide (ns.length < ms.length)) ns ms) ∧
    Ob.RcOp .Gt X.A.in1 { s with heap := h', toks := tk } (.ref a) (.ref b) (lexP (fun x y => decide (x > y)) (decide (ns.length > ms.length)) ns ms) := by
  obtain ⟨its, r1, p1, _⟩ := I.tuple (SqT.of ha)
  obtain ⟨its2, r2, p2, _⟩ := I.tuple (SqT.of hb)
  have i1 : IntsAre its ns := Vals.ints r1
  have i2 : IntsAre its2 ms := Vals.ints r2
  have e1 : its.toArray.size = ns.length := by rw [List.size_toArray]; exact i1.length
  have e2 : its2.toArray.size = ms.length := by rw [List.size_toArray]; exact i2.length
  obtain ⟨o1, g1, c1, n1, d1⟩ := p1
  obtain ⟨o2, g2, c2, n2, d2⟩ := p2
  have q1 : Heap.IsTuple h' a its.toArray := ⟨o1, kp _ _ g1, c1, n1, d1⟩
  have q2 : Heap.IsTuple h' b its2.toArray := ⟨o2, kp _ _ g2, c2, n2, d2⟩
  have at1 : ∀ j (h1 : j < its.toArray.size), ∃ t, its.toArray[j] = .int (ns.getD j 0) t := fun j h1 => PyProof.Rows.IntsAre.int_at i1 _ _ (by simp at h1; simp [h1])
  have at2 : ∀ j (h1 : j < its2.toArray.size), ∃ t, its2.toArray[j] = .int (ms.getD j 0) t := fun j h1 => PyProof.Rows.IntsAre.int_at i2 _ _ (by simp at h1; simp [h1])
  have eqs : ∀ (B : Around) (s2 : Shared) j (h1 : j < its.toArray.size) (h2 : j < its2.toArray.size), SeqAt.EqAt B s2 its.toArray[j] its2.toArray[j] (decide (ns.getD j 0 = ms.getD j 0)) := fun B s2 j h1 h2 => by
    obtain ⟨t, et⟩ := at1 j h1
    obtain ⟨t', et'⟩ := at2 j h2
    rw [et, et', ← Bool.beq_eq_decide_eq]
    exact SeqAt.EqAt.int_int _ _ _ _
  constructor
  · have R := Ob.RcOp.tuples_lt (A := X.A.in1) (s := { s with heap := h', toks := tk }) (e := fun j => decide (ns.getD j 0 = ms.getD j 0)) (r := fun j => decide (ns.getD j 0 < ms.getD j 0)) q1 q2 hu (eqs _ _) (fun j h1 h2 _ => by
      obtain ⟨t, et⟩ := at1 j h1
      obtain ⟨t', et'⟩ := at2 j h2
      rw [et, et']
      exact Ob.RcOp.lt_int _ _ _ _)
    rw [e1, e2] at R
    exact R
  · have R := Ob.RcOp.tuples_gt (A := X.A.in1) (s := { s with heap := h', toks := tk }) (e := fun j => decide (ns.getD j 0 = ms.getD j 0)) (r := fun j => decide (ns.getD j 0 > ms.getD j 0)) q1 q2 hu (eqs _ _) (fun j h1 h2 _ => by
      obtain ⟨t, et⟩ := at1 j h1
      obtain ⟨t', et'⟩ := at2 j h2
      rw [et, et']
      exact Ob.RcOp.gt_int _ _ _ _)
    rw [e1, e2] at R
    exact R
/-- min(t, u), max(t, u), both tracked tuples of ints: one of the two themselves -/
def rBest (lt : List Int → List Int → Bool) : List V → Hp → VK → Prop := fun xs H Q => ∃ (a b : Addr) (ns ms : List Int), xs = [.ref a, .ref b] ∧ H a = some (.tup (ns.map V.int)) ∧ H b = some (.tup (ms.map V.int)) ∧ Q (.ref (if lt ms ns = true then b else a)) H
theorem call_minT (hc : X.calm = true) (hu : X.A.units + 1 < cLine) : CallR X (.builtin "min") (rBest fun ns ms => lexP (fun x y => decide (x < y)) (decide (ns.length < ms.length)) ns ms) := by
  intro pins s σ H xs us Q I r h
  obtain ⟨a, b, ns, ms, rfl, ha, hb, q⟩ := h
  obtain ⟨u, w', rfl, r1, r2⟩ := vals2 r
  cases r1
  cases r2
  refine min2_by (I.ok.hd hc) (fun h' tk kp => (tup_ops I hb ha hu h' tk kp).1) fun h' tk kp => ⟨_, H, I.kept kp, ?_, q⟩
  split <;> rfl
theorem call_maxT (hc : X.calm = true) (hu : X.A.units + 1 < cLine) : CallR X (.builtin "max") (rBest fun ns ms => lexP (fun x y => decide (x > y)) (decide (ns.length > ms.length)) ns ms) := by
  intro pins s σ H xs us Q I r h
  obtain ⟨a, b, ns, ms, rfl, ha, hb, q⟩ := h
  obtain ⟨u, w', rfl, r1, r2⟩ := vals2 r
  cases r1
  cases r2
  refine max2_by (I.ok.hd hc) (fun h' tk kp => (tup_ops I hb ha hu h' tk kp).2) fun h' tk kp => ⟨_, H, I.kept kp, ?_, q⟩
  split <;> rfl
end
/-! ### f(k = v, ..), keywords alone -/
section
variable {X : Cx} {CX : CXT} {k : Nat} {f : Addr} {fd : FuncData} {ps ks : List Str} {sp : Sp} {x : Str} {p pos : Pos} {E : XK} {tk : TA} {kws : List Keyword} {g : List Value → List Value → List Value} {gV : List V → List V → List V}
theorem pe_callKw (F : FnOk X.prog X.w X.K X.mg X.base CX k f fd ps sp) (hr : Room k X.A) (hg : Gl X x) (hm : X.mg x = some (.ref f)) (hk : PySem.W.keepIn X.K (.ref f) = true) (hb : KBinds X.K fd ps ks g gV) (hx : Passes CX X E)
    (hkw : PK X kws tk) (hall : (backToKw pos (keywordEach kws X.env)).all (·.1.isSome) = true := by rfl) (hks : (backToKw pos (keywordEach kws X.env)).filterMap (·.1) = ks := by rfl)
    (hdb : (x == ("__debug__" : Str)) = false := by decide) (hpl : ((backTo pos (starEach [] X.env)).any (·.1) || (backToKw pos (keywordEach kws X.env)).any (·.1.isNone)) = false := by rfl) :
    PE X (.Call (.Name x p) [] kws pos) (fun σ H Q => tk σ H fun zs H2 => sp (gV [] zs) H2 Q E) := by
  refine ⟨fun pins s σ H Q I h => ?_⟩
  refine wpAny_Call_Name_kw (ld_glob I hg hm ?_ hdb)
  refine PySem.W.callWith_KW0 (h₀ := X.base) I.ok.mod.kin hk hall (thn (hkw.run pos pins s σ H _ I h) fun ws s2 ⟨zs, H2, I2, rz, q2⟩ => ⟨I2.kIn, ?_⟩) hpl
  rw [hks]
  exact run_fnk (us := []) (vs := []) F hr hb hx I2 .nil rz q2
end
/-! ### what a source is, and what a step leaves -/
/-- a source at s: three ints -/
def Src (H : Hp) (s : Addr) : Prop := ∃ a b c : Int, H s = some (.lst [.int a, .int b, .int c])
theorem Src.ne {H : Hp} {s p : Addr} {o : HO} (h : Src H s) (e : H p = some o) (d : ∀ a b c : Int, o ≠ .lst [.int a, .int b, .int c]) : p ≠ s := by
  obtain ⟨a, b, c, q⟩ := h
  exact ne_of e q (d a b c)
theorem Src.nen {H : Hp} {s p : Addr} (h : Src H s) (e : H p = none) : p ≠ s := by
  obtain ⟨a, b, c, q⟩ := h
  exact (ne_of_none q e).symm
/-- from H to H' all stands but the source at s, which is still one -/
structure Stp (s : Addr) (H H' : Hp) : Prop where
  keep : ∀ b o, b ≠ s → H b = some o → H' b = some o
  src : Src H' s
theorem Stp.refl {s : Addr} {H : Hp} (h : Src H s) : Stp s H H := ⟨fun _ _ _ e => e, h⟩
theorem Stp.trans {s : Addr} {H H1 H2 : Hp} (a : Stp s H H1) (b : Stp s H1 H2) : Stp s H H2 := ⟨fun c o n e => b.keep c o n (a.keep c o n e), b.src⟩
theorem Stp.new {s : Addr} {H H' : Hp} {p : Addr} {o : HO} (a : Stp s H H') (n : H' p = none) : Stp s H (upd H' p o) := by
  obtain ⟨x, y, z, e⟩ := a.src
  refine ⟨fun b u nb eb => ?_, x, y, z, ?_⟩
  · have q := a.keep b u nb eb
    rw [upd_ne (ne_of_none q n)]
    exact q
  · rw [upd_ne (ne_of_none e n)]
    exact e
theorem Stp.turn {s : Addr} {H H' : Hp} (a : Stp s H H') (x y z : Int) : Stp s H (upd H' s (.lst [.int x, .int y, .int z])) :=
  ⟨fun b u nb eb => by rw [upd_ne nb]; exact a.keep b u nb eb, x, y, z, upd_same⟩
theorem Stp.free {s p : Addr} {H H' : Hp} (a : Stp s H H') (n : H' p = none) : H p = none := by
  cases q : H p with
  | none => rfl
  | some o =>
    have np : p ≠ s := a.src.nen n
    rw [a.keep _ _ np q] at n
    cases n
theorem Stp.set {s : Addr} {H H' : Hp} {p : Addr} {o : HO} (a : Stp s H H') (n : H p = none) (np : p ≠ s) : Stp s H (upd H' p o) := by
  obtain ⟨x, y, z, e⟩ := a.src
  refine ⟨fun b u nb eb => ?_, x, y, z, ?_⟩
  · rw [upd_ne (ne_of_none eb n)]
    exact a.keep b u nb eb
  · rw [upd_ne np.symm]
    exact e
/-- a site at t -/
def Sit (H : Hp) (t : Addr) (x y : Int) : Prop := H t = some (.tup [.int x, .int y])
theorem Sit.ne {H : Hp} {s t : Addr} {x y : Int} (h : Sit H t x y) (q : Src H s) : t ≠ s := q.ne h fun _ _ _ z => by cases z
theorem Sit.stp {H H' : Hp} {s t : Addr} {x y : Int} (h : Sit H t x y) (q : Src H s) (a : Stp s H H') : Sit H' t x y := a.keep _ _ (h.ne q) h
theorem Sit.same {H H' : Hp} {t : Addr} {x y : Int} (h : Sit H t x y) (a : Same H H') : Sit H' t x y := a _ _ h

theorem b2i_small (b : Bool) : -(2 ^ 64) < (if b = true then (1 : Int) else 0) ∧ (if b = true then (1 : Int) else 0) < 2 ^ 64 := by cases b <;> decide
theorem sm {m : Int} (h : m.natAbs < 2 ^ 64) : m.natAbs < 2 ^ 8000 := Nat.lt_of_lt_of_le h (Nat.pow_le_pow_right (by decide) (by decide))
theorem Same.upd {H : Hp} {p : Addr} {o : HO} (h : H p = none) : Same H (upd H p o) := fun b x e => by
  rw [upd_ne (ne_of_none e h)]
  exact e
theorem Stp.same {s : Addr} {H H1 H2 : Hp} (a : Stp s H H1) (b : Same H1 H2) : Stp s H H2 := by
  obtain ⟨x, y, z, e⟩ := a.src
  exact ⟨fun c o n q => b _ _ (a.keep c o n q), x, y, z, b _ _ e⟩
/-! ### ** 2 and // of great numbers, of either sign -/
def CSq (i j : Int) : Prop := j = 2 ∧ i.natAbs < 2 ^ 1000
theorem op_sq {X : Cx} : OpR X (binaryOp .Pow) (rI CSq fun i _ => .int (i * i)) := opI fun i j _ _ _ _ _ hc q => by
  obtain ⟨rfl, hb⟩ := hc
  refine pow_int (by decide) ?_ (by rw [show i ^ (2 : Int).toNat = i * i from Int.pow_succ i 1 ▸ by rw [Int.pow_one]]; exact q)
  have b : Builtin.Int.intBits i ≤ i.natAbs.log2 + 1 := by
    unfold Builtin.Int.intBits
    split <;> omega
  have l := PySem.Flt.log2_lt_of (by decide : 0 < 1000) hb
  omega
def CDivE (_ j : Int) : Prop := j ≠ 0 ∧ j.natAbs < 2 ^ 8000
theorem op_fdivE {X : Cx} : OpR X (binaryOp .FloorDiv) (rI CDivE fun i j => .int (i.fdiv j)) := opI fun i j _ _ _ _ _ hc q =>
  floordiv_int hc.1 q (.inl (PyProof.noPylong_of_log2 (Nat.lt_of_lt_of_le (PySem.Flt.log2_lt_of (by decide) hc.2) (by decide))))
/-! ### readings made weaker -/
theorem peOf {X : Cx} {e : Expr} {t t' : TE} (h : PE X e t) (m : ∀ σ H Q, t' σ H Q → t σ H Q) : PE X e t' := ⟨fun pins s σ H Q I hw => h.run pins s σ H Q I (m σ H Q hw)⟩
theorem paOf {X : Cx} {es : List Expr} {t t' : TA} (h : PA X es t) (m : ∀ σ H Q, t' σ H Q → t σ H Q) : PA X es t' := ⟨fun pos pins s σ H Q I hw => h.run pos pins s σ H Q I (m σ H Q hw)⟩
theorem psOf {X : Cx} {st : Stmt} {t t' : TS} (h : PS X st t) (m : ∀ D σ H, t' D σ H → t D σ H) : PS X st t' := ⟨fun pins s σ H D I hw => h.run pins s σ H D I (m D σ H hw)⟩
theorem pssOf {X : Cx} {st : List Stmt} {t t' : TS} (h : PSs X st t) (m : ∀ D σ H, t' D σ H → t D σ H) : PSs X st t' := ⟨fun pins s σ H D I hw => h.run pins s σ H D I (m D σ H hw)⟩
/-- a written number with a minus -/
theorem pe_neg {X : Cx} {i : Int} {j : Nat} {p p2 : Pos} : PE X (.UnaryOp .USub (.Constant (.int i) j p) p2) (tC (.int (-i))) := peOf (pe_un un_neg pe_int) fun _ _ _ h => ⟨_, rfl, h⟩
/-! ### displays of sites -/
def Bd (b x y : Int) : Prop := -b ≤ x ∧ x ≤ b ∧ -b ≤ y ∧ y ≤ b
theorem Bd.mono {b c x y : Int} (h : Bd b x y) (l : b ≤ c) : Bd c x y := by
  obtain ⟨h1, h2, h3, h4⟩ := h
  exact ⟨by omega, by omega, by omega, by omega⟩
/-- every address of ps a site within b -/
def Sits (b : Int) (H : Hp) (ps : List Addr) : Prop := ∀ p ∈ ps, ∃ x y, Sit H p x y ∧ Bd b x y
theorem Sits.same {b : Int} {H H' : Hp} {ps : List Addr} (h : Sits b H ps) (a : Same H H') : Sits b H' ps := fun p m => by
  obtain ⟨x, y, e, d⟩ := h p m
  exact ⟨x, y, a _ _ e, d⟩
theorem Sits.stp {b : Int} {s : Addr} {H H' : Hp} {ps : List Addr} (h : Sits b H ps) (q : Src H s) (a : Stp s H H') : Sits b H' ps := fun p m => by
  obtain ⟨x, y, e, d⟩ := h p m
  exact ⟨x, y, e.stp q a, d⟩
theorem Sits.put {b : Int} {H : Hp} {ps : List Addr} {p : Addr} {o : HO} (h : Sits b H ps) (n : ∀ x y, H p ≠ some (.tup [.int x, .int y])) : Sits b (upd H p o) ps := fun r m => by
  obtain ⟨x, y, e, d⟩ := h r m
  refine ⟨x, y, ?_, d⟩
  show upd H p o r = _
  rw [upd_ne (fun z => n x y (by rw [← z]; exact e))]
  exact e
def tSit (b : Int) : TE := fun _ H Q => ∀ (p : Addr) H' (x y : Int), Same H H' → H p = none → Sit H' p x y → Bd b x y → Q (.ref p) H'
def tSits (b : Int) (n : Nat) : TA := fun _ H Q => ∀ (ps : List Addr) H', Same H H' → ps.length = n → Sits b H' ps → Q (ps.map V.ref) H'
theorem two_line : 2 ≤ sizeLine := by decide
theorem pe_sit {X : Cx} {e1 e2 : Expr} {k : Nat} {pos : Pos} {x y b : Int} (h : PA X [e1, e2] (tCons (tC (.int x)) (tCons (tC (.int y)) tNil))) (hb : Bd b x y) : PE X (.Tuple [e1, e2] k pos) (tSit b) :=
  peOf (pe_tup h) fun _ H Q q => ⟨two_line, fun p np => q p _ x y (Same.upd np) np upd_same hb⟩
theorem sits_nil {b : Int} : ∀ σ H Q, tSits b 0 σ H Q → tNil σ H Q := fun _ H Q q => q [] H (Same.refl _) rfl (fun _ m => nomatch m)
theorem sits_cons {b : Int} {n : Nat} : ∀ σ H Q, tSits b (n + 1) σ H Q → tCons (tSit b) (tSits b n) σ H Q := fun _ H Q q p H1 x y s1 _ e d ps H2 s2 l h => by
  refine q (p :: ps) H2 (s1.trans s2) (by rw [List.length_cons, l]) fun r m => ?_
  rcases List.mem_cons.mp m with rfl | m
  · exact ⟨x, y, s2 _ _ e, d⟩
  · exact h r m
theorem pa_sits0 {X : Cx} {b : Int} : PA X [] (tSits b 0) := paOf pa_nil sits_nil
theorem pa_sits {X : Cx} {e : Expr} {es : List Expr} {b : Int} {n : Nat} (h : PE X e (tSit b)) (hs : PA X es (tSits b n)) (st : starEach (e :: es) X.env = (false, eval e X.env) :: starEach es X.env := by rfl) : PA X (e :: es) (tSits b (n + 1)) := paOf (pa_cons h hs st) sits_cons
end Nc


/-! Own rules: math.gcd of three ints. -/
namespace Nc
open PySem PySem.Spec PyProof.Rows L2
section
open PySem.Calls
theorem gcd3_run (a : Int) (t : Tok) (b : Int) (u : Tok) (c : Int) (v : Tok) :
    Gives (Builtin.«math.gcd» ⟨[.int a t, .int b u, .int c v], []⟩) (.int (((((Nat.gcd 0 a.natAbs).gcd b.natAbs).gcd c.natAbs : Nat) : Int))) :=
  .of_wp fun M A E s Q h => by obtain ⟨hp, g, d, tk, os⟩ := s; wp_walk; exact ⟨_, rfl, h⟩
theorem gcd3_args (a b c : Value) : argsOk "math.gcd" ⟨[a, b, c], []⟩ := by unfold argsOk; kernel_rfl
end
section
variable {X : Cx}
def rGcd3 : List V → Hp → VK → Prop := fun vs H Q => ∃ a b c : Int, vs = [.int a, .int b, .int c] ∧ Q (.int ((Nat.gcd (Nat.gcd a.natAbs b.natAbs) c.natAbs : Nat) : Int)) H
theorem cr_gcd3 : CallR X (.builtin "math.gcd") rGcd3 := by
  intro pins s σ H vs us Q I r h
  obtain ⟨a, b, c, rfl, q⟩ := h
  cases r with
  | cons r1 r => cases r with
    | cons r2 r => cases r with
      | cons r3 r =>
        cases r
        obtain ⟨t1, rfl⟩ := r1
        obtain ⟨t2, rfl⟩ := r2
        obtain ⟨t3, rfl⟩ := r3
        have g := gcd3_run a t1 b t2 c t3
        rw [Nat.gcd_zero_left] at g
        exact call_function_meets PySem.W.MGF.kind_gcd PySem.W.MGF.plain_gcd PySem.W.MGF.entry_gcd (gcd3_args _ _ _) g.meets ⟨.int _, H, I.tok _, ⟨_, rfl⟩, q⟩
end
end Nc

/-! Own rules: small steps that answer what a term asks: used by the local macros of walk.txt. -/
namespace Nc
open PySem PySem.Spec PyProof.Rows L2
section
variable {K : PySem.W.Frag} {H : Hp} {Q : VK} {p q : Addr} {xs ys : List V} {i j : Int} {v x y : V}
theorem w_ixT (h : H p = some (.tup xs)) (e : atI xs i = some v) (z : Q v H) : rIxT K (.ref p) (.int i) H Q := ⟨_, _, _, _, rfl, rfl, SqT.of h, e, z⟩
theorem w_ixL (h : H p = some (.lst xs)) (e : atI xs i = some v) (z : Q v H) : rIxL K (.ref p) (.int i) H Q := ⟨_, _, _, _, rfl, rfl, SqL.of h, e, z⟩
theorem w_gtup {n : Nat} {t : TGs} {σ : L2.St} {Qs : L2.St → Hp → Prop} (h : H p = some (.tup xs)) (e : xs.length = n) (z : t xs σ H Qs) : gTup K n t (.ref p) σ H Qs := ⟨_, _, rfl, SqT.of h, e, z⟩
theorem w_itt {p A B : Prop} [Decidable p] (h : p) (a : A) : if decide p = true then A else B := by
  rw [decide_eq_true h, if_pos rfl]
  exact a
theorem w_itf {p A B : Prop} [Decidable p] (h : ¬ p) (b : B) : if decide p = true then A else B := by
  rw [decide_eq_false h, if_neg (by decide)]
  exact b
theorem w_ntt {p A B : Prop} [Decidable p] (h : p) (b : B) : if (!decide p) = true then A else B := by
  rw [decide_eq_true h, if_neg (by decide)]
  exact b
theorem w_ntf {p A B : Prop} [Decidable p] (h : ¬ p) (a : A) : if (!decide p) = true then A else B := by
  rw [decide_eq_false h, if_pos (by decide)]
  exact a
theorem w_if {c : Bool} {A B : Prop} (h1 : c = true → A) (h2 : c = false → B) : if c = true then A else B := by
  cases c
  · exact h2 rfl
  · exact h1 rfl
end
/-! bits -/
theorem nbm {a b : Int} {k : Nat} (ha : a.natAbs < 2 ^ (k / 2)) (hb : b.natAbs < 2 ^ (k / 2)) : (a * b).natAbs < 2 ^ k := by
  have h : a.natAbs * b.natAbs < 2 ^ (k / 2) * 2 ^ (k / 2) := Nat.mul_lt_mul'' ha hb
  rw [Int.natAbs_mul]
  rw [← Nat.pow_add] at h
  exact Nat.lt_of_lt_of_le h (Nat.pow_le_pow_right (by decide) (by omega))
theorem nba {a b : Int} {k : Nat} (h : 0 < k) (ha : a.natAbs < 2 ^ (k - 1)) (hb : b.natAbs < 2 ^ (k - 1)) : (a + b).natAbs < 2 ^ k := by
  obtain ⟨m, rfl⟩ : ∃ m, k = m + 1 := ⟨k - 1, by omega⟩
  rw [Nat.add_sub_cancel] at ha hb
  rw [Nat.pow_succ]
  omega
theorem nbs {a b : Int} {k : Nat} (h : 0 < k) (ha : a.natAbs < 2 ^ (k - 1)) (hb : b.natAbs < 2 ^ (k - 1)) : (a - b).natAbs < 2 ^ k := by
  obtain ⟨m, rfl⟩ : ∃ m, k = m + 1 := ⟨k - 1, by omega⟩
  rw [Nat.add_sub_cancel] at ha hb
  rw [Nat.pow_succ]
  omega
theorem nbn {a : Int} {k : Nat} (ha : a.natAbs < 2 ^ k) : (-a).natAbs < 2 ^ k := by rwa [Int.natAbs_neg]
theorem nbu {a : Int} {j k : Nat} (ha : a.natAbs < 2 ^ j) (h : j ≤ k) : a.natAbs < 2 ^ k := Nat.lt_of_lt_of_le ha (Nat.pow_le_pow_right (by decide) h)
theorem nbd {a b : Int} {k : Nat} (ha : a.natAbs < 2 ^ k) : (a.fdiv b).natAbs < 2 ^ (k + 1) := by
  rw [Nat.pow_succ]
  have h := ha
  rcases Int.lt_trichotomy b 0 with hb | hb | hb
  · have e : a.fdiv b = (-a).fdiv (-b) := (Int.neg_fdiv_neg a b).symm
    rw [e, Int.fdiv_eq_ediv_of_nonneg _ (by omega)]
    have := Int.natAbs_ediv_le_natAbs (-a) (-b)
    omega
  · subst hb
    rw [Int.fdiv_zero]
    omega
  · rw [Int.fdiv_eq_ediv_of_nonneg _ (by omega)]
    have := Int.natAbs_ediv_le_natAbs a b
    omega
theorem cmw {a b : Int} (ha : a.natAbs < 2 ^ 8000) (hb : b.natAbs < 2 ^ 8000) : CMulW a b := wide_mul ha hb (by decide) (by decide) (by decide)
end Nc
namespace NcK
open PySem PySem.Spec PyProof.Rows L2 Nc
def topS (i : Nat) : Stmt := PySem.Challenge.pw_nearcells_k03_whole_lifts_and_nearness.main.body.getD i (.Pass ⟨0, 0, 0, 0⟩)
/-! words of this text: bits, what stands in the heap, one step of a reading -/
local macro_rules | `(tactic| array_mem_dec) => `(tactic| first
  | (refine nbu (by assumption) (by decide); done)
  | (refine nbu (j := 21) (by omega) (by decide); done)
  | (refine nbm ?_ ?_ <;> array_mem_dec)
  | (refine nba (by decide) ?_ ?_ <;> array_mem_dec)
  | (refine nbs (by decide) ?_ ?_ <;> array_mem_dec)
  | (refine nbn ?_; array_mem_dec)
  | (refine nbu (j := 64) (by decide) (by decide); done))
local macro_rules | `(tactic| sizeOf_list_dec) => `(tactic| first
  | assumption
  | exact upd_same
  | (refine (by assumption : Same _ _) _ _ ?_; sizeOf_list_dec))
local macro_rules | `(tactic| array_get_dec) => `(tactic| first
  | refine ⟨_, rfl, ?_⟩
  | refine ⟨_, _, rfl, rfl, ?_⟩
  | refine ⟨_, _, _, _, rfl, rfl, SqT.of (by sizeOf_list_dec), by rfl, ?_⟩
  | refine ⟨_, _, _, _, rfl, rfl, SqL.of (by sizeOf_list_dec), by rfl, ?_⟩
  | refine ⟨_, _, rfl, SqT.of (by sizeOf_list_dec), by rfl, ?_⟩
  | refine ⟨_, _, _, _, _, rfl, .ty _, .base (.int _), kit_ty (r := true) (by decide +kernel), ?_⟩
  | refine ⟨_, _, _, _, _, rfl, .ty _, .base (.tup (by sizeOf_list_dec)), kit_ty (r := true) (by decide +kernel), ?_⟩
  | refine ⟨_, _, _, _, _, rfl, .ty _, .base (.lst (by sizeOf_list_dec)), kit_ty (r := true) (by decide +kernel), ?_⟩
  | refine ⟨_, _, rfl, .inr (SqT.of (by sizeOf_list_dec)), ?_⟩
  | refine ⟨_, _, rfl, .inl (SqL.of (by sizeOf_list_dec)), ?_⟩
  | refine w_itf (by omega) ?_
  | refine w_itt (by omega) ?_
  | refine w_ntt (by omega) ?_
  | refine w_ntf (by omega) ?_
  | refine ⟨_, _, rfl, ?_⟩
  | refine ⟨(by refine cmw ?_ ?_ <;> array_mem_dec : CMulW _ _), ?_⟩
  | refine ⟨⟨by decide, by decide, by decide⟩, ?_⟩
  | refine ⟨rfl, ?_⟩
  | refine ⟨_, _, _, rfl, ?_⟩)
abbrev sSrc : Stmt := topS 26
abbrev sNext : Stmt := topS 27
abbrev sOne : Stmt := topS 28
abbrev sCell : Stmt := topS 29
abbrev sSites : Stmt := topS 30
theorem scSrc : FnScope ["_law_number_here"] ["_law_number_here"] (defScope sSrc) := ⟨rfl, rfl, rfl, by decide +kernel, rfl, by decide +kernel, by decide +kernel⟩
theorem scNext : FnScope ["_law_source", "_law_many", "_law_found", "_law_prime", "_law_number"] ["_law_source", "_law_many"] (defScope sNext) := ⟨rfl, rfl, rfl, by decide +kernel, rfl, by decide +kernel, by decide +kernel⟩
theorem scOne : FnScope ["_law_source", "_law_some"] ["_law_source", "_law_some"] (defScope sOne) := ⟨rfl, rfl, rfl, by decide +kernel, rfl, by decide +kernel, by decide +kernel⟩
theorem scCell : FnScope ["_law_script", "_law_index"] ["_law_script", "_law_index"] (defScope sCell) := ⟨rfl, rfl, rfl, by decide +kernel, rfl, by decide +kernel, by decide +kernel⟩
section
variable {P : Program} {w : World} {K : PySem.W.Frag} {mg : Str → Option Value} {base : Heap}
/-! ### a source of a number -/
def spSrc : Sp := fun vs H Q _ => ∃ n : Int, vs = [.int n] ∧ ∀ p (a b c : Int), H p = none → Q (.ref p) (upd H p (.lst [.int a, .int b, .int c]))
theorem ok_src {f : Addr} {fd : FuncData} {k : Nat} (F : Fun K "_law_source_of" "_law_source_of" sSrc f fd) (mi : mg "int" = none) : FnOk P w K mg base CX0 (k + 1) f fd ["_law_number_here"] spSrc := by
  refine F.ok scSrc (fun vs H Q E h => ?_) (fun cdv A outer s H vs Q E hr h => ?_)
  · obtain ⟨n, rfl, _⟩ := h
    rfl
  · obtain ⟨n, rfl, q⟩ := h
    refine ⟨_, pss_cons (ps_set (i := 0) scSrc.nd rfl (.inl rfl) (pe_ifExp (pt_cmpR op_ge (pv 0) pe_int (nomark _)) (pv 0) (pe_op op_sub (pe_op op_sub pe_int (pe_op op_mul pe_int (pv 0))) pe_int)))
      (pss_one (ps_ret (pe_lst (pa_cons (pe_op op_mul (pv 0) (pe_callTy call_int1 (by rfl) mi (by decide +kernel) (pa_cons (pe_cmpR op_ge (pv 0) (pe_op op_pow pe_int pe_int) (nomark _)) pa_nil)))
        (pa_cons (pe_op op_mod (pe_callTy call_int1 (by rfl) mi (by decide +kernel) (pa_cons (pv 0) pa_nil)) pe_int) (pa_cons pe_int pa_nil)))))), ?_⟩
    refine ⟨_, rfl, _, _, rfl, rfl, _, rfl, ite2 (fun c => ?_) fun c => ?_⟩
    · refine ⟨_, rfl, _, rfl, _, rfl, _, _, rfl, rfl, ⟨by decide, by decide, by decide⟩, _, _, rfl, rfl, .inr ⟨_, rfl, _, _, rfl, rfl, .inr (b2i_small _), ?_⟩⟩
      exact ⟨_, rfl, .inl ⟨_, rfl, _, _, rfl, rfl, (by decide : (0 : Int) < 2147483647), by show 3 ≤ sizeLine; decide, fun p hp => q p _ _ _ hp⟩⟩
    · refine ⟨_, rfl, _, _, rfl, rfl, .inl ⟨by decide, by decide⟩, _, _, rfl, rfl, _, _, rfl, rfl, _, rfl, _, rfl, _, _, rfl, rfl, ⟨by decide, by decide, by decide⟩, _, _, rfl, rfl, .inr ⟨_, rfl, _, _, rfl, rfl, .inr (b2i_small _), ?_⟩⟩
      exact ⟨_, rfl, .inl ⟨_, rfl, _, _, rfl, rfl, (by decide : (0 : Int) < 2147483647), by show 3 ≤ sizeLine; decide, fun p hp => q p _ _ _ hp⟩⟩
end
section
variable {P : Program} {w : World} {K : PySem.W.Frag} {mg : Str → Option Value} {base : Heap}
/-! ### the next draw below many -/
def spNext : Sp := fun vs H Q _ => ∃ (s : Addr) (m : Int), vs = [.ref s, .int m] ∧ Src H s ∧ 0 < m ∧ m.natAbs < 2 ^ 8000 ∧ ∀ (r : Int) H', 0 ≤ r → r < m → Stp s H H' → Q (.int r) H'
theorem ok_next {f : Addr} {fd : FuncData} {k : Nat} (F : Fun K "_law_next" "_law_next" sNext f fd) (mi : mg "int" = none) : FnOk P w K mg base CX0 (k + 1) f fd ["_law_source", "_law_many"] spNext := by
  refine F.ok scNext (fun vs H Q E h => ?_) (fun cdv A outer s H vs Q E hr h => ?_)
  · obtain ⟨s, m, rfl, _⟩ := h
    rfl
  · obtain ⟨s, m, rfl, ⟨a, b, c, hs⟩, hm, hw, q⟩ := h
    have bi : bootBuiltins "int" = some (.type "int") := by decide +kernel
    refine ⟨_, pss_cons (ps_if (pt_cmpR op_gt (pe_ix ix_list (pv 0) pe_int (fun _ _ => rfl)) pe_int (nomark _))
        (pss_cons (ps_set (i := 2) scNext.nd rfl (.inl rfl) (pe_op op_mod (pe_callTy call_int1 (by rfl) mi bi (pa_cons (pe_ix ix_list (pv 0) pe_int (fun _ _ => rfl)) pa_nil)) (pv 1)))
          (pss_cons (ps_asg (pe_op op_fdivW (pe_ix ix_list (pv 0) pe_int (fun _ _ => rfl)) (pv 1)) (pg_sub (pv 0) pe_int set_list)) (pss_one (ps_ret (pv 2))))) pss_nil)
      (pss_cons (ps_asg (pe_op op_add (pe_ix ix_list (pv 0) pe_int (fun _ _ => rfl)) pe_int) (pg_sub (pv 0) pe_int set_list))
      (pss_cons (ps_set (i := 3) scNext.nd rfl (.inl rfl) pe_int)
      (pss_cons (ps_set (i := 4) scNext.nd rfl (.inl rfl) (pe_op op_mod (pe_callTy call_int1 (by rfl) mi bi (pa_cons (pe_op op_add (pe_op op_add (pe_ix ix_list (pv 0) pe_int (fun _ _ => rfl)) (pe_op op_mul pe_int (pe_ix ix_list (pv 0) pe_int (fun _ _ => rfl)))) pe_int) pa_nil)) (pv 3)))
      (pss_cons (ps_set (i := 4) scNext.nd rfl (.inl rfl) (pe_op op_mod (pe_callTy call_int1 (by rfl) mi bi (pa_cons (pe_op op_mul (pv 4) pe_int) pa_nil)) (pv 3)))
      (pss_cons (ps_set (i := 4) scNext.nd rfl (.inl rfl) (pe_op op_mod (pe_callTy call_int1 (by rfl) mi bi (pa_cons (pe_op op_mul (pv 4) (pe_op op_add (pe_op op_fdiv (pv 4) pe_int) pe_int)) pa_nil)) (pv 3)))
      (pss_cons (ps_set (i := 4) scNext.nd rfl (.inl rfl) (pe_op op_mod (pe_callTy call_int1 (by rfl) mi bi (pa_cons (pe_op op_mul (pv 4) (pe_op op_add (pe_op op_fdiv (pv 4) pe_int) pe_int)) pa_nil)) pe_int))
      (pss_one (ps_ret (pe_op op_mod (pe_callTy call_int1 (by rfl) mi bi (pa_cons (pe_op op_fdiv (pv 4) pe_int) pa_nil)) (pv 1)))))))))), ?_⟩
    have at0 : ∀ x y z : V, atI [x, y, z] 0 = some x := fun _ _ _ => rfl
    refine ⟨_, rfl, s, _, _, _, rfl, rfl, SqL.of hs, at0 _ _ _, _, _, rfl, rfl, _, rfl, ite2 (fun g => ?_) fun g => ?_⟩
    · refine ⟨_, rfl, s, _, _, _, rfl, rfl, SqL.of hs, at0 _ _ _, .inl ⟨_, rfl, _, rfl, _, _, rfl, rfl, hm, ?_⟩⟩
      refine ⟨_, rfl, s, _, _, _, rfl, rfl, SqL.of hs, at0 _ _ _, _, rfl, _, _, rfl, rfl, wide_div hm hw (by decide) (by decide), ?_⟩
      refine ⟨_, rfl, s, _, 0, 0, rfl, rfl, hs, rfl, ?_⟩
      exact ⟨_, rfl, q _ _ (Int.emod_nonneg _ (Int.ne_of_gt hm)) (Int.emod_lt_of_pos _ hm) ((Stp.refl ⟨a, b, c, hs⟩).turn _ _ _)⟩
    · refine ⟨_, rfl, s, _, _, _, rfl, rfl, SqL.of hs, rfl, _, _, rfl, rfl, ?_⟩
      refine ⟨_, rfl, s, _, 2, 2, rfl, rfl, hs, rfl, ?_⟩
      have h2 : (upd H s (.lst [.int a, .int b, .int (c + 1)])) s = some (.lst [.int a, .int b, .int (c + 1)]) := upd_same
      refine ⟨_, rfl, s, _, _, _, rfl, rfl, SqL.of h2, rfl, _, rfl, s, _, _, _, rfl, rfl, SqL.of h2, rfl, _, _, rfl, rfl, .inl ⟨by decide, by decide⟩, _, _, rfl, rfl, _, _, rfl, rfl, .inl ⟨_, rfl, ?_⟩⟩
      have hp : (0 : Int) < 2147483647 := by decide
      refine ⟨_, rfl, _, _, rfl, rfl, hp, ?_⟩
      refine ⟨_, rfl, _, _, rfl, rfl, .inr ⟨by decide, by decide⟩, .inl ⟨_, rfl, _, rfl, _, _, rfl, rfl, hp, ?_⟩⟩
      have b1 : 0 ≤ (b + 104729 * (c + 1) + 7919) % 2147483647 * 48271 % 2147483647 := Int.emod_nonneg _ (Int.ne_of_gt hp)
      have b2 : (b + 104729 * (c + 1) + 7919) % 2147483647 * 48271 % 2147483647 < 2147483647 := Int.emod_lt_of_pos _ hp
      generalize (b + 104729 * (c + 1) + 7919) % 2147483647 * 48271 % 2147483647 = n1 at b1 b2
      refine ⟨_, rfl, _, rfl, _, _, rfl, rfl, ⟨by decide, by decide⟩, _, _, rfl, rfl, _, _, rfl, rfl, .inl ⟨by omega, by omega⟩, .inl ⟨_, rfl, _, rfl, _, _, rfl, rfl, hp, ?_⟩⟩
      have c1 : 0 ≤ n1 * (n1 / 1009 + 69621) % 2147483647 := Int.emod_nonneg _ (Int.ne_of_gt hp)
      have c2 : n1 * (n1 / 1009 + 69621) % 2147483647 < 2147483647 := Int.emod_lt_of_pos _ hp
      generalize n1 * (n1 / 1009 + 69621) % 2147483647 = n2 at c1 c2
      refine ⟨_, rfl, _, rfl, _, _, rfl, rfl, ⟨by decide, by decide⟩, _, _, rfl, rfl, _, _, rfl, rfl, .inl ⟨by omega, by omega⟩, .inl ⟨_, rfl, _, _, rfl, rfl, (by decide : (0 : Int) < 2147483399), ?_⟩⟩
      refine ⟨_, rfl, _, _, rfl, rfl, ⟨by decide, by decide⟩, .inl ⟨_, rfl, _, rfl, _, _, rfl, rfl, hm, ?_⟩⟩
      exact q _ _ (Int.emod_nonneg _ (Int.ne_of_gt hm)) (Int.emod_lt_of_pos _ hm) ((Stp.refl ⟨a, b, c, hs⟩).turn _ _ _)
/-! ### one of some -/
/-- the source at s, some: a list of xs (another object than the source): one of xs -/
def spOne (K : PySem.W.Frag) : Sp := fun vs H Q _ => ∃ (s l : Addr) (xs : List V), vs = [.ref s, .ref l] ∧ Src H s ∧ H l = some (.lst xs) ∧ l ≠ s ∧ 0 < xs.length ∧ xs.length ≤ 1000 ∧ ∀ x H', x ∈ xs → Stp s H H' → Q x H'
theorem ok_one {f fN : Addr} {fd fdN : FuncData} {k : Nat} (F : Fun K "_law_one" "_law_one" sOne f fd) (GN : FnOk P w K mg base CX0 (k + 1) fN fdN ["_law_source", "_law_many"] spNext) (gN : mg "_law_next" = some (.ref fN)) (kN : PySem.W.keepIn K (.ref fN) = true) (bN : Binds K fdN ["_law_source", "_law_many"] [])
    (ml : mg "len" = none) : FnOk P w K mg base CX0 (k + 2) f fd ["_law_source", "_law_some"] (spOne K) := by
  refine F.ok scOne (fun vs H Q E h => ?_) (fun cdv A outer s H vs Q E hr h => ?_)
  · obtain ⟨s, l, xs, rfl, _⟩ := h
    rfl
  · obtain ⟨s, l, xs, rfl, hs, hl, hne, h0, h1, q⟩ := h
    refine ⟨_, pss_one (ps_ret (pe_ix ix_list (pv 1) (pe_call GN hr (by rfl) gN kN bN .nil pass0 (pa_cons (pv 0) (pa_cons (pe_callB call_len_seq (by rfl) ml (by decide +kernel) (pa_cons (pv 1) pa_nil)) pa_nil))) (fun _ _ => rfl))), ?_⟩
    refine ⟨_, rfl, _, rfl, _, rfl, l, xs, rfl, .inl (SqL.of hl), ?_⟩
    have small : ((xs.length : Nat) : Int).natAbs < 2 ^ 8000 := by
      rw [Int.natAbs_natCast]
      exact Nat.lt_of_le_of_lt h1 (Nat.lt_of_lt_of_le (by decide : 1000 < 2 ^ 10) (Nat.pow_le_pow_right (by decide) (by decide)))
    refine ⟨s, xs.length, rfl, hs, by omega, small, fun r H' r0 r1 st => ?_⟩
    have hl' := st.keep l _ hne hl
    have hr : r.toNat < xs.length := by omega
    have at1 : atI xs r = some xs[r.toNat] := by
      have z := atI_nat (List.getElem?_eq_getElem hr)
      rwa [Int.toNat_of_nonneg r0] at z
    exact ⟨l, xs, r, _, rfl, rfl, SqL.of hl', at1, q _ _ (List.getElem_mem hr) st⟩
/-! ### a cell of the script, 0 beyond its end -/
def spCell (K : PySem.W.Frag) : Sp := fun vs H Q _ => ∃ (a : Addr) (ns : List Int), vs = [.ref a, .int 0] ∧ SqL K H a (ns.map V.int) ∧ ns.length ≤ 1000 ∧ ∀ (n : Int) H', Same H H' → Q (.int n) H'
theorem ok_cell {f : Addr} {fd : FuncData} {k : Nat} (F : Fun K "_law_cell_at" "_law_cell_at" sCell f fd) : FnOk P w K mg base CX0 (k + 1) f fd ["_law_script", "_law_index"] (spCell K) := by
  refine F.ok scCell (fun vs H Q E h => ?_) (fun cdv A outer s H vs Q E hr h => ?_)
  · obtain ⟨a, ns, rfl, _⟩ := h
    rfl
  · obtain ⟨a, ns, rfl, hS, hlen, q⟩ := h
    refine ⟨_, pss_one (ps_ret (pe_ix ix_list (pe_op op_cat (pe_slice sl_list (pv 0) (po_some (pv 1)) (po_some (pe_op op_add (pv 1) pe_int))) (pe_lst (pa_cons pe_int pa_nil))) pe_int (fun _ _ => rfl))), ?_⟩
    refine ⟨_, rfl, _, rfl, _, rfl, _, rfl, _, _, rfl, rfl, _, rfl, a, ns.map V.int, rfl, hS, fun p np => ?_⟩
    refine ⟨by show 1 ≤ sizeLine; decide, fun p2 np2 => ?_⟩
    have e1 : (upd (upd H p (.lst (cutV (ns.map V.int) (some 0) (some (0 + 1))))) p2 (.lst [.int 0])) p = some (.lst (cutV (ns.map V.int) (some 0) (some (0 + 1)))) := by
      rw [upd_ne (ne_of_none upd_same np2)]
      exact upd_same
    have len : (cutV (ns.map V.int) (some 0) (some (0 + 1))).length ≤ ns.length := by
      have z := cutV_length (ns.map V.int) (some 0) (some (0 + 1))
      rwa [List.length_map] at z
    refine ⟨p, p2, _, _, rfl, rfl, e1, upd_same, ?_, fun p3 np3 => ?_⟩
    · refine Nat.le_trans (Nat.add_le_add_right (Nat.le_trans len hlen) _) (by decide)
    · obtain ⟨n, en⟩ : ∃ n : Int, (cutV (ns.map V.int) (some 0) (some (0 + 1)) ++ [V.int 0])[0]? = some (V.int n) := by
        unfold cutV
        rw [← List.map_drop, ← List.map_take]
        cases (List.take (HT.sIx (ns.map V.int).length (ns.map V.int).length (some (0 + 1)) - HT.sIx (ns.map V.int).length 0 (some 0)) (List.drop (HT.sIx (ns.map V.int).length 0 (some 0)) ns)) with
        | nil => exact ⟨0, rfl⟩
        | cons x r => exact ⟨x, rfl⟩
      refine ⟨p3, _, 0, .int n, rfl, rfl, SqL.of upd_same, atI_nat (j := 0) en, q n _ ?_⟩
      exact ((Same.upd np).trans (Same.upd np2)).trans (Same.upd np3)
end
/-! ### drawn sites -/
theorem scSites : FnScope ["_law_source", "_law_most", "_law_round_one", "_law_way", "_law_found", "_law_u", "_law_v", "_law_k", "_law_site_here", "_law_x", "_law_y"] ["_law_source", "_law_most"] (defScope sSites) := ⟨rfl, rfl, rfl, by decide +kernel, rfl, by decide +kernel, by decide +kernel⟩
section
variable {P : Program} {w : World} {K : PySem.W.Frag} {mg : Str → Option Value} {base : Heap}
/-- the source at s, a new list of sites, at least one, at most as many as are asked -/
def spSites : Sp := fun vs H Q _ => ∃ (s : Addr) (most : Int), vs = [.ref s, .int most] ∧ Src H s ∧ 0 < most ∧ most ≤ 1000 ∧
  ∀ (p : Addr) (ts : List Addr) H', Stp s H H' → H p = none → H' p = some (.lst (ts.map V.ref)) → 0 < ts.length → (ts.length : Int) ≤ most → Sits 1000000 H' ts → Q (.ref p) H'
/-- within the loop: what stands -/
structure SL (s R d : Addr) (rs : List Addr) (H H' : Hp) (kvs : List (List Key × V)) : Prop where
  st : Stp s H H'
  nR : H R = none
  nd : H d = none
  lR : H' R = some (.lst (rs.map V.ref))
  sR : Sits 5 H' rs
  dd : H' d = some (.dT kvs)
  kk : ∀ kv ∈ kvs, ∃ x y : Int, kv.1 = [Sum.inl x, Sum.inl y] ∧ Bd 999000 x y
theorem put_keys {kvs : List (List Key × V)} {x y : Int} {v : V} (h : ∀ kv ∈ kvs, ∃ x y : Int, kv.1 = [Sum.inl x, Sum.inl y] ∧ Bd 999000 x y) (b : Bd 999000 x y) : ∀ kv ∈ putK kvs [Sum.inl x, Sum.inl y] v, ∃ x y : Int, kv.1 = [Sum.inl x, Sum.inl y] ∧ Bd 999000 x y := by
  intro kv m
  unfold putK at m
  split at m
  · obtain ⟨u, mu, e⟩ := List.mem_map.mp m
    obtain ⟨x', y', e1, b1⟩ := h u mu
    refine ⟨x', y', ?_, b1⟩
    rw [← e]
    split
    · exact e1
    · exact e1
  · rcases List.mem_append.mp m with m | m
    · exact h kv m
    · have e := List.mem_singleton.mp m
      subst e
      exact ⟨x, y, rfl, b⟩
theorem put_pos {kvs : List (List Key × V)} {k : List Key} {v : V} : 0 < (putK kvs k v).length := by
  unfold putK
  split
  · rename_i h
    rw [List.length_map]
    cases kvs with
    | nil => cases h
    | cons a r => exact Nat.zero_lt_succ _
  · rw [List.length_append]
    exact Nat.lt_of_lt_of_le (Nat.zero_lt_succ _) (Nat.le_add_left _ _)
theorem SL.step {s R d : Addr} {rs : List Addr} {H H1 H2 : Hp} {kvs : List (List Key × V)} (h : SL s R d rs H H1 kvs) (q : Src H s) (a : Stp s H1 H2) : SL s R d rs H H2 kvs :=
  ⟨h.st.trans a, h.nR, h.nd, a.keep _ _ (q.nen h.nR) h.lR, h.sR.stp h.st.src a, a.keep _ _ (q.nen h.nd) h.dd, h.kk⟩
theorem ok_sites {f fN fO : Addr} {fd fdN fdO : FuncData} {k : Nat} (F : Fun K "_law_sites" "_law_sites" sSites f fd)
    (GN : FnOk P w K mg base CX0 (k + 1) fN fdN ["_law_source", "_law_many"] spNext) (gN : mg "_law_next" = some (.ref fN)) (kN : PySem.W.keepIn K (.ref fN) = true) (bN : Binds K fdN ["_law_source", "_law_many"] [])
    (GO : FnOk P w K mg base CX0 (k + 2) fO fdO ["_law_source", "_law_some"] (spOne K)) (gO : mg "_law_one" = some (.ref fO)) (kO : PySem.W.keepIn K (.ref fO) = true) (bO : Binds K fdO ["_law_source", "_law_some"] [])
    (mr : mg "range" = none) : FnOk P w K mg base CX0 (k + 3) f fd ["_law_source", "_law_most"] spSites := by
  refine F.ok scSites (fun vs H Q E h => ?_) (fun cdv A outer s H vs Q E hr h => ?_)
  · obtain ⟨s, m, rfl, _⟩ := h
    rfl
  · obtain ⟨s, most, rfl, hs, m0, m1, q⟩ := h
    have hr1 : Room (k + 1) _ := hr.mono (by omega)
    have nd := scSites.nd
    have bd : ∀ {x y : Int}, x.natAbs ≤ 5 → y.natAbs ≤ 5 → Bd 5 x y := fun h1 h2 => ⟨by omega, by omega, by omega, by omega⟩
    refine ⟨_, pss_cons (ps_set (i := 2) nd rfl (.inl rfl) (pe_lst
        (pa_sits (pe_sit (b := 5) (pa_cons pe_int (pa_cons pe_int pa_nil)) (bd (by decide) (by decide)))
        (pa_sits (pe_sit (b := 5) (pa_cons pe_int (pa_cons pe_int pa_nil)) (bd (by decide) (by decide)))
        (pa_sits (pe_sit (b := 5) (pa_cons pe_int (pa_cons pe_int pa_nil)) (bd (by decide) (by decide)))
        (pa_sits (pe_sit (b := 5) (pa_cons pe_int (pa_cons pe_int pa_nil)) (bd (by decide) (by decide)))
        (pa_sits (pe_sit (b := 5) (pa_cons pe_neg (pa_cons pe_int pa_nil)) (bd (by decide) (by decide)))
        (pa_sits (pe_sit (b := 5) (pa_cons pe_neg (pa_cons pe_int pa_nil)) (bd (by decide) (by decide)))
        (pa_sits (pe_sit (b := 5) (pa_cons pe_neg (pa_cons pe_int pa_nil)) (bd (by decide) (by decide)))
        (pa_sits (pe_sit (b := 5) (pa_cons pe_neg (pa_cons pe_neg pa_nil)) (bd (by decide) (by decide))) pa_sits0))))))))))
      (pss_cons (ps_set (i := 2) nd rfl (.inl rfl) (pe_op op_cat (pv 2) (pe_lst
        (pa_sits (pe_sit (b := 5) (pa_cons pe_neg (pa_cons pe_neg pa_nil)) (bd (by decide) (by decide)))
        (pa_sits (pe_sit (b := 5) (pa_cons pe_int (pa_cons pe_neg pa_nil)) (bd (by decide) (by decide)))
        (pa_sits (pe_sit (b := 5) (pa_cons pe_int (pa_cons pe_neg pa_nil)) (bd (by decide) (by decide)))
        (pa_sits (pe_sit (b := 5) (pa_cons pe_int (pa_cons pe_neg pa_nil)) (bd (by decide) (by decide))) pa_sits0)))))))
      (pss_cons (ps_par (i := 3) (j := 4) (by rfl) nd rfl rfl (by decide) rfl rfl (pa_cons (pe_call GN hr1 (by rfl) gN kN bN .nil pass0 (pa_cons (pv 0) (pa_cons pe_int pa_nil))) (pa_cons pe_dnewT pa_nil)) (by rfl))
      (pss_cons (ps_asg (pe_tup (pa_cons (pe_op op_sub (pe_call GN hr1 (by rfl) gN kN bN .nil pass0 (pa_cons (pv 0) (pa_cons pe_int pa_nil))) pe_int) (pa_cons (pe_op op_sub (pe_call GN hr1 (by rfl) gN kN bN .nil pass0 (pa_cons (pv 0) (pa_cons pe_int pa_nil))) pe_int) pa_nil)))
          (pg_tup (by rfl) (pgs_cons (pg_name (i := 5) nd rfl (.inr rfl)) (pgs_cons (pg_name (i := 6) nd rfl (.inr rfl)) pgs_nil))))
      (C8.pss_cut (ps_for PassesOwn.never rfl (pi_range1 (by rfl) mr (pa_cons (pe_op op_add pe_int (pe_call GN hr1 (by rfl) gN kN bN .nil pass0 (pa_cons (pv 0) (pa_cons (pv 1) pa_nil)))) pa_nil)) (pg_name (i := 7) nd rfl (.inl rfl))
          (pss_cons (ps_set (i := 8) nd rfl (.inl rfl) (pe_tup (pa_cons (pe_call GN hr1 (by rfl) gN kN bN .nil pass0 (pa_cons (pv 0) (pa_cons pe_int pa_nil))) (pa_cons (pe_call GN hr1 (by rfl) gN kN bN .nil pass0 (pa_cons (pv 0) (pa_cons pe_int pa_nil))) pa_nil))))
          (C8.pss_cut (ps_if (PW.pt (pw_and (pt_cmpR op_eq (pv 3) pe_int (nomark _)) (pw_and1 (pt_cmpR op_gt (pe_call GN hr1 (by rfl) gN kN bN .nil pass0 (pa_cons (pv 0) (pa_cons pe_int pa_nil))) pe_int (nomark _)))))
              (pss_one (ps_set (i := 8) nd rfl (.inl rfl) (pe_call GO hr (by rfl) gO kO bO .nil pass0 (pa_cons (pv 0) (pa_cons (pv 2) pa_nil))))) pss_nil)
          (C8.pss_cut (ps_if (pt_cmpR op_eq (pv 3) pe_int (nomark _))
              (pss_one (ps_set (i := 8) nd rfl (.inl rfl) (pe_tup (pa_cons (pe_op op_mul (pe_call GN hr1 (by rfl) gN kN bN .nil pass0 (pa_cons (pv 0) (pa_cons pe_int pa_nil))) pe_int)
                (pa_cons (pe_op op_mul (pe_call GN hr1 (by rfl) gN kN bN .nil pass0 (pa_cons (pv 0) (pa_cons pe_int pa_nil))) (pe_call GN hr1 (by rfl) gN kN bN .nil pass0 (pa_cons (pv 0) (pa_cons pe_int pa_nil)))) pa_nil))))) pss_nil)
          (C8.pss_cut (ps_if (pt_cmpR op_eq (pv 3) pe_int (nomark _))
              (pss_one (ps_set (i := 8) nd rfl (.inl rfl) (pe_tup (pa_cons (pe_op op_sub (pe_call GN hr1 (by rfl) gN kN bN .nil pass0 (pa_cons (pv 0) (pa_cons pe_int pa_nil))) pe_int)
                (pa_cons (pe_op op_sub (pe_call GN hr1 (by rfl) gN kN bN .nil pass0 (pa_cons (pv 0) (pa_cons pe_int pa_nil))) pe_int) pa_nil))))) pss_nil)
          (C8.pss_cut (ps_if (pt_cmpR op_eq (pv 3) pe_int (nomark _))
              (pss_one (ps_set (i := 8) nd rfl (.inl rfl) (pe_tup (pa_cons (pe_op op_sub (pe_call GN hr1 (by rfl) gN kN bN .nil pass0 (pa_cons (pv 0) (pa_cons pe_int pa_nil))) pe_int)
                (pa_cons (pe_op op_sub (pe_call GN hr1 (by rfl) gN kN bN .nil pass0 (pa_cons (pv 0) (pa_cons pe_int pa_nil))) pe_int) pa_nil))))) pss_nil)
          (pss_one (ps_dput (hu_of hr) (pv 4) (pv 8) pe_bl rfl))))))))
      (pss_one (ps_ret (pe_lock (pe_lc (own := [("_law_x", 9), ("_law_y", 10)]) (g := gTup K 2 (gCons (gName 9) (gCons (gName 10) gNil))) (tt := tYes) (te := tTup (tCons (tOp (rI0 fun i j => .int (i + j)) (tVar 9) (tVar 5)) (tCons (tOp (rI0 fun i j => .int (i + j)) (tVar 10) (tVar 6)) tNil))) rfl nd (pi_keys (pv 4)) (blkOk_by (own := [("_law_x", 9), ("_law_y", 10)]) (N := ["_law_source", "_law_most", "_law_round_one", "_law_way", "_law_found", "_law_u", "_law_v", "_law_k", "_law_site_here", "_law_x", "_law_y"]) (sc := defScope sSites) (by decide +kernel))
          (fun _ _ _ _ _ => by exact pg_tup rfl (pgs_cons (pg_name (i := 9) nd rfl (.inl rfl)) (pgs_cons (pg_name (i := 10) nd rfl (.inl rfl)) pgs_nil)))
          (fun _ _ _ _ _ => pts_nil)
          (fun _ _ _ _ _ => by exact pe_tup (pa_cons (pe_op op_add (pv 9) (pv 5)) (pa_cons (pe_op op_add (pv 10) (pv 6)) pa_nil))))))))))), ?_⟩
    -- the round ones
    refine fun ps1 H1 sm1 l1 st1 => ⟨by rw [List.length_map, l1]; decide, fun p1 np1 => ?_⟩
    have e1 : (upd H1 p1 (.lst (ps1.map V.ref))) p1 = some (.lst (ps1.map V.ref)) := upd_same
    have s1 : Same H (upd H1 p1 (.lst (ps1.map V.ref))) := sm1.trans (Same.upd np1)
    have t1 : Sits 5 (upd H1 p1 (.lst (ps1.map V.ref))) ps1 := st1.same (Same.upd np1)
    generalize upd H1 p1 (.lst (ps1.map V.ref)) = G1 at e1 s1 t1
    refine ⟨_, rfl, fun ps2 H2 sm2 l2 st2 => ⟨by rw [List.length_map, l2]; decide, fun p2 np2 => ?_⟩⟩
    have s2 : Same G1 (upd H2 p2 (.lst (ps2.map V.ref))) := sm2.trans (Same.upd np2)
    have e2 : (upd H2 p2 (.lst (ps2.map V.ref))) p2 = some (.lst (ps2.map V.ref)) := upd_same
    have t2 : Sits 5 (upd H2 p2 (.lst (ps2.map V.ref))) (ps1 ++ ps2) := fun r m => by
      rcases List.mem_append.mp m with m | m
      · exact (t1.same s2) r m
      · exact (st2.same (Same.upd np2)) r m
    have n2 : ∀ p, (upd H2 p2 (.lst (ps2.map V.ref))) p = none → H p = none := fun p e => (s1.trans s2).free e
    have s2' := s1.trans s2
    generalize upd H2 p2 (.lst (ps2.map V.ref)) = G2 at s2 e2 t2 n2 s2'
    refine ⟨p1, p2, _, _, rfl, rfl, s2 _ _ e1, e2, by rw [List.length_map, List.length_map, l1, l2]; decide, fun R nR => ?_⟩
    have eR : (upd G2 R (.lst (ps1.map V.ref ++ ps2.map V.ref))) R = some (.lst ((ps1 ++ ps2).map V.ref)) := by
      rw [List.map_append]
      exact upd_same
    have tR : Sits 5 (upd G2 R (.lst (ps1.map V.ref ++ ps2.map V.ref))) (ps1 ++ ps2) := t2.same (Same.upd nR)
    have sR : Stp s H (upd G2 R (.lst (ps1.map V.ref ++ ps2.map V.ref))) := (Stp.refl hs).same (s2'.trans (Same.upd nR))
    have lR : (ps1 ++ ps2).length = 12 := by rw [List.length_append, l1, l2]
    have nRH := n2 R nR
    generalize upd G2 R (.lst (ps1.map V.ref ++ ps2.map V.ref)) = G3 at eR tR sR
    generalize ps1 ++ ps2 = rs at eR tR lR
    -- way, found
    refine ⟨_, rfl, s, 5, rfl, sR.src, by decide, sm (by decide), fun w H4 w0 w1 st4 d nd4 => ⟨_, _, rfl, ?_⟩⟩
    have hRs : R ≠ s := hs.nen nRH
    have st04 := sR.trans st4
    have keep4 := st4.keep _ _ hRs eR
    have eR4 : (upd H4 d (.dT [])) R = some (.lst (rs.map V.ref)) := by
      rw [upd_ne (ne_of_none keep4 nd4)]
      exact keep4
    have sl4 : SL s R d rs H (upd H4 d (.dT [])) [] :=
      ⟨st04.new nd4, nRH, st04.free nd4, eR4, (tR.stp sR.src st4).same (Same.upd nd4), upd_same, fun _ m => nomatch m⟩
    generalize upd H4 d (.dT []) = G4 at sl4
    -- u, v
    refine ⟨_, rfl, s, 2001, rfl, sl4.st.src, by decide, sm (by decide), fun u0 H5 u1 u2 st5 => ⟨_, _, rfl, rfl, _, rfl, s, 2001, rfl, st5.src, by decide, sm (by decide), fun v0 H6 v1 v2 st6 => ⟨_, _, rfl, rfl, two_line, fun p4 np4 => ?_⟩⟩⟩
    have sl6 := ((sl4.step hs st5).step hs st6).step hs ((Stp.refl st6.src).new (o := .tup [.int (u0 - 1000), .int (v0 - 1000)]) np4)
    refine ⟨p4, _, rfl, SqT.of upd_same, rfl, _, _, rfl, _, _, rfl, rfl, ?_⟩
    generalize upd H6 p4 (.tup [.int (u0 - 1000), .int (v0 - 1000)]) = G6 at sl6
    refine ⟨fun σ' H' => ∃ y7 y8 kvs, σ' = [some (.ref s), some (.int most), some (.ref R), some (.int w), some (.ref d), some (.int (u0 - 1000)), some (.int (v0 - 1000)), y7, y8, none, none] ∧ SL s R d rs H H' kvs ∧ 0 < kvs.length ∧ (kvs.length : Int) ≤ most, ?_, ?_⟩
    · -- the loop
      refine ⟨_, rfl, _, rfl, s, most, rfl, sl6.st.src, m0, sm (by omega), fun n H7 n0 n1 st7 => ⟨_, _, rfl, rfl, _, rfl, by omega, by omega, ?_⟩⟩
      have sl7 := sl6.step hs st7
      refine for_range (lo := 0) (n := (1 + n).toNat) (fun i σ' H' => ∃ y7 y8 kvs, σ' = [some (.ref s), some (.int most), some (.ref R), some (.int w), some (.ref d), some (.int (u0 - 1000)), some (.int (v0 - 1000)), y7, y8, none, none] ∧ SL s R d rs H H' kvs ∧ (0 < i → 0 < kvs.length) ∧ kvs.length ≤ i)
        ⟨none, none, [], rfl, sl7, fun z => absurd z (Nat.lt_irrefl _), Nat.le_refl _⟩ ?_ ?_
      · rintro i σ' H' hi ⟨y7, y8, kvs, rfl, sl, c1, c2⟩
        refine ⟨_, rfl, s, 4, rfl, sl.st.src, by decide, sm (by decide), fun a Ha a0 a1 sta => ⟨_, rfl, s, 4, rfl, sta.src, by decide, sm (by decide), fun b Hb b0 b1 stb => ⟨two_line, fun t nt => ?_⟩⟩⟩
        have sl1 := ((sl.step hs sta).step hs stb).step hs ((Stp.refl stb.src).new (o := .tup [.int a, .int b]) nt)
        have e1 : Sit (upd Hb t (.tup [.int a, .int b])) t a b := upd_same
        have d1 : Bd 999000 a b := ⟨by omega, by omega, by omega, by omega⟩
        generalize upd Hb t (.tup [.int a, .int b]) = Hc at sl1 e1
        -- between the ifs
        let M : L2.St → Hp → Prop := fun σ' H' => ∃ (t : Addr) (x y : Int), σ' = [some (V.ref s), some (V.int most), some (V.ref R), some (V.int w), some (V.ref d), some (V.int (u0 - 1000)), some (V.int (v0 - 1000)), some (V.int (0 + i)), some (V.ref t), none, none] ∧ SL s R d rs H H' kvs ∧ Sit H' t x y ∧ Bd 999000 x y
        have m1 : M [some (V.ref s), some (V.int most), some (V.ref R), some (V.int w), some (V.ref d), some (V.int (u0 - 1000)), some (V.int (v0 - 1000)), some (V.int (0 + i)), some (V.ref t), none, none] Hc := ⟨t, a, b, rfl, sl1, e1, d1⟩
        refine ⟨M, ⟨_, rfl, rfl, _, rfl, ?_⟩, ?_⟩
        · refine ite2 (fun _ => ?_) (fun _ => m1)
          refine ⟨_, rfl, s, 4, rfl, sl1.st.src, by decide, sm (by decide), fun a Ha a0 a1 sta => ⟨_, _, rfl, rfl, _, rfl, ite2 (fun _ => ?_) fun _ => ⟨t, _, _, rfl, sl1.step hs sta, e1.stp sl1.st.src sta, d1⟩⟩⟩
          have sl2 := sl1.step hs sta
          refine ⟨_, rfl, _, rfl, s, R, _, rfl, sl2.st.src, sl2.lR, hRs, by rw [List.length_map, lR]; decide, by rw [List.length_map, lR]; decide, fun x H' mx st => ?_⟩
          obtain ⟨r, mr', rfl⟩ := List.mem_map.mp mx
          obtain ⟨x, y, er, dr⟩ := sl2.sR r mr'
          exact ⟨r, x, y, rfl, sl2.step hs st, er.stp sl2.st.src st, dr.mono (by decide)⟩
        rintro σ' H' ⟨t, x, y, rfl, sl, et, dt⟩
        -- the others
        refine ⟨M, ⟨_, rfl, rfl, _, rfl, ite2 (fun _ => ?_) fun _ => ⟨t, x, y, rfl, sl, et, dt⟩⟩, ?_⟩
        · refine ⟨_, rfl, s, 9, rfl, sl.st.src, by decide, sm (by decide), fun a Ha a0 a1 sta => ⟨_, _, rfl, rfl, .inr ⟨by decide, by decide⟩, _, rfl, s, 9, rfl, sta.src, by decide, sm (by decide), fun b Hb b0 b1 stb => ?_⟩⟩
          refine ⟨_, rfl, s, 2, rfl, stb.src, by decide, sm (by decide), fun c Hd c0 c1 stc => ⟨_, _, rfl, rfl, .inr ⟨by omega, by omega⟩, two_line, fun t nt => ?_⟩⟩
          refine ⟨t, _, _, rfl, (((sl.step hs sta).step hs stb).step hs stc).step hs ((Stp.refl stc.src).new nt), upd_same, ?_⟩
          have hc : c = 0 ∨ c = 1 := by omega
          rcases hc with rfl | rfl
          · exact ⟨by omega, by omega, by omega, by omega⟩
          · exact ⟨by omega, by omega, by omega, by omega⟩
        rintro σ' H' ⟨t, x, y, rfl, sl, et, dt⟩
        refine ⟨M, ⟨_, rfl, rfl, _, rfl, ite2 (fun _ => ?_) fun _ => ⟨t, x, y, rfl, sl, et, dt⟩⟩, ?_⟩
        · refine ⟨_, rfl, s, 41, rfl, sl.st.src, by decide, sm (by decide), fun a Ha a0 a1 sta => ⟨_, _, rfl, rfl, _, rfl, s, 41, rfl, sta.src, by decide, sm (by decide), fun b Hb b0 b1 stb => ⟨_, _, rfl, rfl, two_line, fun t nt => ?_⟩⟩⟩
          exact ⟨t, _, _, rfl, ((sl.step hs sta).step hs stb).step hs ((Stp.refl stb.src).new nt), upd_same, by omega, by omega, by omega, by omega⟩
        rintro σ' H' ⟨t, x, y, rfl, sl, et, dt⟩
        refine ⟨M, ⟨_, rfl, rfl, _, rfl, ite2 (fun _ => ?_) fun _ => ⟨t, x, y, rfl, sl, et, dt⟩⟩, ?_⟩
        · refine ⟨_, rfl, s, 1998001, rfl, sl.st.src, by decide, sm (by decide), fun a Ha a0 a1 sta => ⟨_, _, rfl, rfl, _, rfl, s, 1998001, rfl, sta.src, by decide, sm (by decide), fun b Hb b0 b1 stb => ⟨_, _, rfl, rfl, two_line, fun t nt => ?_⟩⟩⟩
          exact ⟨t, _, _, rfl, ((sl.step hs sta).step hs stb).step hs ((Stp.refl stb.src).new nt), upd_same, by omega, by omega, by omega, by omega⟩
        rintro σ' H' ⟨t, x, y, rfl, sl, et, dt⟩
        -- found[site] = True
        have nds : d ≠ s := hs.nen sl.nd
        have hlen : kvs.length < sizeLine := Nat.lt_of_lt_of_le (Nat.lt_of_le_of_lt c2 hi) (Nat.le_trans (by omega) (by decide : 1000 ≤ sizeLine))
        refine ⟨_, rfl, _, rfl, d, _, rfl, DPut.t (k := [Sum.inl x, Sum.inl y]) sl.dd et hlen, ?_⟩
        refine ⟨_, _, _, rfl, ⟨sl.st.set sl.nd nds, sl.nR, sl.nd, ?_, sl.sR.put fun x y z => ?_, upd_same, put_keys sl.kk dt⟩, fun _ => put_pos, ?_⟩
        · rw [upd_ne (ne_of sl.lR sl.dd (by intro z; cases z))]
          exact sl.lR
        · rw [sl.dd] at z
          cases z
        · exact Nat.le_trans (length_putK _ _ _) (Nat.succ_le_succ c2)
      · rintro σ' H' ⟨y7, y8, kvs, rfl, sl, c1, c2⟩
        exact ⟨y7, y8, kvs, rfl, sl, c1 (by omega), by omega⟩
    · -- the sites, moved
      rintro σ' H' ⟨y7, y8, kvs, rfl, sl, c1, c2⟩
      have nds : d ≠ s := hs.nen sl.nd
      refine ⟨d, _, sl.dd, True.intro, fun od => ⟨_, rfl, d, od, rfl, .inr ⟨kvs, upd_same, fun D nD => ?_⟩⟩⟩
      have nDd : D ≠ d := fun z => by
        rw [z, upd_same] at nD
        cases nD
      refine lc_it walk_keysT (fun i Hc => Same (upd H' d (.frz od (.dT kvs))) Hc ∧ ∃ ts : List Addr, Hc D = some (.lst (ts.map V.ref)) ∧ ts.length = i ∧ Sits 1000000 Hc ts)
        ⟨Same.upd nD, [], upd_same, rfl, fun _ m => nomatch m⟩ (fun i Hc _ z => z.1 _ _ upd_same) ?_ ?_
      · rintro i x Hc0 Hc hi ⟨sm', ts, eD, lt, tt⟩ ⟨rfl, k, v, p, ek, rfl, ep⟩
        obtain ⟨x, y, e1, b1⟩ := sl.kk (k, v) (List.mem_of_getElem? ek)
        have e1 : k = [Sum.inl x, Sum.inl y] := e1
        subst e1
        refine ⟨p, _, rfl, SqT.of ep, rfl, _, _, rfl, _, _, rfl, rfl, rfl, ?_⟩
        refine ⟨_, rfl, _, rfl, _, _, rfl, rfl, _, rfl, _, rfl, _, _, rfl, rfl, two_line, fun r nr => ?_⟩
        have eD' : (upd Hc r (.tup [.int (x + (u0 - 1000)), .int (y + (v0 - 1000))])) D = some (.lst (ts.map V.ref)) := (Same.upd nr) _ _ eD
        refine ⟨_, eD', ?_, ?_⟩
        · rw [List.length_map, lt]
          exact Nat.lt_of_lt_of_le hi (Nat.le_trans (by omega) (by decide : 1000 ≤ sizeLine))
        · have nr' : r ≠ D := (ne_of_none eD nr).symm
          refine ⟨fun b o e => ?_, ts ++ [r], ?_, by rw [List.length_append, lt]; rfl, fun q m => ?_⟩
          · have nbD : b ≠ D := ne_of_none e nD
            rw [upd_ne nbD]
            exact (Same.upd nr) _ _ (sm' b o e)
          · rw [List.map_append]
            exact upd_same
          · obtain ⟨h1, h2, h3, h4⟩ := b1
            rcases List.mem_append.mp m with m | m
            · have z := (tt.same (Same.upd (o := .tup [.int (x + (u0 - 1000)), .int (y + (v0 - 1000))]) nr)).put (p := D) (o := .lst (ts.map V.ref ++ [.ref r])) (fun x y z => by rw [eD'] at z; cases z)
              exact z q m
            · have e : q = r := List.mem_singleton.mp m
              subst e
              refine ⟨x + (u0 - 1000), y + (v0 - 1000), ?_, by omega, by omega, by omega, by omega⟩
              show upd _ D _ q = _
              rw [upd_ne nr', upd_same]
      · rintro Hc ⟨sm', ts, eD, lt, tt⟩
        refine ⟨sm' _ _ upd_same, q D ts _ ⟨fun b o nb e => ?_, ?_⟩ ?_ ?_ (by omega) (by omega) (tt.put fun x y z => ?_)⟩
        · have nbd : b ≠ d := ne_of_none e sl.nd
          rw [upd_ne nbd]
          refine sm' _ _ ?_
          rw [upd_ne nbd]
          exact sl.st.keep b o nb e
        · obtain ⟨x, y, z, e⟩ := sl.st.src
          refine ⟨x, y, z, ?_⟩
          rw [upd_ne nds.symm]
          refine sm' _ _ ?_
          rw [upd_ne nds.symm]
          exact e
        · rw [upd_ne nDd] at nD
          exact sl.st.free nD
        · rw [upd_ne nDd]
          exact eD
        · rw [sm' _ _ upd_same] at z
          cases z
end
/-! ### the program's own defs: what a site is -/
abbrev sIsSite : Stmt := topS 9
abbrev sToS : Stmt := topS 10
abbrev sCheck : Stmt := topS 12
theorem scIsSite : FnScope ["value", "x", "y"] ["value"] (defScope sIsSite) := ⟨rfl, rfl, rfl, by decide +kernel, rfl, by decide +kernel, by decide +kernel⟩
theorem scToS : FnScope ["a", "b", "c", "ax", "ay", "bx", "by", "cx", "cy"] ["a", "b", "c"] (defScope sToS) := ⟨rfl, rfl, rfl, by decide +kernel, rfl, by decide +kernel, by decide +kernel⟩
theorem scCheck : FnScope ["value", "name"] ["value", "name"] (defScope sCheck) := ⟨rfl, rfl, rfl, by decide +kernel, rfl, by decide +kernel, by decide +kernel⟩
section
variable {P : Program} {w : World} {K : PySem.W.Frag} {mg : Str → Option Value} {base : Heap}
/-- a number is neither True nor False -/
theorem op_isIB {X : Cx} : OpR X (compareOp .Is) (fun x y H Q => ∃ (n : Int) (b : Bool), x = .int n ∧ y = .bl b ∧ Q (.bl false) H) := by
  intro pins s σ H x y v u Q I rx ry h
  obtain ⟨n, b, rfl, rfl, q⟩ := h
  obtain ⟨t, rfl⟩ := rx
  cases (show u = Value.bool b from ry)
  exact wpAny_is_other rfl (fun z => by cases z) ⟨.bl false, H, I, rfl, q⟩
theorem itf {p A B : Prop} [Decidable p] (h : ¬ p) (b : B) : if decide p = true then A else B := by
  rw [decide_eq_false h]
  exact b
theorem itt {p A B : Prop} [Decidable p] (h : p) (a : A) : if decide p = true then A else B := by
  rw [decide_eq_true h]
  exact a
theorem kTT (K : PySem.W.Frag) : PySem.W.kitOne K (.type "tuple") (.type "tuple") = some true := kit_ty (by decide +kernel)
theorem kII (K : PySem.W.Frag) : PySem.W.kitOne K (.type "int") (.type "int") = some true := kit_ty (by decide +kernel)
/-- a site -/
def spIsSite : Sp := fun vs H Q _ => ∃ (t : Addr) (x y : Int), vs = [.ref t] ∧ Sit H t x y ∧ Bd 1000000 x y ∧ Q (.bl true) H
theorem ok_issite {f : Addr} {fd : FuncData} {k : Nat} (F : Fun K "is_site" "is_site" sIsSite f fd) (misinstance : mg "isinstance" = none) (mtuple : mg "tuple" = none) (mint : mg "int" = none) (mlen : mg "len" = none) : FnOk P w K mg base CX0 (k + 1) f fd ["value"] spIsSite := by
  refine F.ok scIsSite (fun vs H Q E h => ?_) (fun cdv A outer s H vs Q E hr h => ?_)
  · obtain ⟨t, x, y, rfl, _⟩ := h
    rfl
  · obtain ⟨t, x, y, rfl, h, d, q⟩ := h
    have nd := scIsSite.nd
    obtain ⟨d1, d2, d3, d4⟩ := d
    refine ⟨_, (pss_cons (ps_if (PW.pt (pw_or (pt_not (pt_val (pe_callB call_isi (by rfl) misinstance (by decide +kernel) (pa_cons (pv 0) (pa_cons (pe_bltn (v := .ty "tuple") (by rfl) mtuple (by decide +kernel) rfl) pa_nil))))) (pw_or1 (pt_cmpR op_ne (pe_callB call_len_seq (by rfl) mlen (by decide +kernel) (pa_cons (pv 0) pa_nil)) pe_int (nomark _))))) (pss_one (ps_ret pe_bl)) pss_nil) (pss_cons (ps_asg (pv 0) (pg_tup (by rfl) (pgs_cons (pg_name (i := 1) nd rfl (.inl rfl)) (pgs_cons (pg_name (i := 2) nd rfl (.inl rfl)) pgs_nil)))) (pss_cons (ps_if (PW.pt (pw_or (pt_not (pt_val (pe_callB call_isi (by rfl) misinstance (by decide +kernel) (pa_cons (pv 1) (pa_cons (pe_bltn (v := .ty "int") (by rfl) mint (by decide +kernel) rfl) pa_nil))))) (pw_or1 (pt_not (pt_val (pe_callB call_isi (by rfl) misinstance (by decide +kernel) (pa_cons (pv 2) (pa_cons (pe_bltn (v := .ty "int") (by rfl) mint (by decide +kernel) rfl) pa_nil)))))))) (pss_one (ps_ret pe_bl)) pss_nil) (pss_cons (ps_if (PW.pt (pw_or (pt_cmpR op_isIB (pv 1) pe_bl (nomark _)) (pw_or (pt_cmpR op_isIB (pv 1) pe_bl (nomark _)) (pw_or (pt_cmpR op_isIB (pv 2) pe_bl (nomark _)) (pw_or1 (pt_cmpR op_isIB (pv 2) pe_bl (nomark _))))))) (pss_one (ps_ret pe_bl)) pss_nil) (pss_cons (ps_if (PW.pt (pw_or (pt_cmpR op_gt (pv 1) pe_int (nomark _)) (pw_or (pt_cmpR op_lt (pv 1) pe_neg (nomark _)) (pw_or (pt_cmpR op_gt (pv 2) pe_int (nomark _)) (pw_or1 (pt_cmpR op_lt (pv 2) pe_neg (nomark _))))))) (pss_one (ps_ret pe_bl)) pss_nil) (pss_one (ps_ret pe_bl))))))), ?_⟩
    exact ⟨_, rfl, _, _, _, _, _, rfl, .ty "tuple", .base (.tup h), kTT K, _, rfl, _, rfl, _, _, rfl, .inr (SqT.of h), rfl, _, rfl, _, rfl, _, _, rfl, SqT.of h, rfl, _, _, rfl, _, _, rfl, rfl, _, rfl, _, _, _, _, _, rfl, .ty "int", .base (.int _), kII K, _, rfl, _, rfl, _, _, _, _, _, rfl, .ty "int", .base (.int _), kII K, _, rfl, _, rfl, _, _, rfl, rfl, _, rfl, _, rfl, _, _, rfl, rfl, _, rfl, _, rfl, _, _, rfl, rfl, _, rfl, _, rfl, _, _, rfl, rfl, _, rfl, _, rfl, _, _, rfl, rfl, _, rfl, itf (by omega) ⟨_, rfl, _, _, rfl, rfl, _, rfl, itf (by omega) ⟨_, rfl, _, _, rfl, rfl, _, rfl, itf (by omega) ⟨_, rfl, _, _, rfl, rfl, _, rfl, itf (by omega) q⟩⟩⟩⟩
def spCheck : Sp := fun vs H Q _ => ∃ (t : Addr) (x y : Int) (z : Str), vs = [.ref t, .str z] ∧ Sit H t x y ∧ Bd 1000000 x y ∧ Q .non H
theorem ok_check {f fS : Addr} {fd fdS : FuncData} {k : Nat} (F : Fun K "check_site" "check_site" sCheck f fd)
    (GS : FnOk P w K mg base CX0 (k + 1) fS fdS ["value"] spIsSite) (gS : mg "is_site" = some (.ref fS)) (kS : PySem.W.keepIn K (.ref fS) = true) (bS : Binds K fdS ["value"] []) : FnOk P w K mg base CX0 (k + 2) f fd ["value", "name"] spCheck := by
  refine F.ok scCheck (fun vs H Q E h => ?_) (fun cdv A outer s H vs Q E hr h => ?_)
  · obtain ⟨t, x, y, z, rfl, _⟩ := h
    rfl
  · obtain ⟨t, x, y, z, rfl, hx, d, q⟩ := h
    exact ⟨_, pss_one (ps_if (pt_not (pt_val (pe_call GS hr (by rfl) gS kS bS .nil pass0 (pa_cons (pv 0) pa_nil)))) (pss_one ps_never) pss_nil), _, rfl, t, x, y, rfl, hx, d, _, rfl, q⟩
/-- the double area -/
def tri (ax ay bx by' cx cy : Int) : Int := (bx - ax) * (cy - ay) - (by' - ay) * (cx - ax)
/-- three sites, and what is told of their numbers -/
def sp3 (K : PySem.W.Frag) (v : Int → Int → Int → Int → Int → Int → V) : Sp := fun vs H Q _ => ∃ (a b c : Addr) (ax ay bx by' cx cy : Int), vs = [.ref a, .ref b, .ref c] ∧ Sit H a ax ay ∧ Sit H b bx by' ∧ Sit H c cx cy ∧
  Bd 1000000 ax ay ∧ Bd 1000000 bx by' ∧ Bd 1000000 cx cy ∧ Q (v ax ay bx by' cx cy) H
theorem tri_m1 {ax ay bx cy : Int} (a : -1000000 ≤ ax ∧ ax ≤ 1000000) (b : -1000000 ≤ bx ∧ bx ≤ 1000000) : CMul (bx - ax) (cy - ay) := .inl ⟨by omega, by omega⟩
theorem ok_tos {f : Addr} {fd : FuncData} {k : Nat} (F : Fun K "turn_of_sites" "turn_of_sites" sToS f fd) (misinstance : mg "isinstance" = none) (mtuple : mg "tuple" = none) (mint : mg "int" = none) (mlen : mg "len" = none) : FnOk P w K mg base CX0 (k + 1) f fd ["a", "b", "c"] (sp3 K fun ax ay bx by' cx cy => .int (tri ax ay bx by' cx cy)) := by
  refine F.ok scToS (fun vs H Q E h => ?_) (fun cdv A outer s H vs Q E hr h => ?_)
  · obtain ⟨a, b, c, ax, ay, bx, by', cx, cy, rfl, _⟩ := h
    rfl
  · obtain ⟨a, b, c, ax, ay, bx, by', cx, cy, rfl, ha, hb, hc, da, db, dc, q⟩ := h
    have m1 : CMul (bx - ax) (cy - ay) := tri_m1 ⟨da.1, da.2.1⟩ ⟨db.1, db.2.1⟩
    have m2 : CMul (by' - ay) (cx - ax) := tri_m1 da.2.2 db.2.2
    have nd := scToS.nd
    obtain ⟨a1, a2, a3, a4⟩ := da
    obtain ⟨b1, b2, b3, b4⟩ := db
    obtain ⟨c1, c2, c3, c4⟩ := dc
    refine ⟨_, (pss_cons (ps_if (PW.pt (pw_or (pt_not (pt_val (pe_callB call_isi (by rfl) misinstance (by decide +kernel) (pa_cons (pv 0) (pa_cons (pe_bltn (v := .ty "tuple") (by rfl) mtuple (by decide +kernel) rfl) pa_nil))))) (pw_or (pt_not (pt_val (pe_callB call_isi (by rfl) misinstance (by decide +kernel) (pa_cons (pv 1) (pa_cons (pe_bltn (v := .ty "tuple") (by rfl) mtuple (by decide +kernel) rfl) pa_nil))))) (pw_or1 (pt_not (pt_val (pe_callB call_isi (by rfl) misinstance (by decide +kernel) (pa_cons (pv 2) (pa_cons (pe_bltn (v := .ty "tuple") (by rfl) mtuple (by decide +kernel) rfl) pa_nil))))))))) (pss_one (ps_ret pe_non)) pss_nil) (pss_cons (ps_if (PW.pt (pw_or (pt_cmpR op_ne (pe_callB call_len_seq (by rfl) mlen (by decide +kernel) (pa_cons (pv 0) pa_nil)) pe_int (nomark _)) (pw_or (pt_cmpR op_ne (pe_callB call_len_seq (by rfl) mlen (by decide +kernel) (pa_cons (pv 1) pa_nil)) pe_int (nomark _)) (pw_or1 (pt_cmpR op_ne (pe_callB call_len_seq (by rfl) mlen (by decide +kernel) (pa_cons (pv 2) pa_nil)) pe_int (nomark _)))))) (pss_one (ps_ret pe_non)) pss_nil) (pss_cons (ps_asg (pv 0) (pg_tup (by rfl) (pgs_cons (pg_name (i := 3) nd rfl (.inl rfl)) (pgs_cons (pg_name (i := 4) nd rfl (.inl rfl)) pgs_nil)))) (pss_cons (ps_asg (pv 1) (pg_tup (by rfl) (pgs_cons (pg_name (i := 5) nd rfl (.inl rfl)) (pgs_cons (pg_name (i := 6) nd rfl (.inl rfl)) pgs_nil)))) (pss_cons (ps_asg (pv 2) (pg_tup (by rfl) (pgs_cons (pg_name (i := 7) nd rfl (.inl rfl)) (pgs_cons (pg_name (i := 8) nd rfl (.inl rfl)) pgs_nil)))) (pss_cons (ps_if (PW.pt (pw_or (pt_not (pt_val (pe_callB call_isi (by rfl) misinstance (by decide +kernel) (pa_cons (pv 3) (pa_cons (pe_bltn (v := .ty "int") (by rfl) mint (by decide +kernel) rfl) pa_nil))))) (pw_or (pt_not (pt_val (pe_callB call_isi (by rfl) misinstance (by decide +kernel) (pa_cons (pv 5) (pa_cons (pe_bltn (v := .ty "int") (by rfl) mint (by decide +kernel) rfl) pa_nil))))) (pw_or1 (pt_not (pt_val (pe_callB call_isi (by rfl) misinstance (by decide +kernel) (pa_cons (pv 7) (pa_cons (pe_bltn (v := .ty "int") (by rfl) mint (by decide +kernel) rfl) pa_nil))))))))) (pss_one (ps_ret pe_non)) pss_nil) (pss_cons (ps_if (PW.pt (pw_or (pt_not (pt_val (pe_callB call_isi (by rfl) misinstance (by decide +kernel) (pa_cons (pv 4) (pa_cons (pe_bltn (v := .ty "int") (by rfl) mint (by decide +kernel) rfl) pa_nil))))) (pw_or (pt_not (pt_val (pe_callB call_isi (by rfl) misinstance (by decide +kernel) (pa_cons (pv 6) (pa_cons (pe_bltn (v := .ty "int") (by rfl) mint (by decide +kernel) rfl) pa_nil))))) (pw_or1 (pt_not (pt_val (pe_callB call_isi (by rfl) misinstance (by decide +kernel) (pa_cons (pv 8) (pa_cons (pe_bltn (v := .ty "int") (by rfl) mint (by decide +kernel) rfl) pa_nil))))))))) (pss_one (ps_ret pe_non)) pss_nil) (pss_cons (ps_if (PW.pt (pw_or (pt_cmpR op_isIB (pv 3) pe_bl (nomark _)) (pw_or (pt_cmpR op_isIB (pv 3) pe_bl (nomark _)) (pw_or (pt_cmpR op_isIB (pv 5) pe_bl (nomark _)) (pw_or (pt_cmpR op_isIB (pv 5) pe_bl (nomark _)) (pw_or (pt_cmpR op_isIB (pv 7) pe_bl (nomark _)) (pw_or1 (pt_cmpR op_isIB (pv 7) pe_bl (nomark _))))))))) (pss_one (ps_ret pe_non)) pss_nil) (pss_cons (ps_if (PW.pt (pw_or (pt_cmpR op_isIB (pv 4) pe_bl (nomark _)) (pw_or (pt_cmpR op_isIB (pv 4) pe_bl (nomark _)) (pw_or (pt_cmpR op_isIB (pv 6) pe_bl (nomark _)) (pw_or (pt_cmpR op_isIB (pv 6) pe_bl (nomark _)) (pw_or (pt_cmpR op_isIB (pv 8) pe_bl (nomark _)) (pw_or1 (pt_cmpR op_isIB (pv 8) pe_bl (nomark _))))))))) (pss_one (ps_ret pe_non)) pss_nil) (pss_cons (ps_if (PW.pt (pw_or (pt_cmpR op_gt (pv 3) pe_int (nomark _)) (pw_or (pt_cmpR op_lt (pv 3) pe_neg (nomark _)) (pw_or (pt_cmpR op_gt (pv 5) pe_int (nomark _)) (pw_or1 (pt_cmpR op_lt (pv 5) pe_neg (nomark _))))))) (pss_one (ps_ret pe_non)) pss_nil) (pss_cons (ps_if (PW.pt (pw_or (pt_cmpR op_gt (pv 4) pe_int (nomark _)) (pw_or (pt_cmpR op_lt (pv 4) pe_neg (nomark _)) (pw_or (pt_cmpR op_gt (pv 6) pe_int (nomark _)) (pw_or1 (pt_cmpR op_lt (pv 6) pe_neg (nomark _))))))) (pss_one (ps_ret pe_non)) pss_nil) (pss_cons (ps_if (PW.pt (pw_or (pt_cmpR op_gt (pv 7) pe_int (nomark _)) (pw_or (pt_cmpR op_lt (pv 7) pe_neg (nomark _)) (pw_or (pt_cmpR op_gt (pv 8) pe_int (nomark _)) (pw_or1 (pt_cmpR op_lt (pv 8) pe_neg (nomark _))))))) (pss_one (ps_ret pe_non)) pss_nil) (pss_one (ps_ret (pe_op op_sub (pe_op op_mul (pe_op op_sub (pv 5) (pv 3)) (pe_op op_sub (pv 8) (pv 4))) (pe_op op_mul (pe_op op_sub (pv 6) (pv 4)) (pe_op op_sub (pv 7) (pv 3)))))))))))))))))), ?_⟩
    exact ⟨_, rfl, _, _, _, _, _, rfl, .ty "tuple", .base (.tup ha), kTT K, _, rfl, _, rfl, _, _, _, _, _, rfl, .ty "tuple", .base (.tup hb), kTT K, _, rfl, _, rfl, _, _, _, _, _, rfl, .ty "tuple", .base (.tup hc), kTT K, _, rfl, _, rfl, _, _, rfl, .inr (SqT.of ha), rfl, _, rfl, _, rfl, _, _, rfl, .inr (SqT.of hb), rfl, _, rfl, _, rfl, _, _, rfl, .inr (SqT.of hc), rfl, _, rfl, _, rfl, _, _, rfl, SqT.of ha, rfl, _, _, rfl, _, _, rfl, rfl, _, rfl, _, _, rfl, SqT.of hb, rfl, _, _, rfl, _, _, rfl, rfl, _, rfl, _, _, rfl, SqT.of hc, rfl, _, _, rfl, _, _, rfl, rfl, _, rfl, _, _, _, _, _, rfl, .ty "int", .base (.int _), kII K, _, rfl, _, rfl, _, _, _, _, _, rfl, .ty "int", .base (.int _), kII K, _, rfl, _, rfl, _, _, _, _, _, rfl, .ty "int", .base (.int _), kII K, _, rfl, _, rfl, _, _, _, _, _, rfl, .ty "int", .base (.int _), kII K, _, rfl, _, rfl, _, _, _, _, _, rfl, .ty "int", .base (.int _), kII K, _, rfl, _, rfl, _, _, _, _, _, rfl, .ty "int", .base (.int _), kII K, _, rfl, _, rfl, _, _, rfl, rfl, _, rfl, _, rfl, _, _, rfl, rfl, _, rfl, _, rfl, _, _, rfl, rfl, _, rfl, _, rfl, _, _, rfl, rfl, _, rfl, _, rfl, _, _, rfl, rfl, _, rfl, _, rfl, _, _, rfl, rfl, _, rfl, _, rfl, _, _, rfl, rfl, _, rfl, _, rfl, _, _, rfl, rfl, _, rfl, _, rfl, _, _, rfl, rfl, _, rfl, _, rfl, _, _, rfl, rfl, _, rfl, _, rfl, _, _, rfl, rfl, _, rfl, _, rfl, _, _, rfl, rfl, _, rfl, _, rfl, _, _, rfl, rfl, _, rfl, itf (by omega) ⟨_, rfl, _, _, rfl, rfl, _, rfl, itf (by omega) ⟨_, rfl, _, _, rfl, rfl, _, rfl, itf (by omega) ⟨_, rfl, _, _, rfl, rfl, _, rfl, itf (by omega) ⟨_, rfl, _, _, rfl, rfl, _, rfl, itf (by omega) ⟨_, rfl, _, _, rfl, rfl, _, rfl, itf (by omega) ⟨_, rfl, _, _, rfl, rfl, _, rfl, itf (by omega) ⟨_, rfl, _, _, rfl, rfl, _, rfl, itf (by omega) ⟨_, rfl, _, _, rfl, rfl, _, rfl, itf (by omega) ⟨_, rfl, _, _, rfl, rfl, _, rfl, itf (by omega) ⟨_, rfl, _, _, rfl, rfl, _, rfl, itf (by omega) ⟨_, rfl, _, _, rfl, rfl, _, rfl, itf (by omega) ⟨_, rfl, _, rfl, _, _, rfl, rfl, _, rfl, _, rfl, _, _, rfl, rfl, _, _, rfl, rfl, m1, _, rfl, _, rfl, _, _, rfl, rfl, _, rfl, _, rfl, _, _, rfl, rfl, _, _, rfl, rfl, m2, _, _, rfl, rfl, q⟩⟩⟩⟩⟩⟩⟩⟩⟩⟩⟩⟩⟩
end
/-! ### signs, sites that are alike -/
section
variable {P : Program} {w : World} {K : PySem.W.Frag} {mg : Str → Option Value} {base : Heap}
def sg (n : Int) : Int := if n = 0 then 0 else if 0 < n then 1 else -1
theorem dpSit {H : Hp} {t : Addr} {x y : Int} (h : Sit H t x y) : Dp K H (.ref t) (.tuple [.int x, .int y]) := .tup (SqT.of h) (.cons (.int x) (.cons (.int y) .nil))
theorem eqv_sit (x y u v : Int) : PyData.eqv (.tuple [.int x, .int y]) (.tuple [.int u, .int v]) = decide (x = u ∧ y = v) := by
  simp [PyData.eqv, PyData.eqvAll, Bool.decide_and, Bool.beq_eq_decide_eq]
theorem at0_ (u v : V) : atI [u, v] 0 = some u := rfl
theorem at1_ (u v : V) : atI [u, v] 1 = some v := rfl
end
abbrev sSign : Stmt := topS 6
theorem scSign : FnScope ["number"] ["number"] (defScope sSign) := ⟨rfl, rfl, rfl, by decide +kernel, rfl, by decide +kernel, by decide +kernel⟩
section
variable {P : Program} {w : World} {K : PySem.W.Frag} {mg : Str → Option Value} {base : Heap}
def spSign : Sp := fun vs H Q _ => ∃ n : Int, vs = [.int n] ∧ Q (.int (sg n)) H
theorem ok_sign {f : Addr} {fd : FuncData} {k : Nat} (F : Fun K "sign" "sign" sSign f fd) : FnOk P w K mg base CX0 (k + 1) f fd ["number"] spSign := by
  refine F.ok scSign (fun vs H Q E h => ?_) (fun cdv A outer s H vs Q E hr h => ?_)
  · obtain ⟨n, rfl, _⟩ := h
    rfl
  · obtain ⟨n, rfl, q⟩ := h
    refine ⟨_, pss_cons (ps_if (pt_cmpR op_eq (pv 0) pe_int (nomark _)) (pss_one (ps_ret pe_int)) pss_nil)
      (pss_one (ps_ret (pe_ifExp (pt_cmpR op_gt (pv 0) pe_int (nomark _)) pe_int pe_neg))), ?_⟩
    unfold sg at q
    refine ⟨_, rfl, rfl, _, rfl, ite2 (fun c => ?_) fun c => ⟨_, rfl, _, _, rfl, rfl, _, rfl, ite2 (fun d => ?_) fun d => ?_⟩⟩
    · rw [if_pos (V.int.inj (of_decide_eq_true c))] at q
      exact q
    · rw [if_neg (fun z => c (by rw [z]; exact decide_eq_true rfl)), if_pos (of_decide_eq_true d)] at q
      exact q
    · rw [if_neg (fun z => c (by rw [z]; exact decide_eq_true rfl)), if_neg (fun z => d (decide_eq_true z))] at q
      exact q
end
/-! ### places, fractions: the mathematics -/
def g3 (x y d : Int) : Nat := Nat.gcd (Nat.gcd x.natAbs y.natAbs) d.natAbs
theorem g3_is (x y d : Int) : Nat.gcd (((Nat.gcd x.natAbs y.natAbs : Nat) : Int)).natAbs d.natAbs = g3 x y d := by
  rw [Int.natAbs_natCast]
  rfl
theorem g3_dx (x y d : Int) : ((g3 x y d : Nat) : Int) ∣ x := Int.ofNat_dvd_left.mpr (Nat.dvd_trans (Nat.gcd_dvd_left _ _) (Nat.gcd_dvd_left _ _))
theorem g3_dy (x y d : Int) : ((g3 x y d : Nat) : Int) ∣ y := Int.ofNat_dvd_left.mpr (Nat.dvd_trans (Nat.gcd_dvd_left _ _) (Nat.gcd_dvd_right _ _))
theorem g3_dd (x y d : Int) : ((g3 x y d : Nat) : Int) ∣ d := Int.ofNat_dvd_left.mpr (Nat.gcd_dvd_right _ _)
theorem g3_pos {x y d : Int} (h : d ≠ 0) : 0 < g3 x y d := Nat.gcd_pos_of_pos_right _ (Int.natAbs_pos.mpr h)
theorem g3_le {x y d : Int} (h : d ≠ 0) : g3 x y d ≤ d.natAbs := Nat.le_of_dvd (Int.natAbs_pos.mpr h) (Nat.gcd_dvd_right _ _)
/-- the divisor that makes the last number one of 1 and more -/
def gs (x y d : Int) : Int := if d < 0 then -((g3 x y d : Nat) : Int) else ((g3 x y d : Nat) : Int)
theorem gs_ne {x y d : Int} (h : d ≠ 0) : gs x y d ≠ 0 := by
  have := g3_pos (x := x) (y := y) h
  unfold gs
  split <;> omega
theorem gs_abs (x y d : Int) : (gs x y d).natAbs = g3 x y d := by
  unfold gs
  split <;> omega
theorem gs_dvd {x y d z : Int} (h : ((g3 x y d : Nat) : Int) ∣ z) : gs x y d ∣ z := by
  unfold gs
  split
  · exact Int.neg_dvd.mpr h
  · exact h
/-- a tuple of three numbers is a place -/
structure PlOk (x y d : Int) : Prop where
  x1 : -(10 ^ 30) < x
  x2 : x < 10 ^ 30
  y1 : -(10 ^ 30) < y
  y2 : y < 10 ^ 30
  d1 : 1 ≤ d
  d2 : d < 10 ^ 30
  g1 : g3 x y d = 1
theorem mul_fdiv {g z : Int} (h : g ∣ z) : g * z.fdiv g = z := by
  rw [Int.fdiv_eq_ediv_of_dvd h]
  exact Int.mul_ediv_cancel' h
theorem abs_le_of_mul {g z x : Int} (e : g * z = x) (h : g ≠ 0) : z.natAbs ≤ x.natAbs := by
  rw [← e, Int.natAbs_mul]
  exact Nat.le_mul_of_pos_left _ (Int.natAbs_pos.mpr h)
theorem place_ok {x y d : Int} (h : d ≠ 0) (hx : x.natAbs < 10 ^ 30) (hy : y.natAbs < 10 ^ 30) (hd : d.natAbs < 10 ^ 30) : PlOk (x.fdiv (gs x y d)) (y.fdiv (gs x y d)) (d.fdiv (gs x y d)) := by
  have ex := mul_fdiv (gs_dvd (g3_dx x y d))
  have ey := mul_fdiv (gs_dvd (g3_dy x y d))
  have ed := mul_fdiv (gs_dvd (g3_dd x y d))
  have hn := gs_ne (x := x) (y := y) h
  have bx := abs_le_of_mul ex hn
  have by' := abs_le_of_mul ey hn
  have bd := abs_le_of_mul ed hn
  have pos : 0 < d.fdiv (gs x y d) := by
    have gp := g3_pos (x := x) (y := y) h
    generalize d.fdiv (gs x y d) = D at ed
    unfold gs at ed
    split at ed
    · rename_i hneg
      rcases Int.lt_trichotomy D 0 with z | z | z
      · exfalso
        have w : 0 < -((g3 x y d : Nat) : Int) * D := Int.mul_pos_of_neg_of_neg (by omega) z
        omega
      · rw [z, Int.mul_zero] at ed
        omega
      · exact z
    · rcases Int.lt_trichotomy D 0 with z | z | z
      · exfalso
        have w : ((g3 x y d : Nat) : Int) * D < 0 := Int.mul_neg_of_pos_of_neg (by omega) z
        omega
      · rw [z, Int.mul_zero] at ed
        omega
      · exact z
  refine ⟨by omega, by omega, by omega, by omega, by omega, by omega, ?_⟩
  have nx : g3 x y d * (x.fdiv (gs x y d)).natAbs = x.natAbs := by rw [← gs_abs, ← Int.natAbs_mul, ex]
  have ny : g3 x y d * (y.fdiv (gs x y d)).natAbs = y.natAbs := by rw [← gs_abs, ← Int.natAbs_mul, ey]
  have nd : g3 x y d * (d.fdiv (gs x y d)).natAbs = d.natAbs := by rw [← gs_abs, ← Int.natAbs_mul, ed]
  have key : g3 x y d * g3 (x.fdiv (gs x y d)) (y.fdiv (gs x y d)) (d.fdiv (gs x y d)) = g3 x y d := by
    generalize hg : g3 x y d = g at nx ny nd
    unfold g3
    rw [← Nat.gcd_mul_left, ← Nat.gcd_mul_left, nx, ny, nd]
    exact hg
  exact Nat.eq_of_mul_eq_mul_left (g3_pos (x := x) (y := y) h) (by rw [key, Nat.mul_one])
theorem nb_add {i j : Int} {a : Nat} (hi : i.natAbs < 2 ^ a) (hj : j.natAbs < 2 ^ a) : (i + j).natAbs < 2 ^ (a + 1) := by
  rw [Nat.pow_succ]
  omega
theorem nb_sub {i j : Int} {a : Nat} (hi : i.natAbs < 2 ^ a) (hj : j.natAbs < 2 ^ a) : (i - j).natAbs < 2 ^ (a + 1) := by
  rw [Nat.pow_succ]
  omega
theorem nb_up {i : Int} {a b : Nat} (hi : i.natAbs < 2 ^ a) (h : a ≤ b) : i.natAbs < 2 ^ b := Nat.lt_of_lt_of_le hi (Nat.pow_le_pow_right (by decide) h)
theorem PlOk.bits {x y d : Int} (h : PlOk x y d) : x.natAbs < 2 ^ 100 ∧ y.natAbs < 2 ^ 100 ∧ d.natAbs < 2 ^ 100 := by
  obtain ⟨h1, h2, h3, h4, h5, h6, _⟩ := h
  refine ⟨by omega, by omega, by omega⟩
/-- the squared distance of a place and a site, times d * d -/
def spread (x y d u v : Int) : Int := (x - d * u) * (x - d * u) + (y - d * v) * (y - d * v)
theorem sq_nn (x : Int) : 0 ≤ x * x := by
  rw [← Int.natAbs_mul_self]
  exact Int.natCast_nonneg _
theorem spread_nonneg (x y d u v : Int) : 0 ≤ spread x y d u v := Int.add_nonneg (sq_nn _) (sq_nn _)
theorem far_bits {x d u : Int} (hx : x.natAbs < 2 ^ 100) (hd : d.natAbs < 2 ^ 100) (hu : -1000000 ≤ u ∧ u ≤ 1000000) : (x - d * u).natAbs < 2 ^ 121 := by
  have h1 : (d * u).natAbs < 2 ^ (100 + 20) := wide_lt hd (by omega)
  exact nb_sub (nb_up hx (by decide)) h1
/-- what lifts from a site are -/
def lz (u v : Int) : Int := u * u + v * v
def vol (ax ay bx by' cx cy dx dy : Int) : Int :=
  (dx - ax) * ((by' - ay) * lz (cx - ax) (cy - ay) - lz (bx - ax) (by' - ay) * (cy - ay)) + (dy - ay) * (lz (bx - ax) (by' - ay) * (cx - ax) - (bx - ax) * lz (cx - ax) (cy - ay)) + lz (dx - ax) (dy - ay) * ((bx - ax) * (cy - ay) - (by' - ay) * (cx - ax))
theorem vol_turn (ax ay bx by' cx cy dx dy : Int) : vol cx cy ax ay bx by' dx dy = vol ax ay bx by' cx cy dx dy := by
  unfold vol lz
  grind
theorem tri_turn (ax ay bx by' cx cy : Int) : tri cx cy ax ay bx by' = tri ax ay bx by' cx cy := by
  unfold tri
  grind
/-! ### fractions, places, circles, lifts -/
abbrev sFrac : Stmt := topS 7
abbrev sIsPl : Stmt := topS 11
abbrev sCheckP : Stmt := topS 13
abbrev sCirT : Stmt := topS 15
abbrev sHov : Stmt := topS 16
abbrev sSpread : Stmt := topS 17
abbrev sCircle : Stmt := topS 20
abbrev sInC : Stmt := topS 21
abbrev sLSide : Stmt := topS 22
abbrev sSquare : Stmt := topS 23
abbrev sNearer : Stmt := topS 24
theorem scFrac : FnScope ["top", "bottom", "common"] ["top", "bottom"] (defScope sFrac) := ⟨rfl, rfl, rfl, by decide +kernel, rfl, by decide +kernel, by decide +kernel⟩
theorem scIsPl : FnScope ["value", "x", "y", "d"] ["value"] (defScope sIsPl) := ⟨rfl, rfl, rfl, by decide +kernel, rfl, by decide +kernel, by decide +kernel⟩
theorem scCheckP : FnScope ["value", "name"] ["value", "name"] (defScope sCheckP) := ⟨rfl, rfl, rfl, by decide +kernel, rfl, by decide +kernel, by decide +kernel⟩
theorem scCirT : FnScope ["a", "b", "c", "ax", "ay", "bx", "by", "cx", "cy", "bz", "cz", "x", "y", "d", "common"] ["a", "b", "c"] (defScope sCirT) := ⟨rfl, rfl, rfl, by decide +kernel, rfl, by decide +kernel, by decide +kernel⟩
theorem scHov : FnScope ["a", "b", "c", "d", "dx", "dy", "ax", "ay", "bx", "by", "cx", "cy"] ["a", "b", "c", "d"] (defScope sHov) := ⟨rfl, rfl, rfl, by decide +kernel, rfl, by decide +kernel, by decide +kernel⟩
theorem scSpread : FnScope ["place", "site", "x", "y", "d"] ["place", "site"] (defScope sSpread) := ⟨rfl, rfl, rfl, by decide +kernel, rfl, by decide +kernel, by decide +kernel⟩
theorem scCircle : FnScope ["a", "b", "c", "area"] ["a", "b", "c"] (defScope sCircle) := ⟨rfl, rfl, rfl, by decide +kernel, rfl, by decide +kernel, by decide +kernel⟩
theorem scInC : FnScope ["a", "b", "c", "d"] ["a", "b", "c", "d"] (defScope sInC) := ⟨rfl, rfl, rfl, by decide +kernel, rfl, by decide +kernel, by decide +kernel⟩
theorem scLSide : FnScope ["a", "b", "c", "d", "area"] ["a", "b", "c", "d"] (defScope sLSide) := ⟨rfl, rfl, rfl, by decide +kernel, rfl, by decide +kernel, by decide +kernel⟩
theorem scSquare : FnScope ["place", "site"] ["place", "site"] (defScope sSquare) := ⟨rfl, rfl, rfl, by decide +kernel, rfl, by decide +kernel, by decide +kernel⟩
theorem scNearer : FnScope ["place", "a", "b"] ["place", "a", "b"] (defScope sNearer) := ⟨rfl, rfl, rfl, by decide +kernel, rfl, by decide +kernel, by decide +kernel⟩
section
variable {P : Program} {w : World} {K : PySem.W.Frag} {mg : Str → Option Value} {base : Heap}
theorem three_line : 3 ≤ sizeLine := by decide
theorem a30_ (u v z : V) : atI [u, v, z] 0 = some u := rfl
theorem a31_ (u v z : V) : atI [u, v, z] 1 = some v := rfl
theorem a32_ (u v z : V) : atI [u, v, z] 2 = some z := rfl
def Tup2 (H : Hp) (p : Addr) (x y : Int) : Prop := H p = some (.tup [.int x, .int y])
def Pla (H : Hp) (p : Addr) (x y d : Int) : Prop := H p = some (.tup [.int x, .int y, .int d])
/-- a new thing is handed back, all else stands -/
def newRes (H : Hp) (Q : VK) (o : HO) : Prop := ∀ (p : Addr) H', Same H H' → H p = none → H' p = some o → Q (.ref p) H'
/-! fraction -/
def gcf (t b : Int) : Int := ((Nat.gcd t.natAbs b.natAbs : Nat) : Int)
def spFrac : Sp := fun vs H Q _ => ∃ t b : Int, vs = [.int t, .int b] ∧ 0 < b ∧ b.natAbs < 2 ^ 8000 ∧ newRes H Q (.tup [.int (t / gcf t b), .int (b / gcf t b)])
theorem gcf_pos {t b : Int} (h : 0 < b) : 0 < gcf t b := Int.natCast_pos.mpr (Nat.gcd_pos_of_pos_right _ (by omega))
theorem gcf_le {t b : Int} (h : 0 < b) : (gcf t b).natAbs ≤ b.natAbs := by
  unfold gcf
  rw [Int.natAbs_natCast]
  exact Nat.le_of_dvd (by omega) (Nat.gcd_dvd_right _ _)
theorem ok_frac {f : Addr} {fd : FuncData} {k : Nat} (F : Fun K "fraction" "fraction" sFrac f fd) (mgcd : mg "gcd" = some (.builtin "math.gcd")) : FnOk P w K mg base CX0 (k + 1) f fd ["top", "bottom"] spFrac := by
  refine F.ok scFrac (fun vs H Q E h => ?_) (fun cdv A outer s H vs Q E hr h => ?_)
  · obtain ⟨t, b, rfl, _⟩ := h
    rfl
  · obtain ⟨t, b, rfl, hb, hw, q⟩ := h
    have c1 : CDivE t (gcf t b) := ⟨Int.ne_of_gt (gcf_pos hb), Nat.lt_of_le_of_lt (gcf_le hb) hw⟩
    have c2 : CDivE b (gcf t b) := ⟨Int.ne_of_gt (gcf_pos hb), Nat.lt_of_le_of_lt (gcf_le hb) hw⟩
    have e1 : t.fdiv (gcf t b) = t / gcf t b := Int.fdiv_eq_ediv_of_nonneg _ (Int.le_of_lt (gcf_pos hb))
    have e2 : b.fdiv (gcf t b) = b / gcf t b := Int.fdiv_eq_ediv_of_nonneg _ (Int.le_of_lt (gcf_pos hb))
    refine ⟨_, (pss_cons (ps_set (i := 2) scFrac.nd rfl (.inl rfl) (pe_callBfun cr_gcd (by rfl) mgcd (pa_cons (pv 0) (pa_cons (pv 1) pa_nil)))) (pss_one (ps_ret (pe_tup (pa_cons (pe_op op_fdivE (pv 0) (pv 2)) (pa_cons (pe_op op_fdivE (pv 1) (pv 2)) pa_nil)))))), ?_⟩
    refine ⟨_, rfl, _, rfl, _, _, rfl, ?_⟩
    refine ⟨_, rfl, _, rfl, _, _, rfl, rfl, c1, _, rfl, _, rfl, _, _, rfl, rfl, c2, two_line, fun p np => q p _ (Same.upd np) np ?_⟩
    rw [← e1, ← e2]
    exact upd_same
/-! places -/
/-- a place -/
def spIsPl : Sp := fun vs H Q _ => ∃ (t : Addr) (x y d : Int), vs = [.ref t] ∧ Pla H t x y d ∧ PlOk x y d ∧ Q (.bl true) H
set_option pp.maxSteps 300 in
theorem ok_ispl {f : Addr} {fd : FuncData} {k : Nat} (F : Fun K "is_place" "is_place" sIsPl f fd)
    (misinstance : mg "isinstance" = none) (mtuple : mg "tuple" = none) (mint : mg "int" = none) (mlen : mg "len" = none) (mgcd : mg "gcd" = some (.builtin "math.gcd")) : FnOk P w K mg base CX0 (k + 1) f fd ["value"] spIsPl := by
  refine F.ok scIsPl (fun vs H Q E h => ?_) (fun cdv A outer s H vs Q E hr h => ?_)
  · obtain ⟨t, x, y, d, rfl, _⟩ := h
    rfl
  · obtain ⟨t, x, y, d, rfl, h, p, q⟩ := h
    have nd := scIsPl.nd
    obtain ⟨x1, x2, y1, y2, d1, d2, g1⟩ := p
    refine ⟨_, (pss_cons (ps_if (PW.pt (pw_or (pt_not (pt_val (pe_callB call_isi (by rfl) misinstance (by decide +kernel) (pa_cons (pv 0) (pa_cons (pe_bltn (v := .ty "tuple") (by rfl) mtuple (by decide +kernel) rfl) pa_nil))))) (pw_or1 (pt_cmpR op_ne (pe_callB call_len_seq (by rfl) mlen (by decide +kernel) (pa_cons (pv 0) pa_nil)) pe_int (nomark _))))) (pss_one (ps_ret pe_bl)) pss_nil) (pss_cons (ps_asg (pv 0) (pg_tup (by rfl) (pgs_cons (pg_name (i := 1) nd rfl (.inl rfl)) (pgs_cons (pg_name (i := 2) nd rfl (.inl rfl)) (pgs_cons (pg_name (i := 3) nd rfl (.inl rfl)) pgs_nil))))) (pss_cons (ps_if (PW.pt (pw_or (pt_not (pt_val (pe_callB call_isi (by rfl) misinstance (by decide +kernel) (pa_cons (pv 1) (pa_cons (pe_bltn (v := .ty "int") (by rfl) mint (by decide +kernel) rfl) pa_nil))))) (pw_or (pt_not (pt_val (pe_callB call_isi (by rfl) misinstance (by decide +kernel) (pa_cons (pv 2) (pa_cons (pe_bltn (v := .ty "int") (by rfl) mint (by decide +kernel) rfl) pa_nil))))) (pw_or1 (pt_not (pt_val (pe_callB call_isi (by rfl) misinstance (by decide +kernel) (pa_cons (pv 3) (pa_cons (pe_bltn (v := .ty "int") (by rfl) mint (by decide +kernel) rfl) pa_nil))))))))) (pss_one (ps_ret pe_bl)) pss_nil) (pss_cons (ps_if (PW.pt (pw_or (pt_cmpR op_isIB (pv 1) pe_bl (nomark _)) (pw_or (pt_cmpR op_isIB (pv 1) pe_bl (nomark _)) (pw_or (pt_cmpR op_isIB (pv 2) pe_bl (nomark _)) (pw_or (pt_cmpR op_isIB (pv 2) pe_bl (nomark _)) (pw_or (pt_cmpR op_isIB (pv 3) pe_bl (nomark _)) (pw_or1 (pt_cmpR op_lt (pv 3) pe_int (nomark _))))))))) (pss_one (ps_ret pe_bl)) pss_nil) (pss_cons (ps_if (PW.pt (pw_or (pt_not (pt_chain op_lt op_lt (pe_un un_neg (pe_op op_pow pe_int pe_int)) (pv 1) (pe_op op_pow pe_int pe_int))) (pw_or (pt_not (pt_chain op_lt op_lt (pe_un un_neg (pe_op op_pow pe_int pe_int)) (pv 2) (pe_op op_pow pe_int pe_int))) (pw_or1 (pt_cmpR op_ge (pv 3) (pe_op op_pow pe_int pe_int) (nomark _)))))) (pss_one (ps_ret pe_bl)) pss_nil) (pss_one (ps_ret (pe_or (pe_cmpR op_eq (pv 3) pe_int (nomark _)) (pe_one (pe_cmpR op_eq (pe_callBfun cr_gcd3 (by rfl) mgcd (pa_cons (pv 1) (pa_cons (pv 2) (pa_cons (pv 3) pa_nil)))) pe_int (nomark _))))))))))), ?_⟩
    repeat array_get_dec
    refine w_itt x1 ?_
    repeat array_get_dec
    refine w_ntt x2 ?_
    repeat array_get_dec
    refine w_itt y1 ?_
    repeat array_get_dec
    refine w_ntt y2 ?_
    repeat array_get_dec
    refine w_itf (p := (10 : Int) ^ (30 : Int).toNat ≤ d) (fun z => absurd d2 (Int.not_lt.mpr z)) ?_
    refine ⟨_, rfl, rfl, _, rfl, ite2 (fun _ => q) fun _ => ?_⟩
    repeat array_get_dec
    have e : Nat.gcd (Nat.gcd x.natAbs y.natAbs) d.natAbs = 1 := g1
    rw [e]
    exact q
def spCheckP : Sp := fun vs H Q _ => ∃ (t : Addr) (x y d : Int) (z : Str), vs = [.ref t, .str z] ∧ Pla H t x y d ∧ PlOk x y d ∧ Q .non H
theorem ok_checkp {f fS : Addr} {fd fdS : FuncData} {k : Nat} (F : Fun K "check_place" "check_place" sCheckP f fd)
    (GS : FnOk P w K mg base CX0 (k + 1) fS fdS ["value"] spIsPl) (gS : mg "is_place" = some (.ref fS)) (kS : PySem.W.keepIn K (.ref fS) = true) (bS : Binds K fdS ["value"] []) : FnOk P w K mg base CX0 (k + 2) f fd ["value", "name"] spCheckP := by
  refine F.ok scCheckP (fun vs H Q E h => ?_) (fun cdv A outer s H vs Q E hr h => ?_)
  · obtain ⟨t, x, y, d, z, rfl, _⟩ := h
    rfl
  · obtain ⟨t, x, y, d, z, rfl, h, p, q⟩ := h
    exact ⟨_, pss_one (ps_if (pt_not (pt_val (pe_call GS hr (by rfl) gS kS bS .nil pass0 (pa_cons (pv 0) pa_nil)))) (pss_one ps_never) pss_nil), _, rfl, t, x, y, d, rfl, h, p, _, rfl, q⟩
end
/-! ### circles: the mathematics -/
def cX1 (ax ay bx by' cx cy : Int) : Int := lz (bx - ax) (by' - ay) * (cy - ay) - lz (cx - ax) (cy - ay) * (by' - ay)
def cY1 (ax ay bx by' cx cy : Int) : Int := lz (cx - ax) (cy - ay) * (bx - ax) - lz (bx - ax) (by' - ay) * (cx - ax)
def cXn (ax ay bx by' cx cy : Int) : Int := ax * (2 * tri ax ay bx by' cx cy) + cX1 ax ay bx by' cx cy
def cYn (ax ay bx by' cx cy : Int) : Int := ay * (2 * tri ax ay bx by' cx cy) + cY1 ax ay bx by' cx cy
def cDn (ax ay bx by' cx cy : Int) : Int := 2 * tri ax ay bx by' cx cy
def cTop (ax ay bx by' cx cy : Int) : Int := cX1 ax ay bx by' cx cy * cX1 ax ay bx by' cx cy + cY1 ax ay bx by' cx cy * cY1 ax ay bx by' cx cy
def cBot (ax ay bx by' cx cy : Int) : Int := 2 * tri ax ay bx by' cx cy * (2 * tri ax ay bx by' cx cy)
/-- the centre's numbers -/
def ctx (ax ay bx by' cx cy : Int) : Int := (cXn ax ay bx by' cx cy).fdiv (gs (cXn ax ay bx by' cx cy) (cYn ax ay bx by' cx cy) (cDn ax ay bx by' cx cy))
def cty (ax ay bx by' cx cy : Int) : Int := (cYn ax ay bx by' cx cy).fdiv (gs (cXn ax ay bx by' cx cy) (cYn ax ay bx by' cx cy) (cDn ax ay bx by' cx cy))
def ctd (ax ay bx by' cx cy : Int) : Int := (cDn ax ay bx by' cx cy).fdiv (gs (cXn ax ay bx by' cx cy) (cYn ax ay bx by' cx cy) (cDn ax ay bx by' cx cy))
theorem cmL {i j : Int} (h : i.natAbs < 2 ^ 63) : CMul i j := .inl ⟨by omega, by omega⟩
theorem cmR {i j : Int} (h : j.natAbs < 2 ^ 63) : CMul i j := .inr ⟨by omega, by omega⟩
theorem df_bits {a b : Int} (ha : -1000000 ≤ a ∧ a ≤ 1000000) (hb : -1000000 ≤ b ∧ b ≤ 1000000) : (b - a).natAbs < 2 ^ 21 := by omega
theorem lz_bits {u v : Int} (hu : u.natAbs < 2 ^ 21) (hv : v.natAbs < 2 ^ 21) : (lz u v).natAbs < 2 ^ 43 := nb_add (wide_lt hu hu) (wide_lt hv hv)
structure Six (ax ay bx by' cx cy : Int) : Prop where
  a : Bd 1000000 ax ay
  b : Bd 1000000 bx by'
  c : Bd 1000000 cx cy
section
variable {ax ay bx by' cx cy : Int}
theorem Six.u1 (h : Six ax ay bx by' cx cy) : (bx - ax).natAbs < 2 ^ 21 := df_bits ⟨h.a.1, h.a.2.1⟩ ⟨h.b.1, h.b.2.1⟩
theorem Six.v1 (h : Six ax ay bx by' cx cy) : (by' - ay).natAbs < 2 ^ 21 := df_bits h.a.2.2 h.b.2.2
theorem Six.u2 (h : Six ax ay bx by' cx cy) : (cx - ax).natAbs < 2 ^ 21 := df_bits ⟨h.a.1, h.a.2.1⟩ ⟨h.c.1, h.c.2.1⟩
theorem Six.v2 (h : Six ax ay bx by' cx cy) : (cy - ay).natAbs < 2 ^ 21 := df_bits h.a.2.2 h.c.2.2
theorem Six.l1 (h : Six ax ay bx by' cx cy) : (lz (bx - ax) (by' - ay)).natAbs < 2 ^ 43 := lz_bits h.u1 h.v1
theorem Six.l2 (h : Six ax ay bx by' cx cy) : (lz (cx - ax) (cy - ay)).natAbs < 2 ^ 43 := lz_bits h.u2 h.v2
theorem Six.t (h : Six ax ay bx by' cx cy) : (tri ax ay bx by' cx cy).natAbs < 2 ^ 43 := nb_sub (wide_lt h.u1 h.v2) (wide_lt h.v1 h.u2)
theorem Six.t2 (h : Six ax ay bx by' cx cy) : (2 * tri ax ay bx by' cx cy).natAbs < 2 ^ 44 := by
  have := h.t
  omega
theorem Six.x1 (h : Six ax ay bx by' cx cy) : (cX1 ax ay bx by' cx cy).natAbs < 2 ^ 65 := nb_sub (wide_lt h.l1 h.v2) (wide_lt h.l2 h.v1)
theorem Six.y1 (h : Six ax ay bx by' cx cy) : (cY1 ax ay bx by' cx cy).natAbs < 2 ^ 65 := nb_sub (wide_lt h.l2 h.u1) (wide_lt h.l1 h.u2)
theorem Six.xn (h : Six ax ay bx by' cx cy) : (cXn ax ay bx by' cx cy).natAbs < 2 ^ 66 := nb_add (wide_lt (a := 21) (by have := h.a.1; have := h.a.2.1; omega) h.t2) h.x1
theorem Six.yn (h : Six ax ay bx by' cx cy) : (cYn ax ay bx by' cx cy).natAbs < 2 ^ 66 := nb_add (wide_lt (a := 21) (by have := h.a.2.2; omega) h.t2) h.y1
theorem Six.place (h : Six ax ay bx by' cx cy) (t : tri ax ay bx by' cx cy ≠ 0) : PlOk (ctx ax ay bx by' cx cy) (cty ax ay bx by' cx cy) (ctd ax ay bx by' cx cy) := by
  have h1 := h.xn
  have h2 := h.yn
  have h3 := h.t2
  exact place_ok (show cDn ax ay bx by' cx cy ≠ 0 by unfold cDn; omega) (by omega) (by omega) (by unfold cDn; omega)
/-- the centre is as far from all three, times its last number's square -/
theorem centre_far (t : tri ax ay bx by' cx cy ≠ 0) : ∃ g : Int, g ≠ 0 ∧ g * ctx ax ay bx by' cx cy = cXn ax ay bx by' cx cy ∧ g * cty ax ay bx by' cx cy = cYn ax ay bx by' cx cy ∧ g * ctd ax ay bx by' cx cy = cDn ax ay bx by' cx cy := by
  have hd : cDn ax ay bx by' cx cy ≠ 0 := by unfold cDn; omega
  exact ⟨_, gs_ne hd, mul_fdiv (gs_dvd (g3_dx _ _ _)), mul_fdiv (gs_dvd (g3_dy _ _ _)), mul_fdiv (gs_dvd (g3_dd _ _ _))⟩
theorem spread_scale (g x y d u v : Int) : g * g * spread x y d u v = spread (g * x) (g * y) (g * d) u v := by
  unfold spread
  grind
theorem far_a : spread (cXn ax ay bx by' cx cy) (cYn ax ay bx by' cx cy) (cDn ax ay bx by' cx cy) ax ay = cTop ax ay bx by' cx cy := by
  unfold spread cXn cYn cDn cTop
  grind
theorem far_b : spread (cXn ax ay bx by' cx cy) (cYn ax ay bx by' cx cy) (cDn ax ay bx by' cx cy) bx by' = cTop ax ay bx by' cx cy := by
  unfold spread cXn cYn cDn cTop cX1 cY1 tri lz
  grind
theorem far_c : spread (cXn ax ay bx by' cx cy) (cYn ax ay bx by' cx cy) (cDn ax ay bx by' cx cy) cx cy = cTop ax ay bx by' cx cy := by
  unfold spread cXn cYn cDn cTop cX1 cY1 tri lz
  grind
theorem sq_cancel {g p q : Int} (h : g ≠ 0) (e : g * g * p = g * g * q) : p = q := Int.eq_of_mul_eq_mul_left (Int.mul_ne_zero h h) e
theorem centre_ab (t : tri ax ay bx by' cx cy ≠ 0) : spread (ctx ax ay bx by' cx cy) (cty ax ay bx by' cx cy) (ctd ax ay bx by' cx cy) ax ay = spread (ctx ax ay bx by' cx cy) (cty ax ay bx by' cx cy) (ctd ax ay bx by' cx cy) bx by' := by
  obtain ⟨g, hg, e1, e2, e3⟩ := centre_far t
  refine sq_cancel hg ?_
  rw [spread_scale, spread_scale, e1, e2, e3, far_a, far_b]
theorem centre_ac (t : tri ax ay bx by' cx cy ≠ 0) : spread (ctx ax ay bx by' cx cy) (cty ax ay bx by' cx cy) (ctd ax ay bx by' cx cy) ax ay = spread (ctx ax ay bx by' cx cy) (cty ax ay bx by' cx cy) (ctd ax ay bx by' cx cy) cx cy := by
  obtain ⟨g, hg, e1, e2, e3⟩ := centre_far t
  refine sq_cancel hg ?_
  rw [spread_scale, spread_scale, e1, e2, e3, far_a, far_c]
end
section
variable {P : Program} {w : World} {K : PySem.W.Frag} {mg : Str → Option Value} {base : Heap}
def spLift : Sp := fun vs H Q _ => ∃ (a b : Addr) (ax ay bx by' : Int), vs = [.ref a, .ref b] ∧ Sit H a ax ay ∧ Sit H b bx by' ∧ Bd 1000000 ax ay ∧ Bd 1000000 bx by' ∧ newRes H Q (.tup [.int (bx - ax), .int (by' - ay), .int (lz (bx - ax) (by' - ay))])
def spPlOf : Sp := fun vs H Q _ => ∃ x y d : Int, vs = [.int x, .int y, .int d] ∧ d ≠ 0 ∧ d.natAbs < 2 ^ 8000 ∧ newRes H Q (.tup [.int (x.fdiv (gs x y d)), .int (y.fdiv (gs x y d)), .int (d.fdiv (gs x y d))])
theorem gs_div {x y d : Int} (h : d ≠ 0) (hd : d.natAbs < 2 ^ 8000) (z : Int) : CDivE z (gs x y d) := ⟨gs_ne h, by rw [gs_abs]; exact Nat.lt_of_le_of_lt (g3_le h) hd⟩
/-- the circle's tuple: a place and a fraction -/
structure Cir (H : Hp) (p : Addr) (X Y D n m : Int) : Prop where
  ex : ∃ pc pf : Addr, H p = some (.tup [.ref pc, .ref pf]) ∧ Pla H pc X Y D ∧ Tup2 H pf n m
def spCirT (K : PySem.W.Frag) : Sp := fun vs H Q _ => ∃ (a b c : Addr) (ax ay bx by' cx cy : Int), vs = [.ref a, .ref b, .ref c] ∧ Sit H a ax ay ∧ Sit H b bx by' ∧ Sit H c cx cy ∧ Six ax ay bx by' cx cy ∧ tri ax ay bx by' cx cy ≠ 0 ∧
  ∀ (p : Addr) H', Same H H' → H p = none → Cir H' p (ctx ax ay bx by' cx cy) (cty ax ay bx by' cx cy) (ctd ax ay bx by' cx cy) (cTop ax ay bx by' cx cy / gcf (cTop ax ay bx by' cx cy) (cBot ax ay bx by' cx cy)) (cBot ax ay bx by' cx cy / gcf (cTop ax ay bx by' cx cy) (cBot ax ay bx by' cx cy)) → Q (.ref p) H'
theorem sq_pos {t : Int} (h : t ≠ 0) : 0 < t * t := by
  have z := sq_nn t
  have w : t * t ≠ 0 := Int.mul_ne_zero h h
  omega
theorem g3_shift (a b x y d : Int) : g3 (a * d + x) (b * d + y) d = g3 x y d := by
  have key : ∀ a b x y : Int, g3 x y d ∣ g3 (a * d + x) (b * d + y) d := fun a b x y => by
    have h1 := g3_dx x y d
    have h2 := g3_dy x y d
    have h3 := g3_dd x y d
    refine Nat.dvd_gcd (Nat.dvd_gcd ?_ ?_) (Int.ofNat_dvd_left.mp h3)
    · exact Int.ofNat_dvd_left.mp (Int.dvd_add (Int.dvd_mul_of_dvd_right h3) h1)
    · exact Int.ofNat_dvd_left.mp (Int.dvd_add (Int.dvd_mul_of_dvd_right h3) h2)
  refine Nat.dvd_antisymm ?_ (key a b x y)
  have z := key (-a) (-b) (a * d + x) (b * d + y)
  rwa [show -a * d + (a * d + x) = x by grind, show -b * d + (b * d + y) = y by grind] at z
theorem gs_shift (a b x y d : Int) : gs (a * d + x) (b * d + y) d = gs x y d := by
  unfold gs
  rw [g3_shift]
theorem shift_fdiv {g a d x : Int} (hg : g ≠ 0) (hd : g ∣ d) (hx : g ∣ x) : (a * d + x).fdiv g = a * d.fdiv g + x.fdiv g := by
  have e1 := mul_fdiv hd
  have e2 := mul_fdiv hx
  have : a * d + x = g * (a * d.fdiv g + x.fdiv g) := by grind
  rw [this]
  exact Int.mul_fdiv_cancel_left _ hg
theorem gcf_scale {s t b : Int} (h : 0 < s) : gcf (s * t) (s * b) = s * gcf t b := by
  unfold gcf
  rw [Int.natAbs_mul, Int.natAbs_mul, Nat.gcd_mul_left, Int.natCast_mul, Int.natAbs_of_nonneg (Int.le_of_lt h)]
theorem frac_scale {s t b z : Int} (h : 0 < s) : s * z / gcf (s * t) (s * b) = z / gcf t b := by
  rw [gcf_scale h]
  exact Int.mul_ediv_mul_of_pos _ _ h
theorem cir_is {ax ay bx by' cx cy : Int} (t : tri ax ay bx by' cx cy ≠ 0) : ∃ X Y D : Int, X = (cX1 ax ay bx by' cx cy).fdiv (gs (cX1 ax ay bx by' cx cy) (cY1 ax ay bx by' cx cy) (2 * tri ax ay bx by' cx cy)) ∧ Y = (cY1 ax ay bx by' cx cy).fdiv (gs (cX1 ax ay bx by' cx cy) (cY1 ax ay bx by' cx cy) (2 * tri ax ay bx by' cx cy)) ∧ D = (2 * tri ax ay bx by' cx cy).fdiv (gs (cX1 ax ay bx by' cx cy) (cY1 ax ay bx by' cx cy) (2 * tri ax ay bx by' cx cy)) ∧
    ctx ax ay bx by' cx cy = ax * D + X ∧ cty ax ay bx by' cx cy = ay * D + Y ∧ ctd ax ay bx by' cx cy = D ∧ 0 < D * D ∧ cTop ax ay bx by' cx cy / gcf (cTop ax ay bx by' cx cy) (cBot ax ay bx by' cx cy) = (X * X + Y * Y) / gcf (X * X + Y * Y) (D * D) ∧ cBot ax ay bx by' cx cy / gcf (cTop ax ay bx by' cx cy) (cBot ax ay bx by' cx cy) = D * D / gcf (X * X + Y * Y) (D * D) := by
  have hd : 2 * tri ax ay bx by' cx cy ≠ 0 := by omega
  have hg := gs_ne (x := cX1 ax ay bx by' cx cy) (y := cY1 ax ay bx by' cx cy) hd
  have ex := mul_fdiv (gs_dvd (g3_dx (cX1 ax ay bx by' cx cy) (cY1 ax ay bx by' cx cy) (2 * tri ax ay bx by' cx cy)))
  have ey := mul_fdiv (gs_dvd (g3_dy (cX1 ax ay bx by' cx cy) (cY1 ax ay bx by' cx cy) (2 * tri ax ay bx by' cx cy)))
  have ed := mul_fdiv (gs_dvd (g3_dd (cX1 ax ay bx by' cx cy) (cY1 ax ay bx by' cx cy) (2 * tri ax ay bx by' cx cy)))
  have sh := gs_shift ax ay (cX1 ax ay bx by' cx cy) (cY1 ax ay bx by' cx cy) (2 * tri ax ay bx by' cx cy)
  refine ⟨_, _, _, rfl, rfl, rfl, ?_, ?_, ?_, ?_⟩
  · unfold ctx cXn cYn cDn
    rw [sh]
    exact shift_fdiv hg (gs_dvd (g3_dd _ _ _)) (gs_dvd (g3_dx _ _ _))
  · unfold cty cXn cYn cDn
    rw [sh]
    exact shift_fdiv hg (gs_dvd (g3_dd _ _ _)) (gs_dvd (g3_dy _ _ _))
  · unfold ctd cXn cYn cDn
    rw [sh]
  · unfold cTop cBot
    generalize (gs (cX1 ax ay bx by' cx cy) (cY1 ax ay bx by' cx cy) (2 * tri ax ay bx by' cx cy)) = g at *
    generalize (cX1 ax ay bx by' cx cy).fdiv g = X at *
    generalize (cY1 ax ay bx by' cx cy).fdiv g = Y at *
    generalize hD : (2 * tri ax ay bx by' cx cy).fdiv g = D at *
    rw [← ex, ← ey, ← ed]
    have D0 : D ≠ 0 := fun z => hd (by rw [← ed, z, Int.mul_zero])
    have e1 : g * X * (g * X) + g * Y * (g * Y) = g * g * (X * X + Y * Y) := by grind
    have e2 : g * D * (g * D) = g * g * (D * D) := by grind
    rw [e1, e2]
    exact ⟨sq_pos D0, frac_scale (sq_pos hg), frac_scale (sq_pos hg)⟩
set_option pp.maxSteps 300 in
theorem ok_cirt {f fF : Addr} {fd fdF : FuncData} {k : Nat} (F : Fun K "circle_through" "circle_through" sCirT f fd)
    (GF : FnOk P w K mg base CX0 (k + 1) fF fdF ["top", "bottom"] spFrac) (gF : mg "fraction" = some (.ref fF)) (kF : PySem.W.keepIn K (.ref fF) = true) (bF : Binds K fdF ["top", "bottom"] []) (mgcd : mg "gcd" = some (.builtin "math.gcd")) : FnOk P w K mg base CX0 (k + 2) f fd ["a", "b", "c"] (spCirT K) := by
  refine F.ok scCirT (fun vs H Q E h => ?_) (fun cdv A outer s H vs Q E hr h => ?_)
  · obtain ⟨a, b, c, ax, ay, bx, by', cx, cy, rfl, _⟩ := h
    rfl
  · obtain ⟨a, b, c, ax, ay, bx, by', cx, cy, rfl, ha, hb, hc, six, t, q⟩ := h
    have nd := scCirT.nd
    have six1 := six.u1
    have six2 := six.v1
    have six3 := six.u2
    have six4 := six.v2
    refine ⟨_, (pss_cons (ps_asg (pv 0) (pg_tup (by rfl) (pgs_cons (pg_name (i := 3) nd rfl (.inl rfl)) (pgs_cons (pg_name (i := 4) nd rfl (.inl rfl)) pgs_nil)))) (pss_cons (ps_par (i := 5) (j := 6) (by rfl) nd rfl rfl (by decide) rfl rfl (pa_cons (pe_op op_sub (pe_ix ix_tup (pv 1) pe_int (fun _ _ => rfl)) (pv 3)) (pa_cons (pe_op op_sub (pe_ix ix_tup (pv 1) pe_int (fun _ _ => rfl)) (pv 4)) pa_nil)) (by rfl)) (pss_cons (ps_par (i := 7) (j := 8) (by rfl) nd rfl rfl (by decide) rfl rfl (pa_cons (pe_op op_sub (pe_ix ix_tup (pv 2) pe_int (fun _ _ => rfl)) (pv 3)) (pa_cons (pe_op op_sub (pe_ix ix_tup (pv 2) pe_int (fun _ _ => rfl)) (pv 4)) pa_nil)) (by rfl)) (pss_cons (ps_par (i := 9) (j := 10) (by rfl) nd rfl rfl (by decide) rfl rfl (pa_cons (pe_op op_add (pe_op op_mulW (pv 5) (pv 5)) (pe_op op_mulW (pv 6) (pv 6))) (pa_cons (pe_op op_add (pe_op op_mulW (pv 7) (pv 7)) (pe_op op_mulW (pv 8) (pv 8))) pa_nil)) (by rfl)) (pss_cons (ps_par3 (i := 11) (j := 12) (l := 13) (by rfl) nd rfl rfl rfl (by decide) (by decide) (by decide) rfl rfl rfl (pa_cons (pe_op op_sub (pe_op op_mulW (pv 9) (pv 8)) (pe_op op_mulW (pv 10) (pv 6))) (pa_cons (pe_op op_sub (pe_op op_mulW (pv 10) (pv 5)) (pe_op op_mulW (pv 9) (pv 7))) (pa_cons (pe_op op_mulW pe_int (pe_op op_sub (pe_op op_mulW (pv 5) (pv 8)) (pe_op op_mulW (pv 6) (pv 7)))) pa_nil))) (by rfl)) (pss_cons (ps_set (i := 14) nd rfl (.inl rfl) (pe_callBfun cr_gcd3 (by rfl) mgcd (pa_cons (pv 11) (pa_cons (pv 12) (pa_cons (pv 13) pa_nil))))) (C8.pss_cut (ps_if (pt_cmpR op_lt (pv 13) pe_int (nomark _)) (pss_one (ps_set (i := 14) nd rfl (.inl rfl) (pe_un un_neg (pv 14)))) pss_nil) (pss_cons (ps_par3 (i := 11) (j := 12) (l := 13) (by rfl) nd rfl rfl rfl (by decide) (by decide) (by decide) rfl rfl rfl (pa_cons (pe_op op_fdivE (pv 11) (pv 14)) (pa_cons (pe_op op_fdivE (pv 12) (pv 14)) (pa_cons (pe_op op_fdivE (pv 13) (pv 14)) pa_nil))) (by rfl)) (pss_one (ps_ret (pe_tup (pa_cons (pe_tup (pa_cons (pe_op op_add (pe_op op_mulW (pv 3) (pv 13)) (pv 11)) (pa_cons (pe_op op_add (pe_op op_mulW (pv 4) (pv 13)) (pv 12)) (pa_cons (pv 13) pa_nil)))) (pa_cons (pe_call GF hr (by rfl) gF kF bF .nil pass0 (pa_cons (pe_op op_add (pe_op op_mulW (pv 11) (pv 11)) (pe_op op_mulW (pv 12) (pv 12))) (pa_cons (pe_op op_mulW (pv 13) (pv 13)) pa_nil))) pa_nil))))))))))))), ?_⟩
    repeat array_get_dec
    refine ⟨fun σ' H' => σ' = [some (.ref a), some (.ref b), some (.ref c), some (.int ax), some (.int ay), some (.int (bx - ax)), some (.int (by' - ay)), some (.int (cx - ax)), some (.int (cy - ay)), some (.int (lz (bx - ax) (by' - ay))), some (.int (lz (cx - ax) (cy - ay))), some (.int (cX1 ax ay bx by' cx cy)), some (.int (cY1 ax ay bx by' cx cy)), some (.int (2 * tri ax ay bx by' cx cy)), some (.int (gs (cX1 ax ay bx by' cx cy) (cY1 ax ay bx by' cx cy) (2 * tri ax ay bx by' cx cy)))] ∧ H = H', ?_, ?_⟩
    · refine ⟨_, rfl, _, _, rfl, rfl, _, rfl, ite2 (fun c => ?_) fun c => ?_⟩
      · refine ⟨_, rfl, _, rfl, ?_, rfl⟩
        show [_, _, _, _, _, _, _, _, _, _, _, _, _, _, some (V.int (-((g3 (cX1 ax ay bx by' cx cy) (cY1 ax ay bx by' cx cy) (2 * tri ax ay bx by' cx cy) : Nat) : Int)))] = _
        unfold gs
        rw [if_pos (show 2 * tri ax ay bx by' cx cy < 0 from of_decide_eq_true c)]
        rfl
      · refine ⟨?_, rfl⟩
        show [_, _, _, _, _, _, _, _, _, _, _, _, _, _, some (V.int (((g3 (cX1 ax ay bx by' cx cy) (cY1 ax ay bx by' cx cy) (2 * tri ax ay bx by' cx cy) : Nat) : Int)))] = _
        unfold gs
        rw [if_neg (show ¬ 2 * tri ax ay bx by' cx cy < 0 from fun z => c (decide_eq_true z))]
        rfl
    · rintro _ _ ⟨rfl, rfl⟩
      have hd : 2 * tri ax ay bx by' cx cy ≠ 0 := by omega
      have c := gs_div (x := cX1 ax ay bx by' cx cy) (y := cY1 ax ay bx by' cx cy) hd (nb_up six.t2 (by decide))
      obtain ⟨X, Y, D, rfl, rfl, rfl, r1, r2, r3, r4, r5, r6⟩ := cir_is t
      have wX := nbd (b := gs (cX1 ax ay bx by' cx cy) (cY1 ax ay bx by' cx cy) (2 * tri ax ay bx by' cx cy)) six.x1
      have wY := nbd (b := gs (cX1 ax ay bx by' cx cy) (cY1 ax ay bx by' cx cy) (2 * tri ax ay bx by' cx cy)) six.y1
      have wD := nbd (b := gs (cX1 ax ay bx by' cx cy) (cY1 ax ay bx by' cx cy) (2 * tri ax ay bx by' cx cy)) six.t2
      have wx : ax.natAbs < 2 ^ 21 := by have := six.a.1; have := six.a.2.1; omega
      have wy : ay.natAbs < 2 ^ 21 := by have := six.a.2.2; omega
      refine ⟨_, rfl, _, rfl, _, _, rfl, rfl, c _, _, rfl, _, rfl, _, _, rfl, rfl, c _, _, rfl, _, rfl, _, _, rfl, rfl, c _, _, _, _, rfl, ?_⟩
      repeat array_get_dec
      refine ⟨three_line, fun p4 n4 => ?_⟩
      repeat array_get_dec
      refine ⟨r4, nb_up (wide_lt wD wD) (by decide), fun p5 H5 s5 n5 e5 => ⟨two_line, fun p n => ?_⟩⟩
      have s4 := Same.upd (o := .tup [.int (ax * (2 * tri ax ay bx by' cx cy).fdiv (gs (cX1 ax ay bx by' cx cy) (cY1 ax ay bx by' cx cy) (2 * tri ax ay bx by' cx cy)) + (cX1 ax ay bx by' cx cy).fdiv (gs (cX1 ax ay bx by' cx cy) (cY1 ax ay bx by' cx cy) (2 * tri ax ay bx by' cx cy))), .int (ay * (2 * tri ax ay bx by' cx cy).fdiv (gs (cX1 ax ay bx by' cx cy) (cY1 ax ay bx by' cx cy) (2 * tri ax ay bx by' cx cy)) + (cY1 ax ay bx by' cx cy).fdiv (gs (cX1 ax ay bx by' cx cy) (cY1 ax ay bx by' cx cy) (2 * tri ax ay bx by' cx cy))), .int ((2 * tri ax ay bx by' cx cy).fdiv (gs (cX1 ax ay bx by' cx cy) (cY1 ax ay bx by' cx cy) (2 * tri ax ay bx by' cx cy)))]) n4
      have S5 : Same H H5 := s4.trans s5
      refine q p _ (S5.trans (Same.upd n)) (S5.free n) ⟨p4, p5, upd_same, ?_, ?_⟩
      · rw [r1, r2, r3]
        exact (Same.upd n) _ _ (s5 _ _ upd_same)
      · rw [r5, r6]
        exact (Same.upd n) _ _ e5
/-- four sites -/
def sp4 (K : PySem.W.Frag) (ok : Int → Int → Int → Int → Int → Int → Int → Int → Prop) (v : Int → Int → Int → Int → Int → Int → Int → Int → V) : Sp := fun vs H Q _ => ∃ (a b c d : Addr) (ax ay bx by' cx cy dx dy : Int), vs = [.ref a, .ref b, .ref c, .ref d] ∧ Sit H a ax ay ∧ Sit H b bx by' ∧ Sit H c cx cy ∧ Sit H d dx dy ∧ Six ax ay bx by' cx cy ∧ Bd 1000000 dx dy ∧ ok ax ay bx by' cx cy dx dy ∧ ∀ H', Same H H' → Q (v ax ay bx by' cx cy dx dy) H'
theorem sg_small (n : Int) : -1 ≤ sg n ∧ sg n ≤ 1 := by
  unfold sg
  split
  · omega
  · split <;> omega
def lsd (ax ay bx by' cx cy dx dy : Int) : Int := sg (vol ax ay bx by' cx cy dx dy) * sg (tri ax ay bx by' cx cy)
theorem hov_is (ax ay bx by' cx cy dx dy : Int) : ((ax - dx) * (ax - dx) + (ay - dy) * (ay - dy)) * ((by' - dy) * (cx - dx) - (bx - dx) * (cy - dy)) + ((bx - dx) * (bx - dx) + (by' - dy) * (by' - dy)) * ((ax - dx) * (cy - dy) - (ay - dy) * (cx - dx)) + ((cx - dx) * (cx - dx) + (cy - dy) * (cy - dy)) * ((ay - dy) * (bx - dx) - (ax - dx) * (by' - dy)) = vol ax ay bx by' cx cy dx dy := by
  unfold vol lz
  grind
theorem ok_hov {f : Addr} {fd : FuncData} {k : Nat} (F : Fun K "height_over" "height_over" sHov f fd) : FnOk P w K mg base CX0 (k + 1) f fd ["a", "b", "c", "d"] (sp4 K (fun _ _ _ _ _ _ _ _ => True) fun ax ay bx by' cx cy dx dy => .int (vol ax ay bx by' cx cy dx dy)) := by
  refine F.ok scHov (fun vs H Q E h => ?_) (fun cdv A outer s H vs Q E hr h => ?_)
  · obtain ⟨a, b, c, d, ax, ay, bx, by', cx, cy, dx, dy, rfl, _⟩ := h
    rfl
  · obtain ⟨a, b, c, d, ax, ay, bx, by', cx, cy, dx, dy, rfl, ha, hb, hc, hd, six, dd, _, q⟩ := h
    have nd := scHov.nd
    have ua : (ax - dx).natAbs < 2 ^ 21 := df_bits ⟨dd.1, dd.2.1⟩ ⟨six.a.1, six.a.2.1⟩
    have va : (ay - dy).natAbs < 2 ^ 21 := df_bits dd.2.2 six.a.2.2
    have ub : (bx - dx).natAbs < 2 ^ 21 := df_bits ⟨dd.1, dd.2.1⟩ ⟨six.b.1, six.b.2.1⟩
    have vb : (by' - dy).natAbs < 2 ^ 21 := df_bits dd.2.2 six.b.2.2
    have uc : (cx - dx).natAbs < 2 ^ 21 := df_bits ⟨dd.1, dd.2.1⟩ ⟨six.c.1, six.c.2.1⟩
    have vc : (cy - dy).natAbs < 2 ^ 21 := df_bits dd.2.2 six.c.2.2
    have la : ((ax - dx) * (ax - dx) + (ay - dy) * (ay - dy)).natAbs < 2 ^ 43 := lz_bits ua va
    have lb : ((bx - dx) * (bx - dx) + (by' - dy) * (by' - dy)).natAbs < 2 ^ 43 := lz_bits ub vb
    have lc : ((cx - dx) * (cx - dx) + (cy - dy) * (cy - dy)).natAbs < 2 ^ 43 := lz_bits uc vc
    have q : Q (.int (vol ax ay bx by' cx cy dx dy)) H := q H (Same.refl H)
    rw [← hov_is] at q
    refine ⟨_, (pss_cons (ps_asg (pv 3) (pg_tup (by rfl) (pgs_cons (pg_name (i := 4) nd rfl (.inl rfl)) (pgs_cons (pg_name (i := 5) nd rfl (.inl rfl)) pgs_nil)))) (pss_cons (ps_par (i := 6) (j := 7) rfl nd rfl rfl (by decide) rfl rfl (pa_cons (pe_op op_sub (pe_ix ix_tup (pv 0) pe_int (fun _ _ => rfl)) (pv 4)) (pa_cons (pe_op op_sub (pe_ix ix_tup (pv 0) pe_int (fun _ _ => rfl)) (pv 5)) pa_nil)) rfl) (pss_cons (ps_par (i := 8) (j := 9) rfl nd rfl rfl (by decide) rfl rfl (pa_cons (pe_op op_sub (pe_ix ix_tup (pv 1) pe_int (fun _ _ => rfl)) (pv 4)) (pa_cons (pe_op op_sub (pe_ix ix_tup (pv 1) pe_int (fun _ _ => rfl)) (pv 5)) pa_nil)) rfl) (pss_cons (ps_par (i := 10) (j := 11) rfl nd rfl rfl (by decide) rfl rfl (pa_cons (pe_op op_sub (pe_ix ix_tup (pv 2) pe_int (fun _ _ => rfl)) (pv 4)) (pa_cons (pe_op op_sub (pe_ix ix_tup (pv 2) pe_int (fun _ _ => rfl)) (pv 5)) pa_nil)) rfl) (pss_one (ps_ret (pe_op op_add (pe_op op_add (pe_op op_mul (pe_op op_add (pe_op op_mul (pv 6) (pv 6)) (pe_op op_mul (pv 7) (pv 7))) (pe_op op_sub (pe_op op_mul (pv 9) (pv 10)) (pe_op op_mul (pv 8) (pv 11)))) (pe_op op_mul (pe_op op_add (pe_op op_mul (pv 8) (pv 8)) (pe_op op_mul (pv 9) (pv 9))) (pe_op op_sub (pe_op op_mul (pv 6) (pv 11)) (pe_op op_mul (pv 7) (pv 10))))) (pe_op op_mul (pe_op op_add (pe_op op_mul (pv 10) (pv 10)) (pe_op op_mul (pv 11) (pv 11))) (pe_op op_sub (pe_op op_mul (pv 7) (pv 8)) (pe_op op_mul (pv 6) (pv 9))))))))))), ?_⟩
    refine ⟨_, rfl, _, _, rfl, SqT.of hd, rfl, _, _, rfl, _, _, rfl, rfl, _, rfl, _, _, _, _, rfl, rfl, SqT.of ha, at0_ _ _, _, rfl, _, _, rfl, rfl, _, rfl, _, _, _, _, rfl, rfl, SqT.of ha, at1_ _ _, _, rfl, _, _, rfl, rfl, _, _, rfl, _, rfl, _, _, _, _, rfl, rfl, SqT.of hb, at0_ _ _, _, rfl, _, _, rfl, rfl, _, rfl, _, _, _, _, rfl, rfl, SqT.of hb, at1_ _ _, _, rfl, _, _, rfl, rfl, _, _, rfl, _, rfl, _, _, _, _, rfl, rfl, SqT.of hc, at0_ _ _, _, rfl, _, _, rfl, rfl, _, rfl, _, _, _, _, rfl, rfl, SqT.of hc, at1_ _ _, _, rfl, _, _, rfl, rfl, _, _, rfl, _, rfl, _, rfl, _, _, rfl, rfl, cmL (nb_up ua (by decide)), _, rfl, _, rfl, _, _, rfl, rfl, cmL (nb_up va (by decide)), _, _, rfl, rfl, _, rfl, _, rfl, _, _, rfl, rfl, cmL (nb_up vb (by decide)), _, rfl, _, rfl, _, _, rfl, rfl, cmL (nb_up ub (by decide)), _, _, rfl, rfl, _, _, rfl, rfl, cmL (nb_up la (by decide)), _, rfl, _, rfl, _, _, rfl, rfl, cmL (nb_up ub (by decide)), _, rfl, _, rfl, _, _, rfl, rfl, cmL (nb_up vb (by decide)), _, _, rfl, rfl, _, rfl, _, rfl, _, _, rfl, rfl, cmL (nb_up ua (by decide)), _, rfl, _, rfl, _, _, rfl, rfl, cmL (nb_up va (by decide)), _, _, rfl, rfl, _, _, rfl, rfl, cmL (nb_up lb (by decide)), _, _, rfl, rfl, _, rfl, _, rfl, _, _, rfl, rfl, cmL (nb_up uc (by decide)), _, rfl, _, rfl, _, _, rfl, rfl, cmL (nb_up vc (by decide)), _, _, rfl, rfl, _, rfl, _, rfl, _, _, rfl, rfl, cmL (nb_up va (by decide)), _, rfl, _, rfl, _, _, rfl, rfl, cmL (nb_up ua (by decide)), _, _, rfl, rfl, _, _, rfl, rfl, cmL (nb_up lc (by decide)), _, _, rfl, rfl, ?_⟩
    exact q
def spSpread : Sp := fun vs H Q _ => ∃ (p s : Addr) (x y d u v : Int), vs = [.ref p, .ref s] ∧ Pla H p x y d ∧ PlOk x y d ∧ Sit H s u v ∧ Bd 1000000 u v ∧ Q (.int (spread x y d u v)) H
theorem ok_spread {f : Addr} {fd : FuncData} {k : Nat} (F : Fun K "spread_square" "spread_square" sSpread f fd) : FnOk P w K mg base CX0 (k + 1) f fd ["place", "site"] spSpread := by
  refine F.ok scSpread (fun vs H Q E h => ?_) (fun cdv A outer s H vs Q E hr h => ?_)
  · obtain ⟨p, s, x, y, d, u, v, rfl, _⟩ := h
    rfl
  · obtain ⟨p, s, x, y, d, u, v, rfl, hp, po, hs, ds, q⟩ := h
    have pb := po.bits
    have ds1 := ds.1
    have ds2 := ds.2.1
    have ds3 := ds.2.2.1
    have ds4 := ds.2.2.2
    refine ⟨_, (pss_cons (ps_asg (pv 0) (pg_tup (by rfl) (pgs_cons (pg_name (i := 2) scSpread.nd rfl (.inl rfl)) (pgs_cons (pg_name (i := 3) scSpread.nd rfl (.inl rfl)) (pgs_cons (pg_name (i := 4) scSpread.nd rfl (.inl rfl)) pgs_nil))))) (pss_one (ps_ret (pe_op op_add (pe_op op_sq (pe_op op_sub (pv 2) (pe_op op_mul (pv 4) (pe_ix ix_tup (pv 1) pe_int (fun _ _ => rfl)))) pe_int) (pe_op op_sq (pe_op op_sub (pv 3) (pe_op op_mul (pv 4) (pe_ix ix_tup (pv 1) pe_int (fun _ _ => rfl)))) pe_int))))), ?_⟩
    refine ⟨_, rfl, _, _, rfl, SqT.of hp, rfl, _, _, rfl, _, _, rfl, _, _, rfl, rfl, ?_⟩
    exact ⟨_, rfl, _, rfl, _, rfl, _, _, _, _, rfl, rfl, SqT.of hs, at0_ _ _, _, _, rfl, rfl, cmR (by omega), _, _, rfl, rfl, _, _, rfl, rfl, ⟨rfl, nb_up (far_bits pb.1 pb.2.2 ⟨ds.1, ds.2.1⟩) (by decide)⟩, _, rfl, _, rfl, _, rfl, _, _, _, _, rfl, rfl, SqT.of hs, at1_ _ _, _, _, rfl, rfl, cmR (by omega), _, _, rfl, rfl, _, _, rfl, rfl, ⟨rfl, nb_up (far_bits pb.2.1 pb.2.2 ds.2.2) (by decide)⟩, _, _, rfl, rfl, q⟩
theorem tri_ne {t : Int} (h : t ≠ 0) : ¬ (V.int t = V.int 0) := fun z => h (V.int.inj z)
theorem ok_circle {f fA fT : Addr} {fd fdA fdT : FuncData} {k : Nat} (F : Fun K "circle" "circle" sCircle f fd)
    (GA : FnOk P w K mg base CX0 (k + 1) fA fdA ["a", "b", "c"] (sp3 K fun ax ay bx by' cx cy => .int (tri ax ay bx by' cx cy))) (gA : mg "turn_of_sites" = some (.ref fA)) (kA : PySem.W.keepIn K (.ref fA) = true) (bA : Binds K fdA ["a", "b", "c"] []) (GT : FnOk P w K mg base CX0 (k + 1) fT fdT ["a", "b", "c"] (spCirT K)) (gT : mg "circle_through" = some (.ref fT)) (kT : PySem.W.keepIn K (.ref fT) = true) (bT : Binds K fdT ["a", "b", "c"] []) : FnOk P w K mg base CX0 (k + 2) f fd ["a", "b", "c"] (spCirT K) := by
  refine F.ok scCircle (fun vs H Q E h => ?_) (fun cdv A outer s H vs Q E hr h => ?_)
  · obtain ⟨a, b, c, ax, ay, bx, by', cx, cy, rfl, _⟩ := h
    rfl
  · obtain ⟨a, b, c, ax, ay, bx, by', cx, cy, rfl, ha, hb, hc, six, t, q⟩ := h
    have nd := scCircle.nd
    refine ⟨_, (pss_cons (ps_set (i := 3) nd rfl (.inl rfl) (pe_call GA hr (by rfl) gA kA bA .nil pass0 (pa_cons (pv 0) (pa_cons (pv 1) (pa_cons (pv 2) pa_nil))))) (pss_cons (ps_if (pt_cmpR op_isN (pv 3) pe_non (nomark _)) pss_never pss_nil) (pss_cons (ps_if (pt_cmpR op_eq (pv 3) pe_int (nomark _)) (pss_one ps_never) pss_nil) (pss_one (ps_ret (pe_call GT hr (by rfl) gT kT bT .nil pass0 (pa_cons (pv 0) (pa_cons (pv 1) (pa_cons (pv 2) pa_nil))))))))), ?_⟩
    exact ⟨_, rfl, _, rfl, _, rfl, a, b, c, ax, ay, bx, by', cx, cy, rfl, ha, hb, hc, six.a, six.b, six.c, _, rfl, rfl, _, rfl, _, rfl, rfl, _, rfl, itf (tri_ne t) ⟨_, rfl, _, rfl, _, rfl, a, b, c, ax, ay, bx, by', cx, cy, rfl, ha, hb, hc, six, t, q⟩⟩
theorem ok_lside {f fA fC fH fS : Addr} {fd fdA fdC fdH fdS : FuncData} {k : Nat} (F : Fun K "lift_side" "lift_side" sLSide f fd)
    (GA : FnOk P w K mg base CX0 (k + 1) fA fdA ["a", "b", "c"] (sp3 K fun ax ay bx by' cx cy => .int (tri ax ay bx by' cx cy))) (gA : mg "turn_of_sites" = some (.ref fA)) (kA : PySem.W.keepIn K (.ref fA) = true) (bA : Binds K fdA ["a", "b", "c"] []) (GC : FnOk P w K mg base CX0 (k + 1) fC fdC ["value", "name"] spCheck) (gC : mg "check_site" = some (.ref fC)) (kC : PySem.W.keepIn K (.ref fC) = true) (bC : Binds K fdC ["value", "name"] []) (GH : FnOk P w K mg base CX0 (k + 1) fH fdH ["a", "b", "c", "d"] (sp4 K (fun _ _ _ _ _ _ _ _ => True) fun ax ay bx by' cx cy dx dy => .int (vol ax ay bx by' cx cy dx dy))) (gH : mg "height_over" = some (.ref fH)) (kH : PySem.W.keepIn K (.ref fH) = true) (bH : Binds K fdH ["a", "b", "c", "d"] []) (GS : FnOk P w K mg base CX0 (k + 1) fS fdS ["number"] spSign) (gS : mg "sign" = some (.ref fS)) (kS : PySem.W.keepIn K (.ref fS) = true) (bS : Binds K fdS ["number"] []) :
    FnOk P w K mg base CX0 (k + 2) f fd ["a", "b", "c", "d"] (sp4 K (fun ax ay bx by' cx cy _ _ => tri ax ay bx by' cx cy ≠ 0) fun ax ay bx by' cx cy dx dy => .int (lsd ax ay bx by' cx cy dx dy)) := by
  refine F.ok scLSide (fun vs H Q E h => ?_) (fun cdv A outer s H vs Q E hr h => ?_)
  · obtain ⟨a, b, c, d, ax, ay, bx, by', cx, cy, dx, dy, rfl, _⟩ := h
    rfl
  · obtain ⟨a, b, c, d, ax, ay, bx, by', cx, cy, dx, dy, rfl, ha, hb, hc, hd, six, dd, t, q⟩ := h
    have nd := scLSide.nd
    have z := sg_small (vol ax ay bx by' cx cy dx dy)
    refine ⟨_, (pss_cons (ps_set (i := 4) nd rfl (.inl rfl) (pe_call GA hr (by rfl) gA kA bA .nil pass0 (pa_cons (pv 0) (pa_cons (pv 1) (pa_cons (pv 2) pa_nil))))) (pss_cons (ps_if (pt_cmpR op_isN (pv 4) pe_non (nomark _)) pss_never pss_nil) (pss_cons (ps_expr (pe_call GC hr (by rfl) gC kC bC .nil pass0 (pa_cons (pv 3) (pa_cons pe_str pa_nil)))) (pss_cons (ps_if (pt_cmpR op_eq (pv 4) pe_int (nomark _)) (pss_one ps_never) pss_nil) (pss_one (ps_ret (pe_op op_mul (pe_call GS hr (by rfl) gS kS bS .nil pass0 (pa_cons (pe_call GH hr (by rfl) gH kH bH .nil pass0 (pa_cons (pv 0) (pa_cons (pv 1) (pa_cons (pv 2) (pa_cons (pv 3) pa_nil))))) pa_nil)) (pe_call GS hr (by rfl) gS kS bS .nil pass0 (pa_cons (pv 4) pa_nil))))))))), ?_⟩
    exact ⟨_, rfl, _, rfl, _, rfl, a, b, c, ax, ay, bx, by', cx, cy, rfl, ha, hb, hc, six.a, six.b, six.c, _, rfl, rfl, _, rfl, _, rfl, _, _, _, _, rfl, hd, dd, _, rfl, rfl, _, rfl, itf (tri_ne t) ⟨_, rfl, _, rfl, _, rfl, _, rfl, a, b, c, d, ax, ay, bx, by', cx, cy, dx, dy, rfl, ha, hb, hc, hd, six, dd, True.intro, fun H' s' => ⟨vol ax ay bx by' cx cy dx dy, rfl, _, rfl, tri ax ay bx by' cx cy, rfl, _, _, rfl, rfl, .inl ⟨by omega, by omega⟩, q _ s'⟩⟩⟩
theorem ok_inc {f fL : Addr} {fd fdL : FuncData} {k : Nat} (F : Fun K "in_circle" "in_circle" sInC f fd)
    (GL : FnOk P w K mg base CX0 (k + 1) fL fdL ["a", "b", "c", "d"] (sp4 K (fun ax ay bx by' cx cy _ _ => tri ax ay bx by' cx cy ≠ 0) fun ax ay bx by' cx cy dx dy => .int (lsd ax ay bx by' cx cy dx dy))) (gL : mg "lift_side" = some (.ref fL)) (kL : PySem.W.keepIn K (.ref fL) = true) (bL : Binds K fdL ["a", "b", "c", "d"] []) :
    FnOk P w K mg base CX0 (k + 2) f fd ["a", "b", "c", "d"] (sp4 K (fun ax ay bx by' cx cy _ _ => tri ax ay bx by' cx cy ≠ 0) fun ax ay bx by' cx cy dx dy => .int (-lsd ax ay bx by' cx cy dx dy)) := by
  refine F.ok scInC (fun vs H Q E h => ?_) (fun cdv A outer s H vs Q E hr h => ?_)
  · obtain ⟨a, b, c, d, ax, ay, bx, by', cx, cy, dx, dy, rfl, _⟩ := h
    rfl
  · obtain ⟨a, b, c, d, ax, ay, bx, by', cx, cy, dx, dy, rfl, ha, hb, hc, hd, six, dd, t, q⟩ := h
    refine ⟨_, pss_one (ps_ret (pe_un un_neg (pe_call GL hr (by rfl) gL kL bL .nil pass0 (pa_cons (pv 0) (pa_cons (pv 1) (pa_cons (pv 2) (pa_cons (pv 3) pa_nil))))))), ?_⟩
    exact ⟨_, rfl, _, rfl, _, rfl, _, rfl, a, b, c, d, ax, ay, bx, by', cx, cy, dx, dy, rfl, ha, hb, hc, hd, six, dd, t, fun H' s' => ⟨_, rfl, q _ s'⟩⟩
def spSquare (K : PySem.W.Frag) : Sp := fun vs H Q _ => ∃ (p s : Addr) (x y d u v : Int), vs = [.ref p, .ref s] ∧ Pla H p x y d ∧ PlOk x y d ∧ Sit H s u v ∧ Bd 1000000 u v ∧
  newRes H Q (.tup [.int (spread x y d u v / gcf (spread x y d u v) (d * d)), .int (d * d / gcf (spread x y d u v) (d * d))])
theorem ok_square {f fC fCp fSp fF : Addr} {fd fdC fdCp fdSp fdF : FuncData} {k : Nat} (F : Fun K "square" "square" sSquare f fd)
    (GC : FnOk P w K mg base CX0 (k + 1) fC fdC ["value", "name"] spCheck) (gC : mg "check_site" = some (.ref fC)) (kC : PySem.W.keepIn K (.ref fC) = true) (bC : Binds K fdC ["value", "name"] []) (GCp : FnOk P w K mg base CX0 (k + 1) fCp fdCp ["value", "name"] spCheckP) (gCp : mg "check_place" = some (.ref fCp)) (kCp : PySem.W.keepIn K (.ref fCp) = true) (bCp : Binds K fdCp ["value", "name"] []) (GSp : FnOk P w K mg base CX0 (k + 1) fSp fdSp ["place", "site"] spSpread) (gSp : mg "spread_square" = some (.ref fSp)) (kSp : PySem.W.keepIn K (.ref fSp) = true) (bSp : Binds K fdSp ["place", "site"] []) (GF : FnOk P w K mg base CX0 (k + 1) fF fdF ["top", "bottom"] spFrac) (gF : mg "fraction" = some (.ref fF)) (kF : PySem.W.keepIn K (.ref fF) = true) (bF : Binds K fdF ["top", "bottom"] []) :
    FnOk P w K mg base CX0 (k + 2) f fd ["place", "site"] (spSquare K) := by
  refine F.ok scSquare (fun vs H Q E h => ?_) (fun cdv A outer s H vs Q E hr h => ?_)
  · obtain ⟨p, s, x, y, d, u, v, rfl, _⟩ := h
    rfl
  · obtain ⟨p, s, x, y, d, u, v, rfl, hp, po, hs, ds, q⟩ := h
    refine ⟨_, (pss_cons (ps_expr (pe_call GCp hr (by rfl) gCp kCp bCp .nil pass0 (pa_cons (pv 0) (pa_cons pe_str pa_nil)))) (pss_cons (ps_expr (pe_call GC hr (by rfl) gC kC bC .nil pass0 (pa_cons (pv 1) (pa_cons pe_str pa_nil)))) (pss_one (ps_ret (pe_call GF hr (by rfl) gF kF bF .nil pass0 (pa_cons (pe_call GSp hr (by rfl) gSp kSp bSp .nil pass0 (pa_cons (pv 0) (pa_cons (pv 1) pa_nil))) (pa_cons (pe_op op_sq (pe_ix ix_tup (pv 0) pe_int (fun _ _ => rfl)) pe_int) pa_nil))))))), ?_⟩
    exact ⟨_, rfl, _, _, _, _, _, rfl, hp, po, _, rfl, _, _, _, _, rfl, hs, ds, _, rfl, _, rfl, p, s, x, y, d, u, v, rfl, hp, po, hs, ds, _, rfl, _, _, _, _, rfl, rfl, SqT.of hp, a32_ _ _ _, _, _, rfl, rfl, ⟨rfl, nb_up po.bits.2.2 (by decide)⟩, _, _, rfl, sq_pos (by have := po.d1; omega), nb_up (wide_lt po.bits.2.2 po.bits.2.2) (by decide), q⟩
def spNearer (K : PySem.W.Frag) : Sp := fun vs H Q _ => ∃ (p s t : Addr) (x y d u v u2 v2 : Int), vs = [.ref p, .ref s, .ref t] ∧ Pla H p x y d ∧ PlOk x y d ∧ Sit H s u v ∧ Bd 1000000 u v ∧ Sit H t u2 v2 ∧ Bd 1000000 u2 v2 ∧
  Q (.int (sg (spread x y d u v - spread x y d u2 v2))) H
theorem ok_nearer {f fC fCp fSp fS : Addr} {fd fdC fdCp fdSp fdS : FuncData} {k : Nat} (F : Fun K "nearer" "nearer" sNearer f fd)
    (GC : FnOk P w K mg base CX0 (k + 1) fC fdC ["value", "name"] spCheck) (gC : mg "check_site" = some (.ref fC)) (kC : PySem.W.keepIn K (.ref fC) = true) (bC : Binds K fdC ["value", "name"] []) (GCp : FnOk P w K mg base CX0 (k + 1) fCp fdCp ["value", "name"] spCheckP) (gCp : mg "check_place" = some (.ref fCp)) (kCp : PySem.W.keepIn K (.ref fCp) = true) (bCp : Binds K fdCp ["value", "name"] []) (GSp : FnOk P w K mg base CX0 (k + 1) fSp fdSp ["place", "site"] spSpread) (gSp : mg "spread_square" = some (.ref fSp)) (kSp : PySem.W.keepIn K (.ref fSp) = true) (bSp : Binds K fdSp ["place", "site"] []) (GS : FnOk P w K mg base CX0 (k + 1) fS fdS ["number"] spSign) (gS : mg "sign" = some (.ref fS)) (kS : PySem.W.keepIn K (.ref fS) = true) (bS : Binds K fdS ["number"] []) :
    FnOk P w K mg base CX0 (k + 2) f fd ["place", "a", "b"] (spNearer K) := by
  refine F.ok scNearer (fun vs H Q E h => ?_) (fun cdv A outer s H vs Q E hr h => ?_)
  · obtain ⟨p, s, t, x, y, d, u, v, u2, v2, rfl, _⟩ := h
    rfl
  · obtain ⟨p, s, t, x, y, d, u, v, u2, v2, rfl, hp, po, hs, ds, ht, dt, q⟩ := h
    refine ⟨_, (pss_cons (ps_expr (pe_call GCp hr (by rfl) gCp kCp bCp .nil pass0 (pa_cons (pv 0) (pa_cons pe_str pa_nil)))) (pss_cons (ps_expr (pe_call GC hr (by rfl) gC kC bC .nil pass0 (pa_cons (pv 1) (pa_cons pe_str pa_nil)))) (pss_cons (ps_expr (pe_call GC hr (by rfl) gC kC bC .nil pass0 (pa_cons (pv 2) (pa_cons pe_str pa_nil)))) (pss_one (ps_ret (pe_call GS hr (by rfl) gS kS bS .nil pass0 (pa_cons (pe_op op_sub (pe_call GSp hr (by rfl) gSp kSp bSp .nil pass0 (pa_cons (pv 0) (pa_cons (pv 1) pa_nil))) (pe_call GSp hr (by rfl) gSp kSp bSp .nil pass0 (pa_cons (pv 0) (pa_cons (pv 2) pa_nil)))) pa_nil))))))), ?_⟩
    exact ⟨_, rfl, _, _, _, _, _, rfl, hp, po, _, rfl, _, _, _, _, rfl, hs, ds, _, rfl, _, _, _, _, rfl, ht, dt, _, rfl, _, rfl, p, s, x, y, d, u, v, rfl, hp, po, hs, ds, _, rfl, _, rfl, p, t, x, y, d, u2, v2, rfl, hp, po, ht, dt, _, _, rfl, rfl, _, rfl, q⟩
end
/-! ### the law's own reckoning -/
abbrev sLSq : Stmt := topS 31
abbrev sLTurn : Stmt := topS 32
abbrev sLCom : Stmt := topS 33
abbrev sLPl : Stmt := topS 34
theorem scLSq : FnScope ["_law_spot", "_law_site_here"] ["_law_spot", "_law_site_here"] (defScope sLSq) := ⟨rfl, rfl, rfl, by decide +kernel, rfl, by decide +kernel, by decide +kernel⟩
theorem scLTurn : FnScope ["_law_aa", "_law_bb", "_law_cc"] ["_law_aa", "_law_bb", "_law_cc"] (defScope sLTurn) := ⟨rfl, rfl, rfl, by decide +kernel, rfl, by decide +kernel, by decide +kernel⟩
theorem scLCom : FnScope ["_law_aa", "_law_bb"] ["_law_aa", "_law_bb"] (defScope sLCom) := ⟨rfl, rfl, rfl, by decide +kernel, rfl, by decide +kernel, by decide +kernel⟩
theorem scLPl : FnScope ["_law_x", "_law_y", "_law_dd", "_law_great"] ["_law_x", "_law_y", "_law_dd"] (defScope sLPl) := ⟨rfl, rfl, rfl, by decide +kernel, rfl, by decide +kernel, by decide +kernel⟩
section
variable {P : Program} {w : World} {K : PySem.W.Frag} {mg : Str → Option Value} {base : Heap}
theorem far_bits' {x d u : Int} (hx : x.natAbs < 2 ^ 100) (hd : d.natAbs < 2 ^ 100) (hu : -1000000 ≤ u ∧ u ≤ 1000000) : (x - u * d).natAbs < 2 ^ 121 := by
  rw [Int.mul_comm]
  exact far_bits hx hd hu
theorem ok_lsq {f : Addr} {fd : FuncData} {k : Nat} (F : Fun K "_law_square" "_law_square" sLSq f fd) : FnOk P w K mg base CX0 (k + 1) f fd ["_law_spot", "_law_site_here"] spSpread := by
  refine F.ok scLSq (fun vs H Q E h => ?_) (fun cdv A outer s H vs Q E hr h => ?_)
  · obtain ⟨p, s, x, y, d, u, v, rfl, _⟩ := h
    rfl
  · obtain ⟨p, s, x, y, d, u, v, rfl, hp, po, hs, ds, q⟩ := h
    have pb := po.bits
    have ds1 := ds.1
    have ds2 := ds.2.1
    have ds3 := ds.2.2.1
    have ds4 := ds.2.2.2
    refine ⟨_, pss_one (ps_ret (pe_op op_add (pe_op op_sq (pe_op op_sub (pe_ix ix_tup (pv 0) pe_int (fun _ _ => rfl)) (pe_op op_mul (pe_ix ix_tup (pv 1) pe_int (fun _ _ => rfl)) (pe_ix ix_tup (pv 0) pe_int (fun _ _ => rfl)))) pe_int) (pe_op op_sq (pe_op op_sub (pe_ix ix_tup (pv 0) pe_int (fun _ _ => rfl)) (pe_op op_mul (pe_ix ix_tup (pv 1) pe_int (fun _ _ => rfl)) (pe_ix ix_tup (pv 0) pe_int (fun _ _ => rfl)))) pe_int))), ?_⟩
    unfold spread at q
    rw [Int.mul_comm d u, Int.mul_comm d v] at q
    exact ⟨_, rfl, _, _, _, _, rfl, rfl, SqT.of hp, a30_ _ _ _, _, rfl, _, _, _, _, rfl, rfl, SqT.of hs, at0_ _ _, _, rfl, _, _, _, _, rfl, rfl, SqT.of hp, a32_ _ _ _, _, _, rfl, rfl, cmL (by omega), _, _, rfl, rfl, _, _, rfl, rfl, ⟨rfl, nb_up (far_bits' pb.1 pb.2.2 ⟨ds1, ds2⟩) (by decide)⟩, _, rfl, _, _, _, _, rfl, rfl, SqT.of hp, a31_ _ _ _, _, rfl, _, _, _, _, rfl, rfl, SqT.of hs, at1_ _ _, _, rfl, _, _, _, _, rfl, rfl, SqT.of hp, a32_ _ _ _, _, _, rfl, rfl, cmL (by omega), _, _, rfl, rfl, _, _, rfl, rfl, ⟨rfl, nb_up (far_bits' pb.2.1 pb.2.2 ⟨ds3, ds4⟩) (by decide)⟩, _, _, rfl, rfl, q⟩
theorem ok_lturn {f : Addr} {fd : FuncData} {k : Nat} (F : Fun K "_law_turn" "_law_turn" sLTurn f fd) : FnOk P w K mg base CX0 (k + 1) f fd ["_law_aa", "_law_bb", "_law_cc"] (sp3 K fun ax ay bx by' cx cy => .int (tri ax ay bx by' cx cy)) := by
  refine F.ok scLTurn (fun vs H Q E h => ?_) (fun cdv A outer s H vs Q E hr h => ?_)
  · obtain ⟨a, b, c, ax, ay, bx, by', cx, cy, rfl, _⟩ := h
    rfl
  · obtain ⟨a, b, c, ax, ay, bx, by', cx, cy, rfl, ha, hb, hc, da, db, dc, q⟩ := h
    have six : Six ax ay bx by' cx cy := ⟨da, db, dc⟩
    have q : Q (.int (tri ax ay bx by' cx cy)) H := q
    refine ⟨_, pss_one (ps_ret (pe_op op_sub (pe_op op_mul (pe_op op_sub (pe_ix ix_tup (pv 1) pe_int (fun _ _ => rfl)) (pe_ix ix_tup (pv 0) pe_int (fun _ _ => rfl))) (pe_op op_sub (pe_ix ix_tup (pv 2) pe_int (fun _ _ => rfl)) (pe_ix ix_tup (pv 0) pe_int (fun _ _ => rfl)))) (pe_op op_mul (pe_op op_sub (pe_ix ix_tup (pv 2) pe_int (fun _ _ => rfl)) (pe_ix ix_tup (pv 0) pe_int (fun _ _ => rfl))) (pe_op op_sub (pe_ix ix_tup (pv 1) pe_int (fun _ _ => rfl)) (pe_ix ix_tup (pv 0) pe_int (fun _ _ => rfl)))))), ?_⟩
    unfold tri at q
    rw [Int.mul_comm (by' - ay) (cx - ax)] at q
    exact ⟨_, rfl, _, _, _, _, rfl, rfl, SqT.of hb, at0_ _ _, _, rfl, _, _, _, _, rfl, rfl, SqT.of ha, at0_ _ _, _, _, rfl, rfl, _, rfl, _, _, _, _, rfl, rfl, SqT.of hc, at1_ _ _, _, rfl, _, _, _, _, rfl, rfl, SqT.of ha, at1_ _ _, _, _, rfl, rfl, _, _, rfl, rfl, cmL (nb_up six.u1 (by decide)), _, rfl, _, _, _, _, rfl, rfl, SqT.of hc, at0_ _ _, _, rfl, _, _, _, _, rfl, rfl, SqT.of ha, at0_ _ _, _, _, rfl, rfl, _, rfl, _, _, _, _, rfl, rfl, SqT.of hb, at1_ _ _, _, rfl, _, _, _, _, rfl, rfl, SqT.of ha, at1_ _ _, _, _, rfl, rfl, _, _, rfl, rfl, cmL (nb_up six.u2 (by decide)), _, _, rfl, rfl, q⟩
/-! the greatest common divisor, by rests -/
def spCom : Sp := fun vs H Q _ => ∃ a b : Int, vs = [.int a, .int b] ∧ Q (.int ((Nat.gcd a.natAbs b.natAbs : Nat) : Int)) H
theorem ok_com {f : Addr} {fd : FuncData} {k : Nat} (F : Fun K "_law_common" "_law_common" sLCom f fd) (mi : mg "int" = none) (ma : mg "abs" = none) : FnOk P w K mg base CX0 (k + 1) f fd ["_law_aa", "_law_bb"] spCom := by
  refine F.ok scLCom (fun vs H Q E h => ?_) (fun cdv A outer s H vs Q E hr h => ?_)
  · obtain ⟨a, b, rfl, _⟩ := h
    rfl
  · obtain ⟨a, b, rfl, q⟩ := h
    have nd := scLCom.nd
    refine ⟨_, pss_cons (ps_par (i := 0) (j := 1) rfl nd rfl rfl (by decide) rfl rfl (pa_cons (pe_callB call_abs (by rfl) ma (by decide +kernel) (pa_cons (pv 0) pa_nil)) (pa_cons (pe_callB call_abs (by rfl) ma (by decide +kernel) (pa_cons (pv 1) pa_nil)) pa_nil)) rfl)
      (pss_cons (ps_while PassesOwn.never (pt_cmpR op_gt (pv 1) pe_int (nomark _)) (pss_one (ps_par (i := 0) (j := 1) rfl nd rfl rfl (by decide) rfl rfl (pa_cons (pv 1) (pa_cons (pe_op op_mod (pe_callTy call_int1 (by rfl) mi (by decide +kernel) (pa_cons (pv 0) pa_nil)) (pv 1)) pa_nil)) rfl)))
      (pss_one (ps_ret (pv 0)))), ?_⟩
    refine ⟨_, rfl, _, rfl, _, rfl, _, rfl, _, _, rfl, ?_⟩
    have ab : ∀ z : Int, (if z < 0 then -z else z) = (z.natAbs : Int) := fun z => by split <;> omega
    show tWhile _ _ _ [some (V.int (if a < 0 then -a else a)), some (V.int (if b < 0 then -b else b))] H
    rw [ab, ab]
    refine while_by (fun σ' H' => (∃ m n : Nat, σ' = [some (.int (m : Int)), some (.int (n : Int))] ∧ Nat.gcd m n = Nat.gcd a.natAbs b.natAbs) ∧ H = H') (fun σ' _ => match σ' with
      | [_, some (.int n)] => n.toNat
      | _ => 0) ⟨⟨_, _, rfl, rfl⟩, rfl⟩ ?_ ?_
    · rintro _ _ ⟨⟨m, n, rfl, e⟩, rfl⟩
      refine ⟨_, rfl, _, _, rfl, rfl, _, rfl, ite2 (fun c => ?_) fun c => ?_⟩
      · have c : (0 : Int) < (n : Int) := of_decide_eq_true c
        have hm : (m : Int) % (n : Int) = ((m % n : Nat) : Int) := rfl
        refine ⟨_, rfl, _, rfl, .inl ⟨_, rfl, _, rfl, _, _, rfl, rfl, c, _, _, rfl, ?_⟩⟩
        refine ⟨⟨⟨n, m % n, ?_, ?_⟩, rfl⟩, ?_⟩
        · show [some (V.int (n : Int)), some (V.int ((m : Int) % (n : Int)))] = _
          rw [hm]
        · rw [← e, Nat.gcd_comm m n, Nat.gcd_rec n m, Nat.gcd_comm]
        · show ((m : Int) % (n : Int)).toNat < ((n : Int)).toNat
          rw [hm, Int.toNat_natCast, Int.toNat_natCast]
          exact Nat.mod_lt _ (by omega)
      · have c : ¬ (0 : Int) < (n : Int) := fun z => c (decide_eq_true z)
        have n0 : n = 0 := by omega
        subst n0
        rw [Nat.gcd_zero_right] at e
        refine ⟨_, rfl, ?_⟩
        rw [e]
        exact q
    · rintro σ' H' Q1 Q2 hq ⟨v, e1, i, j, e2, e3, k, e4, r⟩
      exact ⟨v, e1, i, j, e2, e3, k, e4, hq _ _ r⟩
theorem ok_lpl {f fCo : Addr} {fd fdCo : FuncData} {k : Nat} (F : Fun K "_law_place" "_law_place" sLPl f fd) (GCo : FnOk P w K mg base CX0 (k + 1) fCo fdCo ["_law_aa", "_law_bb"] spCom) (gCo : mg "_law_common" = some (.ref fCo)) (kCo : PySem.W.keepIn K (.ref fCo) = true) (bCo : Binds K fdCo ["_law_aa", "_law_bb"] []) : FnOk P w K mg base CX0 (k + 2) f fd ["_law_x", "_law_y", "_law_dd"] spPlOf := by
  refine F.ok scLPl (fun vs H Q E h => ?_) (fun cdv A outer s H vs Q E hr h => ?_)
  · obtain ⟨x, y, d, rfl, _⟩ := h
    rfl
  · obtain ⟨x, y, d, rfl, hn, hw, q⟩ := h
    refine ⟨_, C8.pss_cut (ps_set (i := 3) scLPl.nd rfl (.inl rfl) (pe_op op_mul (pe_call GCo hr (by rfl) gCo kCo bCo .nil pass0 (pa_cons (pe_call GCo hr (by rfl) gCo kCo bCo .nil pass0 (pa_cons (pv 0) (pa_cons (pv 1) pa_nil))) (pa_cons (pv 2) pa_nil))) (pe_ifExp (pt_cmpR op_gt (pv 2) pe_int (nomark _)) pe_int pe_neg))) (pss_one (ps_ret (pe_tup (pa_cons (pe_op op_fdivE (pv 0) (pv 3)) (pa_cons (pe_op op_fdivE (pv 1) (pv 3)) (pa_cons (pe_op op_fdivE (pv 2) (pv 3)) pa_nil)))))), ?_⟩
    refine ⟨fun σ' H' => σ' = [some (.int x), some (.int y), some (.int d), some (.int (gs x y d))] ∧ H = H', ?_, ?_⟩
    · have e := g3_is x y d
      refine ⟨_, rfl, _, rfl, _, _, rfl, _, rfl, _, _, rfl, _, rfl, _, _, rfl, rfl, _, rfl, ite2 (fun c => ?_) fun c => ?_⟩
      · have c : 0 < d := of_decide_eq_true c
        refine ⟨_, _, rfl, rfl, .inr ⟨by decide, by decide⟩, ?_, rfl⟩
        show [_, _, _, some (V.int (((Nat.gcd (((Nat.gcd x.natAbs y.natAbs : Nat) : Int)).natAbs d.natAbs : Nat) : Int) * 1))] = _
        unfold gs
        rw [e, if_neg (by omega), Int.mul_one]
      · have c : ¬ 0 < d := fun z => c (decide_eq_true z)
        refine ⟨_, _, rfl, rfl, .inr ⟨by decide, by decide⟩, ?_, rfl⟩
        show [_, _, _, some (V.int (((Nat.gcd (((Nat.gcd x.natAbs y.natAbs : Nat) : Int)).natAbs d.natAbs : Nat) : Int) * -1))] = _
        unfold gs
        rw [e, if_pos (by omega), Int.mul_neg, Int.mul_one]
    · rintro _ _ ⟨rfl, rfl⟩
      have c := gs_div (x := x) (y := y) hn hw
      exact ⟨_, rfl, _, rfl, _, _, rfl, rfl, c _, _, rfl, _, rfl, _, _, rfl, rfl, c _, _, rfl, _, rfl, _, _, rfl, rfl, c _, three_line, fun p np => q p _ (Same.upd np) np upd_same⟩
/-! calls by keywords, from the last one on -/
def gRev {α : Type} (us ws : List α) : List α := match us with
  | [] => ws.reverse
  | _ :: _ => []
theorem Vals.rev : ∀ {xs : List V} {us : List Value}, Vals xs us → Vals xs.reverse us.reverse
  | _, _, .nil => .nil
  | _, _, .cons r t => by
    rw [List.reverse_cons, List.reverse_cons]
    exact Vals.append (Vals.rev t) (.cons r .nil)
theorem kb_rev {x q : Str} {st : Stmt} {f : Addr} {fd : FuncData} {ps ks : List Str} (F : Fun K x q st f fd) (h0 : 0 < ps.length)
    (h : ∀ (kV doc pm : Value) (an : Option Addr) (cdv ct : Value) (ws : List Value), ws.length = ps.length → bindArgs (PySem.W.fnOf x q (defArgs st) (defBody st) (defScope st) .none kV doc pm an cdv ct) ⟨[], ks.zip ws⟩ = (pure (ps.zip ws.reverse) : Sem (List (Str × Value)))) :
    KBinds K fd ps ks gRev gRev := by
  obtain ⟨oc, od, kV, doc, pm, an, cdv, ct, osl, rfl, lk, hcd⟩ := F.ex
  refine ⟨fun s us ws _ hl => ?_, fun {vs us zs ws} r rz => ?_⟩
  · cases us with
    | nil =>
      have hl : ws.reverse.length = ps.length := hl
      rw [List.length_reverse] at hl
      exact .of_eq (h kV doc pm an cdv ct ws hl)
    | cons a r =>
      have hl : 0 = ps.length := hl
      omega
  · cases r with
    | nil => exact Vals.rev rz
    | cons _ _ => exact .nil
end
abbrev sLLift : Stmt := topS 36
abbrev sLPlane : Stmt := topS 37
abbrev sLPlOf : Stmt := topS 38
abbrev sNearR : Stmt := topS 39
theorem scLLift : FnScope ["_law_site_here"] ["_law_site_here"] (defScope sLLift) := ⟨rfl, rfl, rfl, by decide +kernel, rfl, by decide +kernel, by decide +kernel⟩
theorem scLPlane : FnScope ["_law_aa", "_law_bb", "_law_cc", "_law_dd", "_law_p", "_law_q", "_law_r", "_law_s", "_law_one_here", "_law_two", "_law_normal_x", "_law_normal_y", "_law_normal_z", "_law_gap", "_law_k"] ["_law_aa", "_law_bb", "_law_cc", "_law_dd"] (defScope sLPlane) := ⟨rfl, rfl, rfl, by decide +kernel, rfl, by decide +kernel, by decide +kernel⟩
theorem scLPlOf : FnScope ["_law_source", "_law_great", "_law_dd"] ["_law_source"] (defScope sLPlOf) := ⟨rfl, rfl, rfl, by decide +kernel, rfl, by decide +kernel, by decide +kernel⟩
theorem scNearR : FnScope ["_law_spot", "_law_aa", "_law_bb", "_law_far", "_law_other", "_law_below", "_law_great", "_law_due"] ["_law_spot", "_law_aa", "_law_bb"] (defScope sNearR) := ⟨rfl, rfl, rfl, by decide +kernel, rfl, by decide +kernel, by decide +kernel⟩
section
variable {P : Program} {w : World} {K : PySem.W.Frag} {mg : Str → Option Value} {base : Heap}
def spLLift : Sp := fun vs H Q _ => ∃ (a : Addr) (x y : Int), vs = [.ref a] ∧ Sit H a x y ∧ Bd 1000000 x y ∧ newRes H Q (.tup [.int x, .int y, .int (lz x y)])
theorem ok_llift {f : Addr} {fd : FuncData} {k : Nat} (F : Fun K "_law_lift" "_law_lift" sLLift f fd) : FnOk P w K mg base CX0 (k + 1) f fd ["_law_site_here"] spLLift := by
  refine F.ok scLLift (fun vs H Q E h => ?_) (fun cdv A outer s H vs Q E hr h => ?_)
  · obtain ⟨a, x, y, rfl, _⟩ := h
    rfl
  · obtain ⟨a, x, y, rfl, ha, d, q⟩ := h
    have d1 := d.1
    have d2 := d.2.1
    have d3 := d.2.2.1
    have d4 := d.2.2.2
    exact ⟨_, pss_one (ps_ret (pe_tup (pa_cons (pe_ix ix_tup (pv 0) pe_int (fun _ _ => rfl)) (pa_cons (pe_ix ix_tup (pv 0) pe_int (fun _ _ => rfl)) (pa_cons (pe_op op_add (pe_op op_mul (pe_ix ix_tup (pv 0) pe_int (fun _ _ => rfl)) (pe_ix ix_tup (pv 0) pe_int (fun _ _ => rfl))) (pe_op op_mul (pe_ix ix_tup (pv 0) pe_int (fun _ _ => rfl)) (pe_ix ix_tup (pv 0) pe_int (fun _ _ => rfl)))) pa_nil))))), _, rfl, _, _, _, _, rfl, rfl, SqT.of ha, at0_ _ _, _, rfl, _, _, _, _, rfl, rfl, SqT.of ha, at1_ _ _, _, rfl, _, _, _, _, rfl, rfl, SqT.of ha, at0_ _ _, _, rfl, _, _, _, _, rfl, rfl, SqT.of ha, at0_ _ _, _, _, rfl, rfl, cmL (by omega), _, rfl, _, _, _, _, rfl, rfl, SqT.of ha, at1_ _ _, _, rfl, _, _, _, _, rfl, rfl, SqT.of ha, at1_ _ _, _, _, rfl, rfl, cmL (by omega), _, _, rfl, rfl, three_line, fun p np => q p _ (Same.upd np) np upd_same⟩
theorem lz_b {x y : Int} (d : Bd 1000000 x y) : (lz x y).natAbs < 2 ^ 41 := nb_add (a := 40) (wide_lt (a := 20) (b := 20) (by have := d.1; have := d.2.1; omega) (by have := d.1; have := d.2.1; omega)) (wide_lt (a := 20) (b := 20) (by have := d.2.2; omega) (by have := d.2.2; omega))
def nX (ax ay bx by' cx cy : Int) : Int := (by' - ay) * (lz cx cy - lz ax ay) - (lz bx by' - lz ax ay) * (cy - ay)
def nY (ax ay bx by' cx cy : Int) : Int := (lz bx by' - lz ax ay) * (cx - ax) - (bx - ax) * (lz cx cy - lz ax ay)
def nZ (ax ay bx by' cx cy : Int) : Int := (bx - ax) * (cy - ay) - (by' - ay) * (cx - ax)
def gap (ax ay bx by' cx cy dx dy : Int) : Int := nX ax ay bx by' cx cy * (dx - ax) + nY ax ay bx by' cx cy * (dy - ay) + nZ ax ay bx by' cx cy * (lz dx dy - lz ax ay)
theorem gap_is (ax ay bx by' cx cy dx dy : Int) : gap ax ay bx by' cx cy dx dy = vol ax ay bx by' cx cy dx dy := by
  unfold gap nX nY nZ vol lz
  grind
theorem sg_neg (n : Int) : sg (-n) = 0 - sg n := by
  unfold sg
  split <;> split <;> (try split) <;> (try split) <;> omega
theorem side_is (ax ay bx by' cx cy dx dy : Int) (t : tri ax ay bx by' cx cy ≠ 0) : sg (if nZ ax ay bx by' cx cy > 0 then gap ax ay bx by' cx cy dx dy else 0 - gap ax ay bx by' cx cy dx dy) = lsd ax ay bx by' cx cy dx dy := by
  rw [gap_is]
  have e : nZ ax ay bx by' cx cy = tri ax ay bx by' cx cy := rfl
  rw [e]
  unfold lsd
  generalize tri ax ay bx by' cx cy = u at t
  generalize vol ax ay bx by' cx cy dx dy = v
  by_cases h : u > 0
  · rw [if_pos h]
    have : sg u = 1 := by
      unfold sg
      rw [if_neg (by omega), if_pos (by omega)]
    rw [this, Int.mul_one]
  · rw [if_neg h, Int.zero_sub, sg_neg]
    have : sg u = -1 := by
      unfold sg
      rw [if_neg (by omega), if_neg (by omega)]
    rw [this]
    omega
theorem ok_plane {f fL : Addr} {fd fdL : FuncData} {k : Nat} (F : Fun K "_law_plane_side" "_law_plane_side" sLPlane f fd) (GL : FnOk P w K mg base CX0 (k + 1) fL fdL ["_law_site_here"] spLLift) (gL : mg "_law_lift" = some (.ref fL)) (kL : PySem.W.keepIn K (.ref fL) = true) (bL : Binds K fdL ["_law_site_here"] []) (mr : mg "range" = none) :
    FnOk P w K mg base CX0 (k + 2) f fd ["_law_aa", "_law_bb", "_law_cc", "_law_dd"] (sp4 K (fun ax ay bx by' cx cy _ _ => tri ax ay bx by' cx cy ≠ 0) fun ax ay bx by' cx cy dx dy => .int (lsd ax ay bx by' cx cy dx dy)) := by
  refine F.ok scLPlane (fun vs H Q E h => ?_) (fun cdv A outer s H vs Q E hr h => ?_)
  · obtain ⟨a, b, c, d, ax, ay, bx, by', cx, cy, dx, dy, rfl, _⟩ := h
    rfl
  · obtain ⟨a, b, c, d, ax, ay, bx, by', cx, cy, dx, dy, rfl, ha, hb, hc, hd, six, dd, t, q⟩ := h
    have nd := scLPlane.nd
    have hu : (dx - ax).natAbs < 2 ^ 21 := df_bits ⟨six.a.1, six.a.2.1⟩ ⟨dd.1, dd.2.1⟩
    have hv : (dy - ay).natAbs < 2 ^ 21 := df_bits six.a.2.2 dd.2.2
    have z1 : (lz bx by' - lz ax ay).natAbs < 2 ^ 42 := nb_sub (lz_b six.b) (lz_b six.a)
    have z3 : (lz dx dy - lz ax ay).natAbs < 2 ^ 42 := nb_sub (lz_b dd) (lz_b six.a)
    refine ⟨_, pss_cons (ps_asg (pe_tup (pa_cons (pe_call GL hr (by rfl) gL kL bL .nil pass0 (pa_cons (pv 0) pa_nil)) (pa_cons (pe_call GL hr (by rfl) gL kL bL .nil pass0 (pa_cons (pv 1) pa_nil)) (pa_cons (pe_call GL hr (by rfl) gL kL bL .nil pass0 (pa_cons (pv 2) pa_nil)) (pa_cons (pe_call GL hr (by rfl) gL kL bL .nil pass0 (pa_cons (pv 3) pa_nil)) pa_nil))))) (pg_tup (by rfl) (pgs_cons (pg_name (i := 4) nd rfl (.inr rfl)) (pgs_cons (pg_name (i := 5) nd rfl (.inr rfl)) (pgs_cons (pg_name (i := 6) nd rfl (.inr rfl)) (pgs_cons (pg_name (i := 7) nd rfl (.inl rfl)) pgs_nil))))))
      (pss_cons (ps_par (i := 8) (j := 9) rfl nd rfl rfl (by decide) rfl rfl (pa_cons (pe_lc (own := [("_law_k", 14)]) (g := gName 14) (tt := tYes) (te := tOp (rI0 fun i j => .int (i - j)) (tOp (rIxT K) (tVar 5) (tVar 14)) (tOp (rIxT K) (tVar 4) (tVar 14))) rfl nd (pi_range1 rfl mr (pa_cons pe_int pa_nil)) (blkOk_by (own := [("_law_k", 14)]) (N := ["_law_aa", "_law_bb", "_law_cc", "_law_dd", "_law_p", "_law_q", "_law_r", "_law_s", "_law_one_here", "_law_two", "_law_normal_x", "_law_normal_y", "_law_normal_z", "_law_gap", "_law_k"]) (sc := defScope sLPlane) (by decide +kernel)) (fun _ _ _ _ _ => by exact pg_name (i := 14) nd rfl (.inl rfl)) (fun _ _ _ _ _ => pts_nil) (fun _ _ _ _ _ => by exact pe_op op_sub (pe_ix ix_tup (pv 5) (pv 14) (fun _ _ => rfl)) (pe_ix ix_tup (pv 4) (pv 14) (fun _ _ => rfl)))) (pa_cons (pe_lc (own := [("_law_k", 14)]) (g := gName 14) (tt := tYes) (te := tOp (rI0 fun i j => .int (i - j)) (tOp (rIxT K) (tVar 6) (tVar 14)) (tOp (rIxT K) (tVar 4) (tVar 14))) rfl nd (pi_range1 rfl mr (pa_cons pe_int pa_nil)) (blkOk_by (own := [("_law_k", 14)]) (N := ["_law_aa", "_law_bb", "_law_cc", "_law_dd", "_law_p", "_law_q", "_law_r", "_law_s", "_law_one_here", "_law_two", "_law_normal_x", "_law_normal_y", "_law_normal_z", "_law_gap", "_law_k"]) (sc := defScope sLPlane) (by decide +kernel)) (fun _ _ _ _ _ => by exact pg_name (i := 14) nd rfl (.inl rfl)) (fun _ _ _ _ _ => pts_nil) (fun _ _ _ _ _ => by exact pe_op op_sub (pe_ix ix_tup (pv 6) (pv 14) (fun _ _ => rfl)) (pe_ix ix_tup (pv 4) (pv 14) (fun _ _ => rfl)))) pa_nil)) rfl)
      (pss_cons (ps_set (i := 10) scLPlane.nd rfl (.inl rfl) (pe_op op_sub (pe_op op_mul (pe_ix ix_list (pv 8) pe_int (fun _ _ => rfl)) (pe_ix ix_list (pv 9) pe_int (fun _ _ => rfl))) (pe_op op_mul (pe_ix ix_list (pv 8) pe_int (fun _ _ => rfl)) (pe_ix ix_list (pv 9) pe_int (fun _ _ => rfl))))) (pss_cons (ps_set (i := 11) scLPlane.nd rfl (.inl rfl) (pe_op op_sub (pe_op op_mul (pe_ix ix_list (pv 8) pe_int (fun _ _ => rfl)) (pe_ix ix_list (pv 9) pe_int (fun _ _ => rfl))) (pe_op op_mul (pe_ix ix_list (pv 8) pe_int (fun _ _ => rfl)) (pe_ix ix_list (pv 9) pe_int (fun _ _ => rfl))))) (pss_cons (ps_set (i := 12) scLPlane.nd rfl (.inl rfl) (pe_op op_sub (pe_op op_mul (pe_ix ix_list (pv 8) pe_int (fun _ _ => rfl)) (pe_ix ix_list (pv 9) pe_int (fun _ _ => rfl))) (pe_op op_mul (pe_ix ix_list (pv 8) pe_int (fun _ _ => rfl)) (pe_ix ix_list (pv 9) pe_int (fun _ _ => rfl))))) (pss_cons (ps_set (i := 13) scLPlane.nd rfl (.inl rfl) (pe_op op_add (pe_op op_mul (pv 10) (pe_op op_sub (pe_ix ix_tup (pv 7) pe_int (fun _ _ => rfl)) (pe_ix ix_tup (pv 4) pe_int (fun _ _ => rfl)))) (pe_op op_mul (pv 11) (pe_op op_sub (pe_ix ix_tup (pv 7) pe_int (fun _ _ => rfl)) (pe_ix ix_tup (pv 4) pe_int (fun _ _ => rfl)))))) (pss_cons (ps_set (i := 13) scLPlane.nd rfl (.inl rfl) (pe_op op_add (pv 13) (pe_op op_mul (pv 12) (pe_op op_sub (pe_ix ix_tup (pv 7) pe_int (fun _ _ => rfl)) (pe_ix ix_tup (pv 4) pe_int (fun _ _ => rfl))))))
      (C8.pss_cut (ps_set (i := 13) scLPlane.nd rfl (.inl rfl) (pe_ifExp (pt_cmpR op_gt (pv 12) pe_int (nomark _)) (pv 13) (pe_op op_sub pe_int (pv 13))))
      (pss_one (ps_ret (pe_ifExp (pt_cmpR op_eq (pv 13) pe_int (nomark _)) pe_int (pe_ifExp (pt_cmpR op_gt (pv 13) pe_int (nomark _)) pe_int pe_neg))))))))))), ?_⟩
    refine ⟨_, rfl, a, _, _, rfl, ha, six.a, fun p1 H1 s1 n1 ep => ⟨_, rfl, b, _, _, rfl, hb.same s1, six.b, fun p2 H2 s2 n2 eq => ⟨_, rfl, c, _, _, rfl, (hc.same s1).same s2, six.c, fun p3 H3 s3 n3 er => ⟨_, rfl, d, _, _, rfl, ((hd.same s1).same s2).same s3, dd, fun p4 H4 s4 n4 es => ⟨by show 4 ≤ sizeLine; decide, fun p5 n5 => ?_⟩⟩⟩⟩⟩
    refine ⟨p5, _, rfl, SqT.of upd_same, rfl, _, _, rfl, _, _, rfl, _, _, rfl, _, _, rfl, rfl, ?_⟩
    have S0 := (((s1.trans s2).trans s3).trans s4).trans (Same.upd (o := .tup [.ref p1, .ref p2, .ref p3, .ref p4]) n5)
    have ep := (((s2.trans s3).trans s4).trans (Same.upd (o := .tup [.ref p1, .ref p2, .ref p3, .ref p4]) n5)) _ _ ep
    have eq := ((s3.trans s4).trans (Same.upd (o := .tup [.ref p1, .ref p2, .ref p3, .ref p4]) n5)) _ _ eq
    have er := (s4.trans (Same.upd (o := .tup [.ref p1, .ref p2, .ref p3, .ref p4]) n5)) _ _ er
    have es := (Same.upd (o := .tup [.ref p1, .ref p2, .ref p3, .ref p4]) n5) _ _ es
    generalize upd H4 p5 (.tup [.ref p1, .ref p2, .ref p3, .ref p4]) = G1 at S0 ep eq er es
    -- the two lists
    refine ⟨3, rfl, by decide, by decide, fun D1 nD1 => lc_range (lo := 0) (n := 3) (fun i Hc => Same G1 Hc ∧ Hc D1 = some (.lst ([V.int (bx - ax), V.int (by' - ay), V.int (lz bx by' - lz ax ay)].take i))) ⟨Same.upd nD1, upd_same⟩ ?_ ?_⟩
    · rintro i Hc hi ⟨sm, eD⟩
      refine ⟨rfl, ?_⟩
      have ep' := sm _ _ ep
      have eq' := sm _ _ eq
      have nD : ∀ b o, G1 b = some o → b ≠ D1 := fun b o e => ne_of_none e nD1
      rcases i with _ | _ | _ | i
      · refine ⟨_, rfl, _, rfl, _, _, _, _, rfl, rfl, SqT.of eq', a30_ _ _ _, _, rfl, _, rfl, _, _, _, _, rfl, rfl, SqT.of ep', a30_ _ _ _, _, _, rfl, rfl, _, eD, by show 0 < sizeLine; decide, fun b o e => ?_, upd_same⟩
        rw [upd_ne (nD b o e)]
        exact sm b o e
      · refine ⟨_, rfl, _, rfl, _, _, _, _, rfl, rfl, SqT.of eq', a31_ _ _ _, _, rfl, _, rfl, _, _, _, _, rfl, rfl, SqT.of ep', a31_ _ _ _, _, _, rfl, rfl, _, eD, by show 1 < sizeLine; decide, fun b o e => ?_, upd_same⟩
        rw [upd_ne (nD b o e)]
        exact sm b o e
      · refine ⟨_, rfl, _, rfl, _, _, _, _, rfl, rfl, SqT.of eq', a32_ _ _ _, _, rfl, _, rfl, _, _, _, _, rfl, rfl, SqT.of ep', a32_ _ _ _, _, _, rfl, rfl, _, eD, by show 2 < sizeLine; decide, fun b o e => ?_, upd_same⟩
        rw [upd_ne (nD b o e)]
        exact sm b o e
      · omega
    rintro H6 ⟨s6, e1⟩
    have e1 : H6 D1 = some (.lst [V.int (bx - ax), V.int (by' - ay), V.int (lz bx by' - lz ax ay)]) := e1
    have ep := s6 _ _ ep
    have er := s6 _ _ er
    have es := s6 _ _ es
    refine ⟨3, rfl, by decide, by decide, fun D2 nD2 => lc_range (lo := 0) (n := 3) (fun i Hc => Same H6 Hc ∧ Hc D2 = some (.lst ([V.int (cx - ax), V.int (cy - ay), V.int (lz cx cy - lz ax ay)].take i))) ⟨Same.upd nD2, upd_same⟩ ?_ ?_⟩
    · rintro i Hc hi ⟨sm, eD⟩
      refine ⟨rfl, ?_⟩
      have ep' := sm _ _ ep
      have eq' := sm _ _ er
      have nD : ∀ b o, H6 b = some o → b ≠ D2 := fun b o e => ne_of_none e nD2
      rcases i with _ | _ | _ | i
      · refine ⟨_, rfl, _, rfl, _, _, _, _, rfl, rfl, SqT.of eq', a30_ _ _ _, _, rfl, _, rfl, _, _, _, _, rfl, rfl, SqT.of ep', a30_ _ _ _, _, _, rfl, rfl, _, eD, by show 0 < sizeLine; decide, fun b o e => ?_, upd_same⟩
        rw [upd_ne (nD b o e)]
        exact sm b o e
      · refine ⟨_, rfl, _, rfl, _, _, _, _, rfl, rfl, SqT.of eq', a31_ _ _ _, _, rfl, _, rfl, _, _, _, _, rfl, rfl, SqT.of ep', a31_ _ _ _, _, _, rfl, rfl, _, eD, by show 1 < sizeLine; decide, fun b o e => ?_, upd_same⟩
        rw [upd_ne (nD b o e)]
        exact sm b o e
      · refine ⟨_, rfl, _, rfl, _, _, _, _, rfl, rfl, SqT.of eq', a32_ _ _ _, _, rfl, _, rfl, _, _, _, _, rfl, rfl, SqT.of ep', a32_ _ _ _, _, _, rfl, rfl, _, eD, by show 2 < sizeLine; decide, fun b o e => ?_, upd_same⟩
        rw [upd_ne (nD b o e)]
        exact sm b o e
      · omega
    rintro H7 ⟨s7, e2⟩
    have e2 : H7 D2 = some (.lst [V.int (cx - ax), V.int (cy - ay), V.int (lz cx cy - lz ax ay)]) := e2
    have ep := s7 _ _ ep
    have es := s7 _ _ es
    have e1 := s7 _ _ e1
    refine ⟨_, _, rfl, ?_⟩
    refine ⟨_, rfl, _, _, _, _, rfl, rfl, SqL.of e1, a31_ _ _ _, _, rfl, _, _, _, _, rfl, rfl, SqL.of e2, a32_ _ _ _, _, _, rfl, rfl, cmL (nb_up six.v1 (by decide)), _, rfl, _, _, _, _, rfl, rfl, SqL.of e1, a32_ _ _ _, _, rfl, _, _, _, _, rfl, rfl, SqL.of e2, a31_ _ _ _, _, _, rfl, rfl, cmL (nb_up z1 (by decide)), _, _, rfl, rfl, ?_⟩
    refine ⟨_, rfl, _, _, _, _, rfl, rfl, SqL.of e1, a32_ _ _ _, _, rfl, _, _, _, _, rfl, rfl, SqL.of e2, a30_ _ _ _, _, _, rfl, rfl, cmL (nb_up z1 (by decide)), _, rfl, _, _, _, _, rfl, rfl, SqL.of e1, a30_ _ _ _, _, rfl, _, _, _, _, rfl, rfl, SqL.of e2, a32_ _ _ _, _, _, rfl, rfl, cmL (nb_up six.u1 (by decide)), _, _, rfl, rfl, ?_⟩
    refine ⟨_, rfl, _, _, _, _, rfl, rfl, SqL.of e1, a30_ _ _ _, _, rfl, _, _, _, _, rfl, rfl, SqL.of e2, a31_ _ _ _, _, _, rfl, rfl, cmL (nb_up six.u1 (by decide)), _, rfl, _, _, _, _, rfl, rfl, SqL.of e1, a31_ _ _ _, _, rfl, _, _, _, _, rfl, rfl, SqL.of e2, a30_ _ _ _, _, _, rfl, rfl, cmL (nb_up six.v1 (by decide)), _, _, rfl, rfl, ?_⟩
    refine ⟨_, rfl, _, rfl, _, _, _, _, rfl, rfl, SqT.of es, a30_ _ _ _, _, rfl, _, _, _, _, rfl, rfl, SqT.of ep, a30_ _ _ _, _, _, rfl, rfl, _, _, rfl, rfl, cmR (nb_up hu (by decide)), _, rfl, _, rfl, _, _, _, _, rfl, rfl, SqT.of es, a31_ _ _ _, _, rfl, _, _, _, _, rfl, rfl, SqT.of ep, a31_ _ _ _, _, _, rfl, rfl, _, _, rfl, rfl, cmR (nb_up hv (by decide)), _, _, rfl, rfl, ?_⟩
    refine ⟨_, rfl, _, rfl, _, rfl, _, _, _, _, rfl, rfl, SqT.of es, a32_ _ _ _, _, rfl, _, _, _, _, rfl, rfl, SqT.of ep, a32_ _ _ _, _, _, rfl, rfl, _, _, rfl, rfl, cmR (nb_up z3 (by decide)), _, _, rfl, rfl, ?_⟩
    have Sall := (S0.trans s6).trans s7
    have res := q H7 Sall
    have res : Q (.int (lsd ax ay bx by' cx cy dx dy)) H7 := res
    rw [← side_is ax ay bx by' cx cy dx dy t] at res
    refine ⟨fun σ' H' => (∃ y10 y11 y12, σ' = [some (.ref a), some (.ref b), some (.ref c), some (.ref d), some (.ref p1), some (.ref p2), some (.ref p3), some (.ref p4), some (.ref D1), some (.ref D2), y10, y11, y12, some (.int (if nZ ax ay bx by' cx cy > 0 then gap ax ay bx by' cx cy dx dy else 0 - gap ax ay bx by' cx cy dx dy)), none]) ∧ H7 = H', ?_, ?_⟩
    · refine ⟨_, rfl, _, _, rfl, rfl, _, rfl, ite2 (fun c => ?_) fun c => ?_⟩
      · have c : nZ ax ay bx by' cx cy > 0 := of_decide_eq_true c
        rw [if_pos c]
        exact ⟨_, rfl, ⟨_, _, _, rfl⟩, rfl⟩
      · have c : ¬ nZ ax ay bx by' cx cy > 0 := fun z => c (decide_eq_true z)
        rw [if_neg c]
        exact ⟨_, rfl, _, _, rfl, rfl, ⟨_, _, _, rfl⟩, rfl⟩
    rintro _ _ ⟨⟨y10, y11, y12, rfl⟩, rfl⟩
    generalize (if nZ ax ay bx by' cx cy > 0 then gap ax ay bx by' cx cy dx dy else 0 - gap ax ay bx by' cx cy dx dy) = g at res
    unfold sg at res
    refine ⟨_, rfl, rfl, _, rfl, ite2 (fun c => ?_) fun c => ⟨_, rfl, _, _, rfl, rfl, _, rfl, ite2 (fun d => ?_) fun d => ?_⟩⟩
    · rw [if_pos (V.int.inj (of_decide_eq_true c))] at res
      exact res
    · rw [if_neg (fun z => c (by rw [z]; exact decide_eq_true rfl)), if_pos (of_decide_eq_true d)] at res
      exact res
    · rw [if_neg (fun z => c (by rw [z]; exact decide_eq_true rfl)), if_neg (fun z => d (decide_eq_true z))] at res
      exact res
end
section
variable {P : Program} {w : World} {K : PySem.W.Frag} {mg : Str → Option Value} {base : Heap}
def spLPlOf : Sp := fun vs H Q _ => ∃ s : Addr, vs = [.ref s] ∧ Src H s ∧ ∀ (p : Addr) (x y d : Int) H', Stp s H H' → H p = none → Pla H' p x y d → PlOk x y d → Q (.ref p) H'
theorem ok_lplof {f fN fO fP : Addr} {fd fdN fdO fdP : FuncData} {k : Nat} (F : Fun K "_law_place_of" "_law_place_of" sLPlOf f fd) (GN : FnOk P w K mg base CX0 (k + 1) fN fdN ["_law_source", "_law_many"] spNext) (gN : mg "_law_next" = some (.ref fN)) (kN : PySem.W.keepIn K (.ref fN) = true) (bN : Binds K fdN ["_law_source", "_law_many"] []) (GO : FnOk P w K mg base CX0 (k + 2) fO fdO ["_law_source", "_law_some"] (spOne K)) (gO : mg "_law_one" = some (.ref fO)) (kO : PySem.W.keepIn K (.ref fO) = true) (bO : Binds K fdO ["_law_source", "_law_some"] []) (GP : FnOk P w K mg base CX0 (k + 2) fP fdP ["_law_x", "_law_y", "_law_dd"] spPlOf) (gP : mg "_law_place" = some (.ref fP)) (kP : PySem.W.keepIn K (.ref fP) = true) (bP : Binds K fdP ["_law_x", "_law_y", "_law_dd"] []) :
    FnOk P w K mg base CX0 (k + 3) f fd ["_law_source"] spLPlOf := by
  refine F.ok scLPlOf (fun vs H Q E h => ?_) (fun cdv A outer s0 H vs Q E hr h => ?_)
  · obtain ⟨s, rfl, _⟩ := h
    rfl
  · obtain ⟨s, rfl, hs, q⟩ := h
    refine ⟨_, (pss_cons (ps_set (i := 1) scLPlOf.nd rfl (.inl rfl) (pe_call GO (hr.mono (by omega)) (by rfl) gO kO bO .nil pass0 (pa_cons (pv 0) (pa_cons (pe_lst (pa_cons pe_int (pa_cons (pe_op op_pow pe_int pe_int) (pa_cons (pe_op op_pow pe_int pe_int) pa_nil)))) pa_nil)))) (pss_cons (ps_set (i := 2) scLPlOf.nd rfl (.inl rfl) (pe_op op_add pe_int (pe_call GN (hr.mono (by omega)) (by rfl) gN kN bN .nil pass0 (pa_cons (pv 0) (pa_cons (pe_call GO (hr.mono (by omega)) (by rfl) gO kO bO .nil pass0 (pa_cons (pv 0) (pa_cons (pe_lst (pa_cons pe_int (pa_cons pe_int (pa_cons (pv 1) pa_nil)))) pa_nil))) pa_nil))))) (pss_one (ps_ret (pe_call GP (hr.mono (by omega)) (by rfl) gP kP bP .nil pass0 (pa_cons (pe_op op_sub (pe_call GN (hr.mono (by omega)) (by rfl) gN kN bN .nil pass0 (pa_cons (pv 0) (pa_cons (pe_op op_mul pe_int (pv 1)) pa_nil))) (pv 1)) (pa_cons (pe_op op_sub (pe_call GN (hr.mono (by omega)) (by rfl) gN kN bN .nil pass0 (pa_cons (pv 0) (pa_cons (pe_op op_mul pe_int (pv 1)) pa_nil))) (pv 1)) (pa_cons (pv 2) pa_nil)))))))), ?_⟩
    refine ⟨_, rfl, _, _, rfl, rfl, ⟨by decide, by decide, by decide⟩, _, _, rfl, rfl, ⟨by decide, by decide, by decide⟩, three_line, fun l1 n1 => ?_⟩
    have st1 := (Stp.refl hs).new (o := .lst [.int 5, .int (10 ^ (3 : Int).toNat), .int (10 ^ (29 : Int).toNat)]) n1
    refine ⟨s, l1, _, rfl, st1.src, upd_same, hs.nen n1, by show 0 < 3; decide, by show 3 ≤ 1000; decide, fun x G1 mx st2 => ?_⟩
    obtain ⟨g, rfl, g0, g1⟩ : ∃ g : Int, x = .int g ∧ 0 < g ∧ g ≤ 10 ^ 29 := by
      rcases List.mem_cons.mp mx with e | mx
      · exact ⟨5, e, by decide, by decide⟩
      rcases List.mem_cons.mp mx with e | mx
      · exact ⟨_, e, by decide, by decide⟩
      rcases List.mem_cons.mp mx with e | mx
      · exact ⟨_, e, by decide, by decide⟩
      · cases mx
    have st12 := st1.trans st2
    refine ⟨_, rfl, _, rfl, _, rfl, three_line, fun l2 n2 => ?_⟩
    have st3 := st12.new (o := .lst [.int 1, .int 4, .int g]) n2
    refine ⟨s, l2, _, rfl, st3.src, upd_same, st12.src.nen n2, by show 0 < 3; decide, by show 3 ≤ 1000; decide, fun x G2 mx st4 => ?_⟩
    obtain ⟨m, rfl, m0, m1⟩ : ∃ m : Int, x = .int m ∧ 0 < m ∧ m ≤ 10 ^ 29 := by
      rcases List.mem_cons.mp mx with e | mx
      · exact ⟨1, e, by decide, by decide⟩
      rcases List.mem_cons.mp mx with e | mx
      · exact ⟨4, e, by decide, by decide⟩
      rcases List.mem_cons.mp mx with e | mx
      · exact ⟨_, e, g0, g1⟩
      · cases mx
    have st5 := st3.trans st4
    have big : ∀ z : Int, 0 < z → z ≤ 10 ^ 30 → z.natAbs < 2 ^ 8000 := fun z h1 h2 => nb_up (a := 100) (by omega) (by decide)
    refine ⟨s, m, rfl, st5.src, m0, big m m0 (by omega), fun dd G3 d0 d1 st6 => ⟨_, _, rfl, rfl, ?_⟩⟩
    have st7 := st5.trans st6
    refine ⟨_, rfl, _, rfl, _, _, rfl, rfl, .inl ⟨by decide, by decide⟩, s, 2 * g, rfl, st7.src, by omega, big _ (by omega) (by omega), fun x G4 x0 x1 st8 => ⟨_, rfl, _, _, rfl, rfl, ?_⟩⟩
    refine ⟨_, rfl, _, rfl, _, _, rfl, rfl, .inl ⟨by decide, by decide⟩, s, 2 * g, rfl, st8.src, by omega, big _ (by omega) (by omega), fun y G5 y0 y1 st9 => ⟨_, rfl, _, _, rfl, rfl, ?_⟩⟩
    have st10 := (st7.trans st8).trans st9
    refine ⟨_, rfl, x - g, y - g, 1 + dd, rfl, by omega, big _ (by omega) (by omega), fun p G6 sm np ep => ?_⟩
    exact q p _ _ _ _ (st10.same sm) (st10.free np) ep (place_ok (by omega) (by omega) (by omega) (by omega))
theorem mulSq {x y d : Int} (po : PlOk x y d) : CMulW d d := wide_mul po.bits.2.2 po.bits.2.2 (by decide) (by decide) (by decide)
theorem dpTup {H : Hp} {t : Addr} {x y : Int} (h : Tup2 H t x y) : Dp K H (.ref t) (.tuple [.int x, .int y]) := .tup (SqT.of h) (.cons (.int x) (.cons (.int y) .nil))
def spNearR (K : PySem.W.Frag) : Sp := fun vs H Q _ => ∃ (p s t : Addr) (x y d u v u2 v2 : Int), vs = [.ref p, .ref s, .ref t] ∧ Pla H p x y d ∧ PlOk x y d ∧ Sit H s u v ∧ Bd 1000000 u v ∧ Sit H t u2 v2 ∧ Bd 1000000 u2 v2 ∧
  ∀ H', Same H H' → Q (.bl true) H'
theorem ok_nearr {f fSp fCo fS fN : Addr} {fd fdSp fdCo fdS fdN : FuncData} {k : Nat} (F : Fun K "_law_near_right" "_law_near_right" sNearR f fd) (GSp : FnOk P w K mg base CX0 (k + 1) fSp fdSp ["_law_spot", "_law_site_here"] spSpread) (gSp : mg "_law_square" = some (.ref fSp)) (kSp : PySem.W.keepIn K (.ref fSp) = true) (bSp : Binds K fdSp ["_law_spot", "_law_site_here"] []) (GCo : FnOk P w K mg base CX0 (k + 1) fCo fdCo ["_law_aa", "_law_bb"] spCom) (gCo : mg "_law_common" = some (.ref fCo)) (kCo : PySem.W.keepIn K (.ref fCo) = true) (bCo : Binds K fdCo ["_law_aa", "_law_bb"] [])
    (GS : FnOk P w K mg base CX0 (k + 1) fS fdS ["place", "site"] (spSquare K)) (gS : mg "square" = some (.ref fS)) (kS : PySem.W.keepIn K (.ref fS) = true) (bS : Binds K fdS ["place", "site"] []) (kbS : KBinds K fdS ["place", "site"] ["site", "place"] gRev gRev) (GN : FnOk P w K mg base CX0 (k + 1) fN fdN ["place", "a", "b"] (spNearer K)) (gN : mg "nearer" = some (.ref fN)) (kN : PySem.W.keepIn K (.ref fN) = true) (bN : Binds K fdN ["place", "a", "b"] []) (kbN : KBinds K fdN ["place", "a", "b"] ["b", "a", "place"] gRev gRev) :
    FnOk P w K mg base CX0 (k + 2) f fd ["_law_spot", "_law_aa", "_law_bb"] (spNearR K) := by
  refine F.ok scNearR (fun vs H Q E h => ?_) (fun cdv A outer s0 H vs Q E hr h => ?_)
  · obtain ⟨p, s, t, x, y, d, u, v, u2, v2, rfl, _⟩ := h
    rfl
  · obtain ⟨p, s, t, x, y, d, u, v, u2, v2, rfl, hp, po, hs, ds, ht, dt, q⟩ := h
    have nd := scNearR.nd
    have dd : 0 < d * d := sq_pos (by have := po.d1; omega)
    have db : (d * d).natAbs < 2 ^ 8000 := nb_up (wide_lt po.bits.2.2 po.bits.2.2) (by decide)
    have c1 : ∀ z, CDivE z (gcf (spread x y d u v) (d * d)) := fun z => ⟨Int.ne_of_gt (gcf_pos dd), Nat.lt_of_le_of_lt (gcf_le dd) db⟩
    refine ⟨_, pss_cons (ps_par3 (i := 3) (j := 4) (l := 5) rfl nd rfl rfl rfl (by decide) (by decide) (by decide) rfl rfl rfl (pa_cons (pe_call GSp hr (by rfl) gSp kSp bSp .nil pass0 (pa_cons (pv 0) (pa_cons (pv 1) pa_nil))) (pa_cons (pe_call GSp hr (by rfl) gSp kSp bSp .nil pass0 (pa_cons (pv 0) (pa_cons (pv 2) pa_nil))) (pa_cons (pe_op op_mulW (pe_ix ix_tup (pv 0) pe_int (fun _ _ => rfl)) (pe_ix ix_tup (pv 0) pe_int (fun _ _ => rfl))) pa_nil))) rfl) (pss_cons (ps_set (i := 6) scNearR.nd rfl (.inl rfl) (pe_call GCo hr (by rfl) gCo kCo bCo .nil pass0 (pa_cons (pv 3) (pa_cons (pv 5) pa_nil))))
      (pss_cons (ps_if (pt_cmpR (op_neD hr.units) (pe_call GS hr (by rfl) gS kS bS .nil pass0 (pa_cons (pv 0) (pa_cons (pv 1) pa_nil))) (pe_tup (pa_cons (pe_op op_fdivE (pv 3) (pv 6)) (pa_cons (pe_op op_fdivE (pv 5) (pv 6)) pa_nil))) (nomark _)) (pss_one (ps_ret pe_bl)) pss_nil)
      (pss_cons (ps_if (pt_cmpR (op_neD hr.units) (pe_callKw GS hr (by rfl) gS kS kbS pass0 (pk_cons (pv 1) (pk_cons (pv 0) pk_nil))) (pe_call GS hr (by rfl) gS kS bS .nil pass0 (pa_cons (pv 0) (pa_cons (pv 1) pa_nil))) (nomark _)) (pss_one (ps_ret pe_bl)) pss_nil)
      (C8.pss_cut (ps_set (i := 7) scNearR.nd rfl (.inl rfl) (pe_ifExp (pt_cmpR op_eq (pv 3) (pv 4) (nomark _)) pe_int (pe_ifExp (pt_cmpR op_lt (pv 3) (pv 4) (nomark _)) pe_neg pe_int)))
      (pss_cons (ps_if (pt_not (pt_cmpR op_eq (pe_call GN hr (by rfl) gN kN bN .nil pass0 (pa_cons (pv 0) (pa_cons (pv 1) (pa_cons (pv 2) pa_nil)))) (pv 7) (nomark _))) (pss_one (ps_ret pe_bl)) pss_nil)
      (pss_cons (ps_if (pt_not (pt_cmpR op_eq (pe_callKw GN hr (by rfl) gN kN kbN pass0 (pk_cons (pv 2) (pk_cons (pv 1) (pk_cons (pv 0) pk_nil)))) (pv 7) (nomark _))) (pss_one (ps_ret pe_bl)) pss_nil)
      (pss_one (ps_ret (pe_cmpR op_eq (pe_call GN hr (by rfl) gN kN bN .nil pass0 (pa_cons (pv 0) (pa_cons (pv 2) (pa_cons (pv 1) pa_nil)))) (pe_op op_sub pe_int (pv 7)) (nomark _)))))))))), ?_⟩
    refine ⟨_, rfl, _, rfl, p, s, x, y, d, u, v, rfl, hp, po, hs, ds, _, rfl, _, rfl, p, t, x, y, d, u2, v2, rfl, hp, po, ht, dt, _, rfl, _, _, _, _, rfl, rfl, SqT.of hp, a32_ _ _ _, _, rfl, _, _, _, _, rfl, rfl, SqT.of hp, a32_ _ _ _, _, _, rfl, rfl, mulSq po, _, _, _, rfl, ?_⟩
    refine ⟨_, rfl, _, rfl, _, _, rfl, ?_⟩
    refine ⟨_, rfl, _, rfl, p, s, x, y, d, u, v, rfl, hp, po, hs, ds, fun p1 H1 s1 n1 e1 => ?_⟩
    refine ⟨_, rfl, _, rfl, _, _, rfl, rfl, c1 _, _, rfl, _, rfl, _, _, rfl, rfl, c1 _, two_line, fun p2 n2 => ?_⟩
    have f1 : (spread x y d u v).fdiv (gcf (spread x y d u v) (d * d)) = spread x y d u v / gcf (spread x y d u v) (d * d) := Int.fdiv_eq_ediv_of_nonneg _ (Int.le_of_lt (gcf_pos dd))
    have f2 : (d * d).fdiv (gcf (spread x y d u v) (d * d)) = d * d / gcf (spread x y d u v) (d * d) := Int.fdiv_eq_ediv_of_nonneg _ (Int.le_of_lt (gcf_pos dd))
    refine ⟨_, _, dpTup ((Same.upd n2) _ _ e1), dpTup upd_same, rfl, rfl, _, rfl, ?_⟩
    rw [eqv_sit, decide_eq_true ⟨f1.symm, f2.symm⟩]
    have S2 := s1.trans (Same.upd (o := .tup [.int ((spread x y d u v).fdiv (gcf (spread x y d u v) (d * d))), .int ((d * d).fdiv (gcf (spread x y d u v) (d * d)))]) n2)
    have hp2 := S2 _ _ hp
    have hs2 := hs.same S2
    refine ⟨_, rfl, _, rfl, p, s, x, y, d, u, v, rfl, hp2, po, hs2, ds, fun p3 H3 s3 n3 e3 => ?_⟩
    have hp3 := s3 _ _ hp2
    have hs3 := hs2.same s3
    refine ⟨_, rfl, _, rfl, p, s, x, y, d, u, v, rfl, hp3, po, hs3, ds, fun p4 H4 s4 n4 e4 => ?_⟩
    refine ⟨_, _, dpTup (s4 _ _ e3), dpTup e4, rfl, rfl, _, rfl, ?_⟩
    rw [eqv_sit, decide_eq_true ⟨rfl, rfl⟩]
    have S4 := (S2.trans s3).trans s4
    have hp4 := S4 _ _ hp
    have hs4 := hs.same S4
    have ht4 := ht.same S4
    refine ⟨fun σ' H' => (∃ y5 y6, σ' = [some (.ref p), some (.ref s), some (.ref t), some (.int (spread x y d u v)), some (.int (spread x y d u2 v2)), y5, y6, some (.int (sg (spread x y d u v - spread x y d u2 v2)))]) ∧ H4 = H', ?_, ?_⟩
    · generalize spread x y d u v = far
      generalize spread x y d u2 v2 = oth
      refine ⟨_, rfl, _, rfl, rfl, _, rfl, ite2 (fun c => ?_) fun c => ⟨_, rfl, _, rfl, _, _, rfl, rfl, _, rfl, ite2 (fun c2 => ?_) fun c2 => ?_⟩⟩
      · have c := V.int.inj (of_decide_eq_true c)
        refine ⟨?_, rfl⟩
        have e : sg (far - oth) = 0 := by
          unfold sg
          rw [if_pos (by omega)]
        rw [e]
        exact ⟨_, _, rfl⟩
      · have c : ¬ far = oth := fun z => c (decide_eq_true (by rw [z]))
        have c2 : far < oth := of_decide_eq_true c2
        refine ⟨?_, rfl⟩
        have e : sg (far - oth) = -1 := by
          unfold sg
          rw [if_neg (by omega), if_neg (by omega)]
        rw [e]
        exact ⟨_, _, rfl⟩
      · have c : ¬ far = oth := fun z => c (decide_eq_true (by rw [z]))
        have c2 : ¬ far < oth := fun z => c2 (decide_eq_true z)
        refine ⟨?_, rfl⟩
        have e : sg (far - oth) = 1 := by
          unfold sg
          rw [if_neg (by omega), if_pos (by omega)]
        rw [e]
        exact ⟨_, _, rfl⟩
    rintro _ _ ⟨⟨y5, y6, rfl⟩, rfl⟩
    refine ⟨_, rfl, _, rfl, _, rfl, p, s, t, x, y, d, u, v, u2, v2, rfl, hp4, po, hs4, ds, ht4, dt, _, rfl, rfl, _, rfl, iteNS rfl ?_⟩
    refine ⟨_, rfl, _, rfl, _, rfl, p, s, t, x, y, d, u, v, u2, v2, rfl, hp4, po, hs4, ds, ht4, dt, _, rfl, rfl, _, rfl, iteNS rfl ?_⟩
    refine ⟨_, rfl, _, rfl, _, rfl, p, t, s, x, y, d, u2, v2, u, v, rfl, hp4, po, ht4, dt, hs4, ds, _, rfl, _, _, rfl, rfl, rfl, ?_⟩
    have e : spread x y d u2 v2 - spread x y d u v = -(spread x y d u v - spread x y d u2 v2) := by omega
    show Q (.bl (decide (V.int (sg (spread x y d u2 v2 - spread x y d u v)) = V.int (0 - sg (spread x y d u v - spread x y d u2 v2))))) _
    rw [e, sg_neg, decide_eq_true rfl]
    exact q _ S4
end
abbrev sLaw : Stmt := topS 40
theorem scLaw : FnScope ["_law_script", "_law_number_here", "_law_source", "_law_lap", "_law_sites_here", "_law_aa", "_law_bb", "_law_cc", "_law_dd", "_law_spot", "_law_centre_here"] ["_law_script"] (defScope sLaw) := ⟨rfl, rfl, rfl, by decide +kernel, rfl, by decide +kernel, by decide +kernel⟩
section
variable {P : Program} {w : World} {K : PySem.W.Frag} {mg : Str → Option Value} {base : Heap}
def spLaw (K : PySem.W.Frag) : Sp := fun vs H Q _ => ∃ (a : Addr) (ns : List Int), vs = [.ref a] ∧ SqL K H a (ns.map V.int) ∧ ns.length ≤ 63 ∧ ∀ H', Q (.bl true) H'
theorem cut_ints (ns : List Int) (lo hi : Option Int) : ∃ ms : List Int, cutV (ns.map V.int) lo hi = ms.map V.int ∧ ms.length ≤ ns.length := by
  refine ⟨(ns.drop (HT.sIx (ns.map V.int).length 0 lo)).take (HT.sIx (ns.map V.int).length (ns.map V.int).length hi - HT.sIx (ns.map V.int).length 0 lo), ?_, ?_⟩
  · unfold cutV
    rw [List.map_take, List.map_drop]
  · rw [List.length_take, List.length_drop]
    omega
theorem lsd_turn (ax ay bx by' cx cy dx dy : Int) : lsd cx cy ax ay bx by' dx dy = lsd ax ay bx by' cx cy dx dy := by
  unfold lsd
  rw [vol_turn, tri_turn]
theorem ok_law {f fC fSr fN fO fSi fP fR fT fLs fPl fIc fCi fNe fSq : Addr} {fd fdC fdSr fdN fdO fdSi fdP fdR fdT fdLs fdPl fdIc fdCi fdNe fdSq : FuncData} (F : Fun K "law" "law" sLaw f fd)
    (GC : FnOk P w K mg base CX0 (1) fC fdC ["_law_script", "_law_index"] (spCell K)) (gC : mg "_law_cell_at" = some (.ref fC)) (kC : PySem.W.keepIn K (.ref fC) = true) (bC : Binds K fdC ["_law_script", "_law_index"] []) (GSr : FnOk P w K mg base CX0 (1) fSr fdSr ["_law_number_here"] spSrc) (gSr : mg "_law_source_of" = some (.ref fSr)) (kSr : PySem.W.keepIn K (.ref fSr) = true) (bSr : Binds K fdSr ["_law_number_here"] []) (GN : FnOk P w K mg base CX0 (1) fN fdN ["_law_source", "_law_many"] spNext) (gN : mg "_law_next" = some (.ref fN)) (kN : PySem.W.keepIn K (.ref fN) = true) (bN : Binds K fdN ["_law_source", "_law_many"] []) (GO : FnOk P w K mg base CX0 (2) fO fdO ["_law_source", "_law_some"] (spOne K)) (gO : mg "_law_one" = some (.ref fO)) (kO : PySem.W.keepIn K (.ref fO) = true) (bO : Binds K fdO ["_law_source", "_law_some"] []) (GSi : FnOk P w K mg base CX0 (3) fSi fdSi ["_law_source", "_law_most"] spSites) (gSi : mg "_law_sites" = some (.ref fSi)) (kSi : PySem.W.keepIn K (.ref fSi) = true) (bSi : Binds K fdSi ["_law_source", "_law_most"] [])
    (GP : FnOk P w K mg base CX0 (3) fP fdP ["_law_source"] spLPlOf) (gP : mg "_law_place_of" = some (.ref fP)) (kP : PySem.W.keepIn K (.ref fP) = true) (bP : Binds K fdP ["_law_source"] []) (GR : FnOk P w K mg base CX0 (8) fR fdR ["_law_spot", "_law_aa", "_law_bb"] (spNearR K)) (gR : mg "_law_near_right" = some (.ref fR)) (kR : PySem.W.keepIn K (.ref fR) = true) (bR : Binds K fdR ["_law_spot", "_law_aa", "_law_bb"] []) (GT : FnOk P w K mg base CX0 (1) fT fdT ["_law_aa", "_law_bb", "_law_cc"] (sp3 K fun ax ay bx by' cx cy => .int (tri ax ay bx by' cx cy))) (gT : mg "_law_turn" = some (.ref fT)) (kT : PySem.W.keepIn K (.ref fT) = true) (bT : Binds K fdT ["_law_aa", "_law_bb", "_law_cc"] [])
    (GLs : FnOk P w K mg base CX0 (6) fLs fdLs ["a", "b", "c", "d"] (sp4 K (fun ax ay bx by' cx cy _ _ => tri ax ay bx by' cx cy ≠ 0) fun ax ay bx by' cx cy dx dy => .int (lsd ax ay bx by' cx cy dx dy))) (gLs : mg "lift_side" = some (.ref fLs)) (kLs : PySem.W.keepIn K (.ref fLs) = true) (bLs : Binds K fdLs ["a", "b", "c", "d"] []) (kbLs : KBinds K fdLs ["a", "b", "c", "d"] ["d", "c", "b", "a"] gRev gRev) (GPl : FnOk P w K mg base CX0 (2) fPl fdPl ["_law_aa", "_law_bb", "_law_cc", "_law_dd"] (sp4 K (fun ax ay bx by' cx cy _ _ => tri ax ay bx by' cx cy ≠ 0) fun ax ay bx by' cx cy dx dy => .int (lsd ax ay bx by' cx cy dx dy))) (gPl : mg "_law_plane_side" = some (.ref fPl)) (kPl : PySem.W.keepIn K (.ref fPl) = true) (bPl : Binds K fdPl ["_law_aa", "_law_bb", "_law_cc", "_law_dd"] []) (GIc : FnOk P w K mg base CX0 (7) fIc fdIc ["a", "b", "c", "d"] (sp4 K (fun ax ay bx by' cx cy _ _ => tri ax ay bx by' cx cy ≠ 0) fun ax ay bx by' cx cy dx dy => .int (-lsd ax ay bx by' cx cy dx dy))) (gIc : mg "in_circle" = some (.ref fIc)) (kIc : PySem.W.keepIn K (.ref fIc) = true) (bIc : Binds K fdIc ["a", "b", "c", "d"] []) (GCi : FnOk P w K mg base CX0 (6) fCi fdCi ["a", "b", "c"] (spCirT K)) (gCi : mg "circle" = some (.ref fCi)) (kCi : PySem.W.keepIn K (.ref fCi) = true) (bCi : Binds K fdCi ["a", "b", "c"] []) (GNe : FnOk P w K mg base CX0 (7) fNe fdNe ["place", "a", "b"] (spNearer K)) (gNe : mg "nearer" = some (.ref fNe)) (kNe : PySem.W.keepIn K (.ref fNe) = true) (bNe : Binds K fdNe ["place", "a", "b"] []) (GSq : FnOk P w K mg base CX0 (7) fSq fdSq ["place", "site"] (spSquare K)) (gSq : mg "square" = some (.ref fSq)) (kSq : PySem.W.keepIn K (.ref fSq) = true) (bSq : Binds K fdSq ["place", "site"] [])
    (mr : mg "range" = none) : FnOk P w K mg base CX0 9 f fd ["_law_script"] (spLaw K) := by
  refine F.ok scLaw (fun vs H Q E h => ?_) (fun cdv A outer s0 H vs Q E hr h => ?_)
  · obtain ⟨a, ns, rfl, _⟩ := h
    rfl
  · obtain ⟨a, ns, rfl, hS, hlen, q⟩ := h
    have nd := scLaw.nd
    refine ⟨_, pss_cons (ps_for PassesOwn.never rfl (pi_list (pe_op op_cat (pe_lst (pa_cons (pe_call GC (hr.mono (by decide)) (by rfl) gC kC bC .nil pass0 (pa_cons (pv 0) (pa_cons pe_int pa_nil))) pa_nil)) (pe_slice sl_list (pv 0) (po_some pe_int) (po_some pe_int)))) (pg_name (i := 1) nd rfl (.inl rfl))
        (pss_cons (ps_set (i := 2) scLaw.nd rfl (.inl rfl) (pe_call GSr (hr.mono (by decide)) (by rfl) gSr kSr bSr .nil pass0 (pa_cons (pv 1) pa_nil)))
        (pss_one (ps_for PassesOwn.never rfl (pi_range1 rfl mr (pa_cons pe_int pa_nil)) (pg_name (i := 3) nd rfl (.inl rfl))
            (pss_cons (ps_set (i := 4) scLaw.nd rfl (.inl rfl) (pe_call GSi (hr.mono (by decide)) (by rfl) gSi kSi bSi .nil pass0 (pa_cons (pv 2) (pa_cons pe_int pa_nil))))
            (pss_cons (ps_par3 (i := 5) (j := 6) (l := 7) rfl nd rfl rfl rfl (by decide) (by decide) (by decide) rfl rfl rfl (pa_cons (pe_call GO (hr.mono (by decide)) (by rfl) gO kO bO .nil pass0 (pa_cons (pv 2) (pa_cons (pv 4) pa_nil))) (pa_cons (pe_call GO (hr.mono (by decide)) (by rfl) gO kO bO .nil pass0 (pa_cons (pv 2) (pa_cons (pv 4) pa_nil))) (pa_cons (pe_call GO (hr.mono (by decide)) (by rfl) gO kO bO .nil pass0 (pa_cons (pv 2) (pa_cons (pv 4) pa_nil))) pa_nil))) rfl)
            (pss_cons (ps_par (i := 8) (j := 9) rfl nd rfl rfl (by decide) rfl rfl (pa_cons (pe_call GO (hr.mono (by decide)) (by rfl) gO kO bO .nil pass0 (pa_cons (pv 2) (pa_cons (pv 4) pa_nil))) (pa_cons (pe_call GP (hr.mono (by decide)) (by rfl) gP kP bP .nil pass0 (pa_cons (pv 2) pa_nil)) pa_nil)) rfl)
            (pss_cons (ps_if (PW.pt (pw_or (pt_not (pt_val (pe_call GR (hr.mono (by decide)) (by rfl) gR kR bR .nil pass0 (pa_cons (pv 9) (pa_cons (pv 5) (pa_cons (pv 6) pa_nil)))))) (pw_or1 (pt_not (pt_val (pe_call GR (hr.mono (by decide)) (by rfl) gR kR bR .nil pass0 (pa_cons (pv 9) (pa_cons (pv 7) (pa_cons (pv 7) pa_nil))))))))) (pss_one (ps_ret pe_bl)) pss_nil)
            (pss_one (ps_if (pt_cmpR op_ne (pe_call GT (hr.mono (by decide)) (by rfl) gT kT bT .nil pass0 (pa_cons (pv 5) (pa_cons (pv 6) (pa_cons (pv 7) pa_nil)))) pe_int (nomark _))
              (pss_cons (ps_if (pt_cmpR op_ne (pe_call GLs (hr.mono (by decide)) (by rfl) gLs kLs bLs .nil pass0 (pa_cons (pv 5) (pa_cons (pv 6) (pa_cons (pv 7) (pa_cons (pv 8) pa_nil))))) (pe_call GPl (hr.mono (by decide)) (by rfl) gPl kPl bPl .nil pass0 (pa_cons (pv 5) (pa_cons (pv 6) (pa_cons (pv 7) (pa_cons (pv 8) pa_nil))))) (nomark _)) (pss_one (ps_ret pe_bl)) pss_nil)
              (pss_cons (ps_if (pt_cmpR op_ne (pe_call GLs (hr.mono (by decide)) (by rfl) gLs kLs bLs .nil pass0 (pa_cons (pv 7) (pa_cons (pv 5) (pa_cons (pv 6) (pa_cons (pv 8) pa_nil))))) (pe_op op_sub pe_int (pe_call GIc (hr.mono (by decide)) (by rfl) gIc kIc bIc .nil pass0 (pa_cons (pv 5) (pa_cons (pv 6) (pa_cons (pv 7) (pa_cons (pv 8) pa_nil)))))) (nomark _)) (pss_one (ps_ret pe_bl)) pss_nil)
              (pss_cons (ps_set (i := 10) scLaw.nd rfl (.inl rfl) (pe_ix ix_tup (pe_call GCi (hr.mono (by decide)) (by rfl) gCi kCi bCi .nil pass0 (pa_cons (pv 5) (pa_cons (pv 6) (pa_cons (pv 7) pa_nil)))) pe_int (fun _ _ => rfl)))
              (pss_cons (ps_if (pt_cmpR op_ne (pe_call GNe (hr.mono (by decide)) (by rfl) gNe kNe bNe .nil pass0 (pa_cons (pv 10) (pa_cons (pv 5) (pa_cons (pv 6) pa_nil)))) pe_int (nomark _)) (pss_one (ps_ret pe_bl)) pss_nil)
              (pss_cons (ps_if (pt_cmpR op_ne (pe_call GNe (hr.mono (by decide)) (by rfl) gNe kNe bNe .nil pass0 (pa_cons (pv 10) (pa_cons (pv 6) (pa_cons (pv 7) pa_nil)))) pe_int (nomark _)) (pss_one (ps_ret pe_bl)) pss_nil)
              (pss_one (ps_if (pt_cmpR op_ne (pe_callKw GLs (hr.mono (by decide)) (by rfl) gLs kLs kbLs pass0 (pk_cons (pv 8) (pk_cons (pv 7) (pk_cons (pv 6) (pk_cons (pv 5) pk_nil))))) (pe_call GLs (hr.mono (by decide)) (by rfl) gLs kLs bLs .nil pass0 (pa_cons (pv 5) (pa_cons (pv 6) (pa_cons (pv 7) (pa_cons (pv 8) pa_nil))))) (nomark _)) (pss_one (ps_ret pe_bl)) pss_nil))))))) pss_nil))))))))))
      (pss_one (ps_ret (pe_cmpR (op_eqD hr.units) (pe_call GSq (hr.mono (by decide)) (by rfl) gSq kSq bSq .nil pass0 (pa_cons (pe_tup (pa_cons pe_int (pa_cons pe_int (pa_cons pe_int pa_nil)))) (pa_cons (pe_tup (pa_cons pe_int (pa_cons pe_int pa_nil))) pa_nil))) (pe_tup (pa_cons pe_int (pa_cons pe_int pa_nil))) (nomark _)))), ?_⟩
    -- the numbers
    refine ⟨_, rfl, a, ns, rfl, hS, by omega, fun n0 H1 sm1 => ⟨by show 1 ≤ sizeLine; decide, fun L1 nL1 => ?_⟩⟩
    obtain ⟨ms, em, lm⟩ := cut_ints ns (some 1) (some 5)
    refine ⟨_, rfl, _, rfl, _, rfl, a, ns.map V.int, rfl, (sm1.trans (Same.upd nL1)).seq hS, fun L2 nL2 => ?_⟩
    refine ⟨L1, L2, _, _, rfl, rfl, (Same.upd nL2) _ _ upd_same, upd_same, ?_, fun L nL => ?_⟩
    · rw [em, List.length_map]
      exact Nat.le_trans (show _ ≤ 100 by show 1 + ms.length ≤ 100; omega) (by decide)
    have eL : (upd (upd (upd H1 L1 (.lst [.int n0])) L2 (.lst (cutV (ns.map V.int) (some 1) (some 5)))) L (.lst ([.int n0] ++ cutV (ns.map V.int) (some 1) (some 5)))) L = some (.lst ((n0 :: ms).map V.int)) := by
      rw [upd_same, em]
      rfl
    generalize upd (upd (upd H1 L1 (.lst [.int n0])) L2 (.lst (cutV (ns.map V.int) (some 1) (some 5)))) L (.lst ([.int n0] ++ cutV (ns.map V.int) (some 1) (some 5))) = G at eL
    refine ⟨L, rfl, ⟨_, SqL.of eL⟩, for_list (K := K) (a := L) (xs := (n0 :: ms).map V.int) (fun i σ' H' => (∃ y1 y2 y3 y4 y5 y6 y7 y8 y9 y10, σ' = [some (.ref a), y1, y2, y3, y4, y5, y6, y7, y8, y9, y10]) ∧ H' L = some (.lst ((n0 :: ms).map V.int)))
      ⟨⟨_, _, _, _, _, _, _, _, _, _, rfl⟩, eL⟩ (fun i σ' H' _ z => SqL.of z.2) ?_ ?_⟩
    · rintro i x σ' H' ex ⟨⟨y1, y2, y3, y4, y5, y6, y7, y8, y9, y10, rfl⟩, hL⟩
      obtain ⟨n, rfl⟩ : ∃ n, x = V.int n := by
        obtain ⟨n, _, e⟩ := List.mem_map.mp (List.mem_of_getElem? ex)
        exact ⟨n, e.symm⟩
      refine ⟨_, rfl, n, rfl, fun s p1 p2 p3 ns' => ?_⟩
      have hs : Src (upd H' s (.lst [.int p1, .int p2, .int p3])) s := ⟨p1, p2, p3, upd_same⟩
      have hLs : L ≠ s := ne_of_none hL ns'
      have hL1 : (upd H' s (.lst [.int p1, .int p2, .int p3])) L = some (.lst ((n0 :: ms).map V.int)) := by rw [upd_ne hLs]; exact hL
      generalize upd H' s (.lst [.int p1, .int p2, .int p3]) = G1 at hs hL1
      let J : Hp → Prop := fun H' => Src H' s ∧ H' L = some (.lst ((n0 :: ms).map V.int))
      have Js : ∀ {H1 H2 : Hp}, J H1 → Stp s H1 H2 → J H2 := fun j st => ⟨st.src, st.keep _ _ hLs j.2⟩
      have Jm : ∀ {H1 H2 : Hp}, J H1 → Same H1 H2 → J H2 := fun j sm => Js j ((Stp.refl j.1).same sm)
      refine ⟨12, rfl, by decide, by decide, for_range (lo := 0) (n := 12) (fun i σ' H' => (∃ y3 y4 y5 y6 y7 y8 y9 y10, σ' = [some (.ref a), some (.int n), some (.ref s), y3, y4, y5, y6, y7, y8, y9, y10]) ∧ J H') ⟨⟨_, _, _, _, _, _, _, _, rfl⟩, hs, hL1⟩ ?_ (fun _ _ z => ?_)⟩
      · rintro i σ' H' hi ⟨⟨y3, y4, y5, y6, y7, y8, y9, y10, rfl⟩, j⟩
        refine ⟨_, rfl, s, 9, rfl, j.1, by decide, by decide, fun p ts H1 st np ep l0 l6 tt => ?_⟩
        have j1 := Js j st
        have hps : p ≠ s := j.1.nen np
        have l1 : 0 < (ts.map V.ref).length := by rw [List.length_map]; exact l0
        have l2 : (ts.map V.ref).length ≤ 1000 := by rw [List.length_map]; omega
        refine ⟨_, rfl, _, rfl, s, p, _, rfl, j1.1, ep, hps, l1, l2, fun x1 H2 m1 st2 => ?_⟩
        have ep2 := st2.keep _ _ hps ep
        refine ⟨_, rfl, _, rfl, s, p, _, rfl, st2.src, ep2, hps, l1, l2, fun x2 H3 m2 st3 => ?_⟩
        have ep3 := st3.keep _ _ hps ep2
        refine ⟨_, rfl, _, rfl, s, p, _, rfl, st3.src, ep3, hps, l1, l2, fun x3 H4 m3 st4 => ⟨_, _, _, rfl, ?_⟩⟩
        have ep4 := st4.keep _ _ hps ep3
        refine ⟨_, rfl, _, rfl, s, p, _, rfl, st4.src, ep4, hps, l1, l2, fun x4 H5 m4 st5 => ?_⟩
        have j5 := Js (Js (Js (Js j1 st2) st3) st4) st5
        refine ⟨_, rfl, s, rfl, j5.1, fun pl px py pd H6 st6 npl epl pok => ⟨_, _, rfl, ?_⟩⟩
        have j6 := Js j5 st6
        have tt6 := ((((tt.stp j1.1 st2).stp st2.src st3).stp st3.src st4).stp st4.src st5).stp st5.src st6
        obtain ⟨a1, w1, rfl⟩ := List.mem_map.mp m1
        obtain ⟨b1, w2, rfl⟩ := List.mem_map.mp m2
        obtain ⟨c1, w3, rfl⟩ := List.mem_map.mp m3
        obtain ⟨d1, w4, rfl⟩ := List.mem_map.mp m4
        obtain ⟨ax, ay, ha, da⟩ := tt6 a1 w1
        obtain ⟨bx, by', hb, db⟩ := tt6 b1 w2
        obtain ⟨cx, cy, hc, dc⟩ := tt6 c1 w3
        obtain ⟨dx, dy, hd, dd⟩ := tt6 d1 w4
        have six : Six ax ay bx by' cx cy := ⟨da, db, dc⟩
        have six' : Six cx cy ax ay bx by' := ⟨dc, da, db⟩
        -- near_right, twice
        refine ⟨_, rfl, _, rfl, _, rfl, pl, a1, b1, px, py, pd, ax, ay, bx, by', rfl, epl, pok, ha, da, hb, db, fun H7 s7 => ⟨_, rfl, ?_⟩⟩
        refine ⟨_, rfl, _, rfl, _, rfl, pl, c1, c1, px, py, pd, cx, cy, cx, cy, rfl, s7 _ _ epl, pok, hc.same s7, dc, hc.same s7, dc, fun H8 s8 => ⟨_, rfl, ?_⟩⟩
        have S8 := s7.trans s8
        have j8 := Jm j6 S8
        refine ⟨_, rfl, _, rfl, _, rfl, a1, b1, c1, ax, ay, bx, by', cx, cy, rfl, ha.same S8, hb.same S8, hc.same S8, da, db, dc, rfl, _, rfl, ?_⟩
        show if (!decide (V.int (tri ax ay bx by' cx cy) = V.int 0)) = true then _ else _
        by_cases t : tri ax ay bx by' cx cy = 0
        · rw [t]
          exact iteNS rfl ⟨⟨_, _, _, _, _, _, _, _, rfl⟩, j8⟩
        have et : decide (V.int (tri ax ay bx by' cx cy) = V.int 0) = false := decide_eq_false fun z => t (V.int.inj z)
        rw [et]
        have t' : tri cx cy ax ay bx by' ≠ 0 := by rw [tri_turn]; exact t
        -- lift_side, plane_side
        refine ⟨_, rfl, _, rfl, _, rfl, _, rfl, a1, b1, c1, d1, ax, ay, bx, by', cx, cy, dx, dy, rfl, ha.same S8, hb.same S8, hc.same S8, hd.same S8, six, dd, t, fun H9 s9 => ?_⟩
        have S9 := S8.trans s9
        refine ⟨_, rfl, _, rfl, _, rfl, _, rfl, a1, b1, c1, d1, ax, ay, bx, by', cx, cy, dx, dy, rfl, ha.same S9, hb.same S9, hc.same S9, hd.same S9, six, dd, t, fun H10 s10 => ⟨rfl, _, rfl, iteNS rfl ?_⟩⟩
        have S10 := S9.trans s10
        refine ⟨_, rfl, _, rfl, _, rfl, _, rfl, c1, a1, b1, d1, cx, cy, ax, ay, bx, by', dx, dy, rfl, hc.same S10, ha.same S10, hb.same S10, hd.same S10, six', dd, t', fun H11 s11 => ?_⟩
        have S11 := S10.trans s11
        refine ⟨_, rfl, _, rfl, _, rfl, _, rfl, a1, b1, c1, d1, ax, ay, bx, by', cx, cy, dx, dy, rfl, ha.same S11, hb.same S11, hc.same S11, hd.same S11, six, dd, t, fun H12 s12 => ⟨_, _, rfl, rfl, rfl, _, rfl, iteNS ?_ ?_⟩⟩
        · show V.int (lsd cx cy ax ay bx by' dx dy) = V.int (0 - -lsd ax ay bx by' cx cy dx dy)
          rw [lsd_turn, Int.zero_sub, Int.neg_neg]
        have S12 := S11.trans s12
        -- the centre
        refine ⟨_, rfl, _, rfl, _, rfl, a1, b1, c1, ax, ay, bx, by', cx, cy, rfl, ha.same S12, hb.same S12, hc.same S12, six, t, fun pc H13 s13 n13 cir => ?_⟩
        obtain ⟨p4, p5, e1, e2, e3⟩ := cir.ex
        have S13 := S12.trans s13
        have cok := six.place t
        refine ⟨pc, _, 0, _, rfl, rfl, SqT.of e1, at0_ _ _, ?_⟩
        refine ⟨_, rfl, _, rfl, _, rfl, p4, a1, b1, _, _, _, ax, ay, bx, by', rfl, e2, cok, ha.same S13, da, hb.same S13, db, rfl, _, rfl, ?_⟩
        refine iteNS (by rw [centre_ab t, Int.sub_self]; rfl) ?_
        refine ⟨_, rfl, _, rfl, _, rfl, p4, b1, c1, _, _, _, bx, by', cx, cy, rfl, e2, cok, hb.same S13, db, hc.same S13, dc, rfl, _, rfl, ?_⟩
        refine iteNS (by rw [← centre_ab t, centre_ac t, Int.sub_self]; rfl) ?_
        refine ⟨_, rfl, _, rfl, _, rfl, _, rfl, a1, b1, c1, d1, ax, ay, bx, by', cx, cy, dx, dy, rfl, ha.same S13, hb.same S13, hc.same S13, hd.same S13, six, dd, t, fun H14 s14 => ?_⟩
        have S14 := S13.trans s14
        refine ⟨_, rfl, _, rfl, _, rfl, _, rfl, a1, b1, c1, d1, ax, ay, bx, by', cx, cy, dx, dy, rfl, ha.same S14, hb.same S14, hc.same S14, hd.same S14, six, dd, t, fun H15 s15 => ⟨rfl, _, rfl, iteNS rfl ?_⟩⟩
        exact ⟨⟨_, _, _, _, _, _, _, _, rfl⟩, Jm j6 (S14.trans s15)⟩
      · obtain ⟨⟨y3, y4, y5, y6, y7, y8, y9, y10, rfl⟩, j⟩ := z
        exact ⟨⟨_, _, _, _, _, _, _, _, _, _, rfl⟩, j.2⟩
    · rintro σ' H' _
      refine ⟨three_line, fun t1 n1 => ⟨two_line, fun t2 n2 => ?_⟩⟩
      refine ⟨t1, t2, 1, 1, 2, 1, 0, rfl, (Same.upd n2) _ _ upd_same, ⟨by decide, by decide, by decide, by decide, by decide, by decide, by decide⟩, upd_same, ⟨by decide, by decide, by decide, by decide⟩, fun p3 H3 s3 n3 e3 => ⟨two_line, fun t4 n4 => ?_⟩⟩
      refine ⟨_, _, dpTup ((Same.upd n4) _ _ e3), dpTup upd_same, rfl, rfl, ?_⟩
      rw [eqv_sit, decide_eq_true (by decide)]
      exact q _
end
/-! ### what the top has written; the law's own head -/
theorem all_mk {l : PySem.W.OpenLaw} {w : World} {K : PySem.W.Frag} {h : Heap} {mg : Str → Option Value} {fa fSg fF fSt fA fPc fCk fCp fCt fH fSp fCi fIc fLs fSq fNe fSr fN fO fC fSi fLq fLt fLc fLp fLl fPl fP fR fL : Addr} (X : K.In h) (G : h.Ns mainGlobals mg) (hfa : mg "law" = some (.ref fa))
    {odSg anSg : Option Addr} {slSg : Array (Option Value)} {ocSg kVSg dcSg pmSg cdSg ctSg : Value}
    {odF anF : Option Addr} {slF : Array (Option Value)} {ocF kVF dcF pmF cdF ctF : Value}
    {odSt anSt : Option Addr} {slSt : Array (Option Value)} {ocSt kVSt dcSt pmSt cdSt ctSt : Value}
    {odA anA : Option Addr} {slA : Array (Option Value)} {ocA kVA dcA pmA cdA ctA : Value}
    {odPc anPc : Option Addr} {slPc : Array (Option Value)} {ocPc kVPc dcPc pmPc cdPc ctPc : Value}
    {odCk anCk : Option Addr} {slCk : Array (Option Value)} {ocCk kVCk dcCk pmCk cdCk ctCk : Value}
    {odCp anCp : Option Addr} {slCp : Array (Option Value)} {ocCp kVCp dcCp pmCp cdCp ctCp : Value}
    {odCt anCt : Option Addr} {slCt : Array (Option Value)} {ocCt kVCt dcCt pmCt cdCt ctCt : Value}
    {odH anH : Option Addr} {slH : Array (Option Value)} {ocH kVH dcH pmH cdH ctH : Value}
    {odSp anSp : Option Addr} {slSp : Array (Option Value)} {ocSp kVSp dcSp pmSp cdSp ctSp : Value}
    {odCi anCi : Option Addr} {slCi : Array (Option Value)} {ocCi kVCi dcCi pmCi cdCi ctCi : Value}
    {odIc anIc : Option Addr} {slIc : Array (Option Value)} {ocIc kVIc dcIc pmIc cdIc ctIc : Value}
    {odLs anLs : Option Addr} {slLs : Array (Option Value)} {ocLs kVLs dcLs pmLs cdLs ctLs : Value}
    {odSq anSq : Option Addr} {slSq : Array (Option Value)} {ocSq kVSq dcSq pmSq cdSq ctSq : Value}
    {odNe anNe : Option Addr} {slNe : Array (Option Value)} {ocNe kVNe dcNe pmNe cdNe ctNe : Value}
    {odSr anSr : Option Addr} {slSr : Array (Option Value)} {ocSr kVSr dcSr pmSr cdSr ctSr : Value}
    {odN anN : Option Addr} {slN : Array (Option Value)} {ocN kVN dcN pmN cdN ctN : Value}
    {odO anO : Option Addr} {slO : Array (Option Value)} {ocO kVO dcO pmO cdO ctO : Value}
    {odC anC : Option Addr} {slC : Array (Option Value)} {ocC kVC dcC pmC cdC ctC : Value}
    {odSi anSi : Option Addr} {slSi : Array (Option Value)} {ocSi kVSi dcSi pmSi cdSi ctSi : Value}
    {odLq anLq : Option Addr} {slLq : Array (Option Value)} {ocLq kVLq dcLq pmLq cdLq ctLq : Value}
    {odLt anLt : Option Addr} {slLt : Array (Option Value)} {ocLt kVLt dcLt pmLt cdLt ctLt : Value}
    {odLc anLc : Option Addr} {slLc : Array (Option Value)} {ocLc kVLc dcLc pmLc cdLc ctLc : Value}
    {odLp anLp : Option Addr} {slLp : Array (Option Value)} {ocLp kVLp dcLp pmLp cdLp ctLp : Value}
    {odLl anLl : Option Addr} {slLl : Array (Option Value)} {ocLl kVLl dcLl pmLl cdLl ctLl : Value}
    {odPl anPl : Option Addr} {slPl : Array (Option Value)} {ocPl kVPl dcPl pmPl cdPl ctPl : Value}
    {odP anP : Option Addr} {slP : Array (Option Value)} {ocP kVP dcP pmP cdP ctP : Value}
    {odR anR : Option Addr} {slR : Array (Option Value)} {ocR kVR dcR pmR cdR ctR : Value}
    {odL anL : Option Addr} {slL : Array (Option Value)} {ocL kVL dcL pmL cdL ctL : Value}
    (aSg : PySem.W.nsIn K mainGlobals "sign" = some (some (.ref fSg))) (lSg : K.lookup fSg = some ⟨ocSg, odSg, .func (PySem.W.fnOf "sign" "sign" (defArgs sSign) (defBody sSign) (defScope sSign) .none kVSg dcSg pmSg anSg cdSg ctSg), slSg⟩) (cSg : PySem.W.codeIn K cdSg "sign" = true) (kSg : PySem.W.keepIn K (.ref fSg) = true)
    (aF : PySem.W.nsIn K mainGlobals "fraction" = some (some (.ref fF))) (lF : K.lookup fF = some ⟨ocF, odF, .func (PySem.W.fnOf "fraction" "fraction" (defArgs sFrac) (defBody sFrac) (defScope sFrac) .none kVF dcF pmF anF cdF ctF), slF⟩) (cF : PySem.W.codeIn K cdF "fraction" = true) (kF : PySem.W.keepIn K (.ref fF) = true)
    (aSt : PySem.W.nsIn K mainGlobals "is_site" = some (some (.ref fSt))) (lSt : K.lookup fSt = some ⟨ocSt, odSt, .func (PySem.W.fnOf "is_site" "is_site" (defArgs sIsSite) (defBody sIsSite) (defScope sIsSite) .none kVSt dcSt pmSt anSt cdSt ctSt), slSt⟩) (cSt : PySem.W.codeIn K cdSt "is_site" = true) (kSt : PySem.W.keepIn K (.ref fSt) = true)
    (aA : PySem.W.nsIn K mainGlobals "turn_of_sites" = some (some (.ref fA))) (lA : K.lookup fA = some ⟨ocA, odA, .func (PySem.W.fnOf "turn_of_sites" "turn_of_sites" (defArgs sToS) (defBody sToS) (defScope sToS) .none kVA dcA pmA anA cdA ctA), slA⟩) (cA : PySem.W.codeIn K cdA "turn_of_sites" = true) (kA : PySem.W.keepIn K (.ref fA) = true)
    (aPc : PySem.W.nsIn K mainGlobals "is_place" = some (some (.ref fPc))) (lPc : K.lookup fPc = some ⟨ocPc, odPc, .func (PySem.W.fnOf "is_place" "is_place" (defArgs sIsPl) (defBody sIsPl) (defScope sIsPl) .none kVPc dcPc pmPc anPc cdPc ctPc), slPc⟩) (cPc : PySem.W.codeIn K cdPc "is_place" = true) (kPc : PySem.W.keepIn K (.ref fPc) = true)
    (aCk : PySem.W.nsIn K mainGlobals "check_site" = some (some (.ref fCk))) (lCk : K.lookup fCk = some ⟨ocCk, odCk, .func (PySem.W.fnOf "check_site" "check_site" (defArgs sCheck) (defBody sCheck) (defScope sCheck) .none kVCk dcCk pmCk anCk cdCk ctCk), slCk⟩) (cCk : PySem.W.codeIn K cdCk "check_site" = true) (kCk : PySem.W.keepIn K (.ref fCk) = true)
    (aCp : PySem.W.nsIn K mainGlobals "check_place" = some (some (.ref fCp))) (lCp : K.lookup fCp = some ⟨ocCp, odCp, .func (PySem.W.fnOf "check_place" "check_place" (defArgs sCheckP) (defBody sCheckP) (defScope sCheckP) .none kVCp dcCp pmCp anCp cdCp ctCp), slCp⟩) (cCp : PySem.W.codeIn K cdCp "check_place" = true) (kCp : PySem.W.keepIn K (.ref fCp) = true)
    (aCt : PySem.W.nsIn K mainGlobals "circle_through" = some (some (.ref fCt))) (lCt : K.lookup fCt = some ⟨ocCt, odCt, .func (PySem.W.fnOf "circle_through" "circle_through" (defArgs sCirT) (defBody sCirT) (defScope sCirT) .none kVCt dcCt pmCt anCt cdCt ctCt), slCt⟩) (cCt : PySem.W.codeIn K cdCt "circle_through" = true) (kCt : PySem.W.keepIn K (.ref fCt) = true)
    (aH : PySem.W.nsIn K mainGlobals "height_over" = some (some (.ref fH))) (lH : K.lookup fH = some ⟨ocH, odH, .func (PySem.W.fnOf "height_over" "height_over" (defArgs sHov) (defBody sHov) (defScope sHov) .none kVH dcH pmH anH cdH ctH), slH⟩) (cH : PySem.W.codeIn K cdH "height_over" = true) (kH : PySem.W.keepIn K (.ref fH) = true)
    (aSp : PySem.W.nsIn K mainGlobals "spread_square" = some (some (.ref fSp))) (lSp : K.lookup fSp = some ⟨ocSp, odSp, .func (PySem.W.fnOf "spread_square" "spread_square" (defArgs sSpread) (defBody sSpread) (defScope sSpread) .none kVSp dcSp pmSp anSp cdSp ctSp), slSp⟩) (cSp : PySem.W.codeIn K cdSp "spread_square" = true) (kSp : PySem.W.keepIn K (.ref fSp) = true)
    (aCi : PySem.W.nsIn K mainGlobals "circle" = some (some (.ref fCi))) (lCi : K.lookup fCi = some ⟨ocCi, odCi, .func (PySem.W.fnOf "circle" "circle" (defArgs sCircle) (defBody sCircle) (defScope sCircle) .none kVCi dcCi pmCi anCi cdCi ctCi), slCi⟩) (cCi : PySem.W.codeIn K cdCi "circle" = true) (kCi : PySem.W.keepIn K (.ref fCi) = true)
    (aIc : PySem.W.nsIn K mainGlobals "in_circle" = some (some (.ref fIc))) (lIc : K.lookup fIc = some ⟨ocIc, odIc, .func (PySem.W.fnOf "in_circle" "in_circle" (defArgs sInC) (defBody sInC) (defScope sInC) .none kVIc dcIc pmIc anIc cdIc ctIc), slIc⟩) (cIc : PySem.W.codeIn K cdIc "in_circle" = true) (kIc : PySem.W.keepIn K (.ref fIc) = true)
    (aLs : PySem.W.nsIn K mainGlobals "lift_side" = some (some (.ref fLs))) (lLs : K.lookup fLs = some ⟨ocLs, odLs, .func (PySem.W.fnOf "lift_side" "lift_side" (defArgs sLSide) (defBody sLSide) (defScope sLSide) .none kVLs dcLs pmLs anLs cdLs ctLs), slLs⟩) (cLs : PySem.W.codeIn K cdLs "lift_side" = true) (kLs : PySem.W.keepIn K (.ref fLs) = true)
    (aSq : PySem.W.nsIn K mainGlobals "square" = some (some (.ref fSq))) (lSq : K.lookup fSq = some ⟨ocSq, odSq, .func (PySem.W.fnOf "square" "square" (defArgs sSquare) (defBody sSquare) (defScope sSquare) .none kVSq dcSq pmSq anSq cdSq ctSq), slSq⟩) (cSq : PySem.W.codeIn K cdSq "square" = true) (kSq : PySem.W.keepIn K (.ref fSq) = true)
    (aNe : PySem.W.nsIn K mainGlobals "nearer" = some (some (.ref fNe))) (lNe : K.lookup fNe = some ⟨ocNe, odNe, .func (PySem.W.fnOf "nearer" "nearer" (defArgs sNearer) (defBody sNearer) (defScope sNearer) .none kVNe dcNe pmNe anNe cdNe ctNe), slNe⟩) (cNe : PySem.W.codeIn K cdNe "nearer" = true) (kNe : PySem.W.keepIn K (.ref fNe) = true)
    (aSr : PySem.W.nsIn K mainGlobals "_law_source_of" = some (some (.ref fSr))) (lSr : K.lookup fSr = some ⟨ocSr, odSr, .func (PySem.W.fnOf "_law_source_of" "_law_source_of" (defArgs sSrc) (defBody sSrc) (defScope sSrc) .none kVSr dcSr pmSr anSr cdSr ctSr), slSr⟩) (cSr : PySem.W.codeIn K cdSr "_law_source_of" = true) (kSr : PySem.W.keepIn K (.ref fSr) = true)
    (aN : PySem.W.nsIn K mainGlobals "_law_next" = some (some (.ref fN))) (lN : K.lookup fN = some ⟨ocN, odN, .func (PySem.W.fnOf "_law_next" "_law_next" (defArgs sNext) (defBody sNext) (defScope sNext) .none kVN dcN pmN anN cdN ctN), slN⟩) (cN : PySem.W.codeIn K cdN "_law_next" = true) (kN : PySem.W.keepIn K (.ref fN) = true)
    (aO : PySem.W.nsIn K mainGlobals "_law_one" = some (some (.ref fO))) (lO : K.lookup fO = some ⟨ocO, odO, .func (PySem.W.fnOf "_law_one" "_law_one" (defArgs sOne) (defBody sOne) (defScope sOne) .none kVO dcO pmO anO cdO ctO), slO⟩) (cO : PySem.W.codeIn K cdO "_law_one" = true) (kO : PySem.W.keepIn K (.ref fO) = true)
    (aC : PySem.W.nsIn K mainGlobals "_law_cell_at" = some (some (.ref fC))) (lC : K.lookup fC = some ⟨ocC, odC, .func (PySem.W.fnOf "_law_cell_at" "_law_cell_at" (defArgs sCell) (defBody sCell) (defScope sCell) .none kVC dcC pmC anC cdC ctC), slC⟩) (cC : PySem.W.codeIn K cdC "_law_cell_at" = true) (kC : PySem.W.keepIn K (.ref fC) = true)
    (aSi : PySem.W.nsIn K mainGlobals "_law_sites" = some (some (.ref fSi))) (lSi : K.lookup fSi = some ⟨ocSi, odSi, .func (PySem.W.fnOf "_law_sites" "_law_sites" (defArgs sSites) (defBody sSites) (defScope sSites) .none kVSi dcSi pmSi anSi cdSi ctSi), slSi⟩) (cSi : PySem.W.codeIn K cdSi "_law_sites" = true) (kSi : PySem.W.keepIn K (.ref fSi) = true)
    (aLq : PySem.W.nsIn K mainGlobals "_law_square" = some (some (.ref fLq))) (lLq : K.lookup fLq = some ⟨ocLq, odLq, .func (PySem.W.fnOf "_law_square" "_law_square" (defArgs sLSq) (defBody sLSq) (defScope sLSq) .none kVLq dcLq pmLq anLq cdLq ctLq), slLq⟩) (cLq : PySem.W.codeIn K cdLq "_law_square" = true) (kLq : PySem.W.keepIn K (.ref fLq) = true)
    (aLt : PySem.W.nsIn K mainGlobals "_law_turn" = some (some (.ref fLt))) (lLt : K.lookup fLt = some ⟨ocLt, odLt, .func (PySem.W.fnOf "_law_turn" "_law_turn" (defArgs sLTurn) (defBody sLTurn) (defScope sLTurn) .none kVLt dcLt pmLt anLt cdLt ctLt), slLt⟩) (cLt : PySem.W.codeIn K cdLt "_law_turn" = true) (kLt : PySem.W.keepIn K (.ref fLt) = true)
    (aLc : PySem.W.nsIn K mainGlobals "_law_common" = some (some (.ref fLc))) (lLc : K.lookup fLc = some ⟨ocLc, odLc, .func (PySem.W.fnOf "_law_common" "_law_common" (defArgs sLCom) (defBody sLCom) (defScope sLCom) .none kVLc dcLc pmLc anLc cdLc ctLc), slLc⟩) (cLc : PySem.W.codeIn K cdLc "_law_common" = true) (kLc : PySem.W.keepIn K (.ref fLc) = true)
    (aLp : PySem.W.nsIn K mainGlobals "_law_place" = some (some (.ref fLp))) (lLp : K.lookup fLp = some ⟨ocLp, odLp, .func (PySem.W.fnOf "_law_place" "_law_place" (defArgs sLPl) (defBody sLPl) (defScope sLPl) .none kVLp dcLp pmLp anLp cdLp ctLp), slLp⟩) (cLp : PySem.W.codeIn K cdLp "_law_place" = true) (kLp : PySem.W.keepIn K (.ref fLp) = true)
    (aLl : PySem.W.nsIn K mainGlobals "_law_lift" = some (some (.ref fLl))) (lLl : K.lookup fLl = some ⟨ocLl, odLl, .func (PySem.W.fnOf "_law_lift" "_law_lift" (defArgs sLLift) (defBody sLLift) (defScope sLLift) .none kVLl dcLl pmLl anLl cdLl ctLl), slLl⟩) (cLl : PySem.W.codeIn K cdLl "_law_lift" = true) (kLl : PySem.W.keepIn K (.ref fLl) = true)
    (aPl : PySem.W.nsIn K mainGlobals "_law_plane_side" = some (some (.ref fPl))) (lPl : K.lookup fPl = some ⟨ocPl, odPl, .func (PySem.W.fnOf "_law_plane_side" "_law_plane_side" (defArgs sLPlane) (defBody sLPlane) (defScope sLPlane) .none kVPl dcPl pmPl anPl cdPl ctPl), slPl⟩) (cPl : PySem.W.codeIn K cdPl "_law_plane_side" = true) (kPl : PySem.W.keepIn K (.ref fPl) = true)
    (aP : PySem.W.nsIn K mainGlobals "_law_place_of" = some (some (.ref fP))) (lP : K.lookup fP = some ⟨ocP, odP, .func (PySem.W.fnOf "_law_place_of" "_law_place_of" (defArgs sLPlOf) (defBody sLPlOf) (defScope sLPlOf) .none kVP dcP pmP anP cdP ctP), slP⟩) (cP : PySem.W.codeIn K cdP "_law_place_of" = true) (kP : PySem.W.keepIn K (.ref fP) = true)
    (aR : PySem.W.nsIn K mainGlobals "_law_near_right" = some (some (.ref fR))) (lR : K.lookup fR = some ⟨ocR, odR, .func (PySem.W.fnOf "_law_near_right" "_law_near_right" (defArgs sNearR) (defBody sNearR) (defScope sNearR) .none kVR dcR pmR anR cdR ctR), slR⟩) (cR : PySem.W.codeIn K cdR "_law_near_right" = true) (kR : PySem.W.keepIn K (.ref fR) = true)
    (aL : PySem.W.nsIn K mainGlobals "law" = some (some (.ref fL))) (lL : K.lookup fL = some ⟨ocL, odL, .func (PySem.W.fnOf "law" "law" (defArgs sLaw) (defBody sLaw) (defScope sLaw) .none kVL dcL pmL anL cdL ctL), slL⟩) (cL : PySem.W.codeIn K cdL "law" = true) (kL : PySem.W.keepIn K (.ref fL) = true)
    (zint : PySem.W.nsIn K mainGlobals "int" = some none)
    (zisinstance : PySem.W.nsIn K mainGlobals "isinstance" = some none)
    (ztuple : PySem.W.nsIn K mainGlobals "tuple" = some none)
    (zlen : PySem.W.nsIn K mainGlobals "len" = some none)
    (zabs : PySem.W.nsIn K mainGlobals "abs" = some none)
    (zrange : PySem.W.nsIn K mainGlobals "range" = some none)
    (ggcd : PySem.W.nsIn K mainGlobals "gcd" = some (some (.builtin "math.gcd")))
    : ∃ fd : FuncData, (∀ (s : Shared) (v : Value), BindsTo s fd ⟨[v], []⟩ [("_law_script", v)]) ∧ ∀ base : Heap, K.In base → base.Ns mainGlobals mg → FnOk l.prog w K mg base CX0 9 fa fd ["_law_script"] (spLaw K) := by
  have e := hfa.symm.trans (PySem.W.mg_of X G aL)
  cases e
  have FSg := fun_mk (st := sSign) lSg cSg kSg
  have bSg := FSg.binds (ps := ["number"]) fun _ _ _ _ _ _ us hl => match us, hl with | [_], _ => rfl
  have gSg := PySem.W.mg_of X G aSg
  have FF := fun_mk (st := sFrac) lF cF kF
  have bF := FF.binds (ps := ["top", "bottom"]) fun _ _ _ _ _ _ us hl => match us, hl with | [_, _], _ => rfl
  have gF := PySem.W.mg_of X G aF
  have FSt := fun_mk (st := sIsSite) lSt cSt kSt
  have bSt := FSt.binds (ps := ["value"]) fun _ _ _ _ _ _ us hl => match us, hl with | [_], _ => rfl
  have gSt := PySem.W.mg_of X G aSt
  have FA := fun_mk (st := sToS) lA cA kA
  have bA := FA.binds (ps := ["a", "b", "c"]) fun _ _ _ _ _ _ us hl => match us, hl with | [_, _, _], _ => rfl
  have gA := PySem.W.mg_of X G aA
  have FPc := fun_mk (st := sIsPl) lPc cPc kPc
  have bPc := FPc.binds (ps := ["value"]) fun _ _ _ _ _ _ us hl => match us, hl with | [_], _ => rfl
  have gPc := PySem.W.mg_of X G aPc
  have FCk := fun_mk (st := sCheck) lCk cCk kCk
  have bCk := FCk.binds (ps := ["value", "name"]) fun _ _ _ _ _ _ us hl => match us, hl with | [_, _], _ => rfl
  have gCk := PySem.W.mg_of X G aCk
  have FCp := fun_mk (st := sCheckP) lCp cCp kCp
  have bCp := FCp.binds (ps := ["value", "name"]) fun _ _ _ _ _ _ us hl => match us, hl with | [_, _], _ => rfl
  have gCp := PySem.W.mg_of X G aCp
  have FCt := fun_mk (st := sCirT) lCt cCt kCt
  have bCt := FCt.binds (ps := ["a", "b", "c"]) fun _ _ _ _ _ _ us hl => match us, hl with | [_, _, _], _ => rfl
  have gCt := PySem.W.mg_of X G aCt
  have FH := fun_mk (st := sHov) lH cH kH
  have bH := FH.binds (ps := ["a", "b", "c", "d"]) fun _ _ _ _ _ _ us hl => match us, hl with | [_, _, _, _], _ => rfl
  have gH := PySem.W.mg_of X G aH
  have FSp := fun_mk (st := sSpread) lSp cSp kSp
  have bSp := FSp.binds (ps := ["place", "site"]) fun _ _ _ _ _ _ us hl => match us, hl with | [_, _], _ => rfl
  have gSp := PySem.W.mg_of X G aSp
  have FCi := fun_mk (st := sCircle) lCi cCi kCi
  have bCi := FCi.binds (ps := ["a", "b", "c"]) fun _ _ _ _ _ _ us hl => match us, hl with | [_, _, _], _ => rfl
  have gCi := PySem.W.mg_of X G aCi
  have FIc := fun_mk (st := sInC) lIc cIc kIc
  have bIc := FIc.binds (ps := ["a", "b", "c", "d"]) fun _ _ _ _ _ _ us hl => match us, hl with | [_, _, _, _], _ => rfl
  have gIc := PySem.W.mg_of X G aIc
  have FLs := fun_mk (st := sLSide) lLs cLs kLs
  have bLs := FLs.binds (ps := ["a", "b", "c", "d"]) fun _ _ _ _ _ _ us hl => match us, hl with | [_, _, _, _], _ => rfl
  have gLs := PySem.W.mg_of X G aLs
  have FSq := fun_mk (st := sSquare) lSq cSq kSq
  have bSq := FSq.binds (ps := ["place", "site"]) fun _ _ _ _ _ _ us hl => match us, hl with | [_, _], _ => rfl
  have gSq := PySem.W.mg_of X G aSq
  have FNe := fun_mk (st := sNearer) lNe cNe kNe
  have bNe := FNe.binds (ps := ["place", "a", "b"]) fun _ _ _ _ _ _ us hl => match us, hl with | [_, _, _], _ => rfl
  have gNe := PySem.W.mg_of X G aNe
  have FSr := fun_mk (st := sSrc) lSr cSr kSr
  have bSr := FSr.binds (ps := ["_law_number_here"]) fun _ _ _ _ _ _ us hl => match us, hl with | [_], _ => rfl
  have gSr := PySem.W.mg_of X G aSr
  have FN := fun_mk (st := sNext) lN cN kN
  have bN := FN.binds (ps := ["_law_source", "_law_many"]) fun _ _ _ _ _ _ us hl => match us, hl with | [_, _], _ => rfl
  have gN := PySem.W.mg_of X G aN
  have FO := fun_mk (st := sOne) lO cO kO
  have bO := FO.binds (ps := ["_law_source", "_law_some"]) fun _ _ _ _ _ _ us hl => match us, hl with | [_, _], _ => rfl
  have gO := PySem.W.mg_of X G aO
  have FC := fun_mk (st := sCell) lC cC kC
  have bC := FC.binds (ps := ["_law_script", "_law_index"]) fun _ _ _ _ _ _ us hl => match us, hl with | [_, _], _ => rfl
  have gC := PySem.W.mg_of X G aC
  have FSi := fun_mk (st := sSites) lSi cSi kSi
  have bSi := FSi.binds (ps := ["_law_source", "_law_most"]) fun _ _ _ _ _ _ us hl => match us, hl with | [_, _], _ => rfl
  have gSi := PySem.W.mg_of X G aSi
  have FLq := fun_mk (st := sLSq) lLq cLq kLq
  have bLq := FLq.binds (ps := ["_law_spot", "_law_site_here"]) fun _ _ _ _ _ _ us hl => match us, hl with | [_, _], _ => rfl
  have gLq := PySem.W.mg_of X G aLq
  have FLt := fun_mk (st := sLTurn) lLt cLt kLt
  have bLt := FLt.binds (ps := ["_law_aa", "_law_bb", "_law_cc"]) fun _ _ _ _ _ _ us hl => match us, hl with | [_, _, _], _ => rfl
  have gLt := PySem.W.mg_of X G aLt
  have FLc := fun_mk (st := sLCom) lLc cLc kLc
  have bLc := FLc.binds (ps := ["_law_aa", "_law_bb"]) fun _ _ _ _ _ _ us hl => match us, hl with | [_, _], _ => rfl
  have gLc := PySem.W.mg_of X G aLc
  have FLp := fun_mk (st := sLPl) lLp cLp kLp
  have bLp := FLp.binds (ps := ["_law_x", "_law_y", "_law_dd"]) fun _ _ _ _ _ _ us hl => match us, hl with | [_, _, _], _ => rfl
  have gLp := PySem.W.mg_of X G aLp
  have FLl := fun_mk (st := sLLift) lLl cLl kLl
  have bLl := FLl.binds (ps := ["_law_site_here"]) fun _ _ _ _ _ _ us hl => match us, hl with | [_], _ => rfl
  have gLl := PySem.W.mg_of X G aLl
  have FPl := fun_mk (st := sLPlane) lPl cPl kPl
  have bPl := FPl.binds (ps := ["_law_aa", "_law_bb", "_law_cc", "_law_dd"]) fun _ _ _ _ _ _ us hl => match us, hl with | [_, _, _, _], _ => rfl
  have gPl := PySem.W.mg_of X G aPl
  have FP := fun_mk (st := sLPlOf) lP cP kP
  have bP := FP.binds (ps := ["_law_source"]) fun _ _ _ _ _ _ us hl => match us, hl with | [_], _ => rfl
  have gP := PySem.W.mg_of X G aP
  have FR := fun_mk (st := sNearR) lR cR kR
  have bR := FR.binds (ps := ["_law_spot", "_law_aa", "_law_bb"]) fun _ _ _ _ _ _ us hl => match us, hl with | [_, _, _], _ => rfl
  have gR := PySem.W.mg_of X G aR
  have FL := fun_mk (st := sLaw) lL cL kL
  have mint := PySem.W.mg_none_of X G zint
  have misinstance := PySem.W.mg_none_of X G zisinstance
  have mtuple := PySem.W.mg_none_of X G ztuple
  have mlen := PySem.W.mg_none_of X G zlen
  have mabs := PySem.W.mg_none_of X G zabs
  have mrange := PySem.W.mg_none_of X G zrange
  have mgcd := PySem.W.mg_of X G ggcd
  have kbLs := kb_rev (ps := ["a", "b", "c", "d"]) (ks := ["d", "c", "b", "a"]) FLs (by decide) fun _ _ _ _ _ _ ws hl => match ws, hl with | [_, _, _, _], _ => rfl
  have kbSq := kb_rev (ps := ["place", "site"]) (ks := ["site", "place"]) FSq (by decide) fun _ _ _ _ _ _ ws hl => match ws, hl with | [_, _], _ => rfl
  have kbNe := kb_rev (ps := ["place", "a", "b"]) (ks := ["b", "a", "place"]) FNe (by decide) fun _ _ _ _ _ _ ws hl => match ws, hl with | [_, _, _], _ => rfl
  refine ⟨PySem.W.fnOf "law" "law" (defArgs sLaw) (defBody sLaw) (defScope sLaw) .none kVL dcL pmL anL cdL ctL, fun s v => .of_eq rfl, fun base _ _ => ?_⟩
  have GA := fun k => ok_tos (P := l.prog) (w := w) (base := base) (k := k) FA misinstance mtuple mint mlen
  have GSt := fun k => ok_issite (P := l.prog) (w := w) (base := base) (k := k) FSt misinstance mtuple mint mlen
  have GCk := fun k => ok_check (k := k) FCk (GSt k) gSt kSt bSt
  have GPc := fun k => ok_ispl (P := l.prog) (w := w) (base := base) (k := k + 1) FPc misinstance mtuple mint mlen mgcd
  have GCp := fun k => ok_checkp (k := k + 1) FCp (GPc k) gPc kPc bPc
  have GSg := fun k => ok_sign (P := l.prog) (w := w) (mg := mg) (base := base) (k := k) FSg
  have GF := fun k => ok_frac (P := l.prog) (w := w) (base := base) (k := k) FF mgcd
  have GCt := ok_cirt (k := 3) FCt (GF 3) gF kF bF mgcd
  have GH := ok_hov (P := l.prog) (w := w) (mg := mg) (base := base) (k := 4) FH
  have GSp := fun k => ok_spread (P := l.prog) (w := w) (mg := mg) (base := base) (k := k) FSp
  have GCi := ok_circle (k := 4) FCi (GA 4) gA kA bA GCt gCt kCt bCt
  have GLs := ok_lside (k := 4) FLs (GA 4) gA kA bA (GCk 3) gCk kCk bCk GH gH kH bH (GSg 4) gSg kSg bSg
  have GIc := ok_inc (k := 5) FIc GLs gLs kLs bLs
  have GSq := ok_square (k := 5) FSq (GCk 4) gCk kCk bCk (GCp 3) gCp kCp bCp (GSp 5) gSp kSp bSp (GF 5) gF kF bF
  have GNe := ok_nearer (k := 5) FNe (GCk 4) gCk kCk bCk (GCp 3) gCp kCp bCp (GSp 5) gSp kSp bSp (GSg 5) gSg kSg bSg
  have GSr := ok_src (P := l.prog) (w := w) (base := base) (k := 0) FSr mint
  have GN := ok_next (P := l.prog) (w := w) (base := base) (k := 0) FN mint
  have GO := ok_one (k := 0) FO GN gN kN bN mlen
  have GC := ok_cell (P := l.prog) (w := w) (mg := mg) (base := base) (k := 0) FC
  have GSi := ok_sites (k := 0) FSi GN gN kN bN GO gO kO bO mrange
  have GLq := ok_lsq (P := l.prog) (w := w) (mg := mg) (base := base) (k := 6) FLq
  have GLt := ok_lturn (P := l.prog) (w := w) (mg := mg) (base := base) (k := 0) FLt
  have GLc := fun k => ok_com (P := l.prog) (w := w) (base := base) (k := k) FLc mint mabs
  have GLp := ok_lpl (k := 0) FLp (GLc 0) gLc kLc bLc
  have GLl := ok_llift (P := l.prog) (w := w) (mg := mg) (base := base) (k := 0) FLl
  have GPl := ok_plane (k := 0) FPl GLl gLl kLl bLl mrange
  have GP := ok_lplof (k := 0) FP GN gN kN bN GO gO kO bO GLp gLp kLp bLp
  have GR := ok_nearr (k := 6) FR GLq gLq kLq bLq (GLc 6) gLc kLc bLc GSq gSq kSq bSq kbSq GNe gNe kNe bNe kbNe
  exact ok_law FL GC gC kC bC GSr gSr kSr bSr GN gN kN bN GO gO kO bO GSi gSi kSi bSi GP gP kP bP GR gR kR bR GLt gLt kLt bLt GLs gLs kLs bLs kbLs GPl gPl kPl bPl GIc gIc kIc bIc GCi gCi kCi bCi GNe gNe kNe bNe GSq gSq kSq bSq mrange
end NcK
open PySem PySem.W PyProof.Rows
set_option maxHeartbeats 0 in
theorem PySem.Challenge.cw_nearcells_k03_whole_lifts_and_nearness_holds : PySem.Challenge.rw_nearcells_k03_whole_lifts_and_nearness.Holds := by
  w_on; o_law; k_head; (case hw => w_witness2)
  k_fill
  refine L2.walk_of (l := PySem.Challenge.rw_nearcells_k03_whole_lifts_and_nearness) (n := 63) (k := 9) (x := "_law_script") (CX := fun _ => L2.CX0) (sp := fun w => NcK.spLaw _) rfl (by decide) rfl ⟨rfl, by decide, by decide⟩ (fun w h Y => PySem.W.kIn_of Y) ?F (fun _ _ a ns hl _ hS => ⟨a, ns, rfl, hS, hl, fun _ => rfl⟩) (fun _ _ _ _ _ h => h)
  case F =>
    intro w mg fa h KX G hmg
    refine' NcK.all_mk KX G hmg ?aSg ?lSg ?cSg ?kSg ?aF ?lF ?cF ?kF ?aSt ?lSt ?cSt ?kSt ?aA ?lA ?cA ?kA ?aPc ?lPc ?cPc ?kPc ?aCk ?lCk ?cCk ?kCk ?aCp ?lCp ?cCp ?kCp ?aCt ?lCt ?cCt ?kCt ?aH ?lH ?cH ?kH ?aSp ?lSp ?cSp ?kSp ?aCi ?lCi ?cCi ?kCi ?aIc ?lIc ?cIc ?kIc ?aLs ?lLs ?cLs ?kLs ?aSq ?lSq ?cSq ?kSq ?aNe ?lNe ?cNe ?kNe ?aSr ?lSr ?cSr ?kSr ?aN ?lN ?cN ?kN ?aO ?lO ?cO ?kO ?aC ?lC ?cC ?kC ?aSi ?lSi ?cSi ?kSi ?aLq ?lLq ?cLq ?kLq ?aLt ?lLt ?cLt ?kLt ?aLc ?lLc ?cLc ?kLc ?aLp ?lLp ?cLp ?kLp ?aLl ?lLl ?cLl ?kLl ?aPl ?lPl ?cPl ?kPl ?aP ?lP ?cP ?kP ?aR ?lR ?cR ?kR ?aL ?lL ?cL ?kL ?zint ?zisinstance ?ztuple ?zlen ?zabs ?zrange ?ggcd
    (case aSg => k_is); (case lSg => k_is); (case cSg => k_is); (case kSg => k_is); (case aF => k_is); (case lF => k_is); (case cF => k_is); (case kF => k_is); (case aSt => k_is); (case lSt => k_is); (case cSt => k_is); (case kSt => k_is); (case aA => k_is); (case lA => k_is); (case cA => k_is); (case kA => k_is); (case aPc => k_is); (case lPc => k_is); (case cPc => k_is); (case kPc => k_is); (case aCk => k_is); (case lCk => k_is); (case cCk => k_is); (case kCk => k_is); (case aCp => k_is); (case lCp => k_is); (case cCp => k_is); (case kCp => k_is); (case aCt => k_is); (case lCt => k_is); (case cCt => k_is); (case kCt => k_is); (case aH => k_is); (case lH => k_is); (case cH => k_is); (case kH => k_is); (case aSp => k_is); (case lSp => k_is); (case cSp => k_is); (case kSp => k_is); (case aCi => k_is); (case lCi => k_is); (case cCi => k_is); (case kCi => k_is); (case aIc => k_is); (case lIc => k_is); (case cIc => k_is); (case kIc => k_is); (case aLs => k_is); (case lLs => k_is); (case cLs => k_is); (case kLs => k_is); (case aSq => k_is); (case lSq => k_is); (case cSq => k_is); (case kSq => k_is); (case aNe => k_is); (case lNe => k_is); (case cNe => k_is); (case kNe => k_is); (case aSr => k_is); (case lSr => k_is); (case cSr => k_is); (case kSr => k_is); (case aN => k_is); (case lN => k_is); (case cN => k_is); (case kN => k_is); (case aO => k_is); (case lO => k_is); (case cO => k_is); (case kO => k_is); (case aC => k_is); (case lC => k_is); (case cC => k_is); (case kC => k_is); (case aSi => k_is); (case lSi => k_is); (case cSi => k_is); (case kSi => k_is); (case aLq => k_is); (case lLq => k_is); (case cLq => k_is); (case kLq => k_is); (case aLt => k_is); (case lLt => k_is); (case cLt => k_is); (case kLt => k_is); (case aLc => k_is); (case lLc => k_is); (case cLc => k_is); (case kLc => k_is); (case aLp => k_is); (case lLp => k_is); (case cLp => k_is); (case kLp => k_is); (case aLl => k_is); (case lLl => k_is); (case cLl => k_is); (case kLl => k_is); (case aPl => k_is); (case lPl => k_is); (case cPl => k_is); (case kPl => k_is); (case aP => k_is); (case lP => k_is); (case cP => k_is); (case kP => k_is); (case aR => k_is); (case lR => k_is); (case cR => k_is); (case kR => k_is); (case aL => k_is); (case lL => k_is); (case cL => k_is); (case kL => k_is); (case zint => k_is); (case zisinstance => k_is); (case ztuple => k_is); (case zlen => k_is); (case zabs => k_is); (case zrange => k_is); (case ggcd => k_is)
