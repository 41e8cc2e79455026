import PyProof.Rows.All
import Wide.All
import OpenK.AllK
import Wide.FinOn
import HandS.ForMost
import HandS.TupLe
import HandS.IsInst
import HandS.Wide
import HandS.Walk
import HandS.Gcd
import HandS.Codes
import HandS.Style
import KE.KMathG
import HandS.NoneIn
import HandS.CallLocal
import HandS.IterVal
import HandS.TupSets
import HandS.Iter
import PyProof.MinMaxWalk
import HandS.SetKeys
import PyProof.DictMoreH
import HandS.SortRule
import HandS.Comp
import PyProof.Rows.TupDisplay
import KE.KRevSl
import KE.DataMinMax
import KE.SortData
import HandS.Deep
import HandS.DictComp
import HandS.Zip
import HandS.DictTup
import HandS.Conv
import KE.KNestM
import KE.KLam
import PySem.Challenge.RW_nearcells_k07_whole_layers_and_sides_tha
set_option Elab.async false
set_option linter.all false
set_option maxRecDepth 100000
set_option maxHeartbeats 4000000
/-! Own rules: min and max of two things that are compared by the heap (pairs); a call by keywords alone. -/
namespace Nc
open PySem PySem.Spec PyProof.Rows L2
section
variable {prog : Program} {w : World} {A : Around} {E : Value → Shared → Prop} {s : Shared} {va vb : Value} {k : Bool}
/-- all that stood before stands -/
abbrev KeepH (h h' : Heap) : Prop := ∀ c o, h.get? c = some o → h'.get? c = some o


/-- the loop of min behind its first item: best so far vx (twice at S), one more item vy to come, or none -/
theorem min_round {R : Result → Shared → Prop} {I S T : Addr} {vx vy : Value} {its : Array Value} {b : Bool} {c i : Nat} {s : Shared} (hh : A.handled = none) (hIT : T ≠ I) (hIS : S ≠ I) (hST : S ≠ T)
    (hit : s.heap.IsTupleIter I T i ∧ s.heap.IsTuple T its) (hy : its[i]? = some vy) (hend : its.size = i + 1) (hS : s.heap.get? S = some { cls := .type "list", dict := none, data := .seq #[vx, vx] c, slots := #[] })
    (hc : ∀ h' tk, (∀ b o, b ≠ I → s.heap.get? b = some o → h'.get? b = some o) → Ob.RcOp .Lt A.in1 { s with heap := h', toks := tk } vy vx b)
    (hR : ∀ h' tk, (∀ b o, b ≠ I → b ≠ S → s.heap.get? b = some o → h'.get? b = some o) → R (.ok (.ret (if b = true then vy else vx))) { s with heap := h', toks := tk }) :
    codeAny (model prog w) A (.builtin "min.loop" ⟨[.ref I, .none, .ref S], []⟩) R s := by
  have nm : (toString "min" ++ toString ".loop" : String) = "min.loop" := by decide
  have W := Walks.tuple (prog := prog) (w := w) (A := A.in1) hh I T hIT its
  -- no item is left: vz is handed back
  have last : ∀ (vz : Value) (c' : Nat) (s1 : Shared), s1.heap.IsTupleIter I T (i + 1) ∧ s1.heap.IsTuple T its → s1.heap.get? S = some { cls := .type "list", dict := none, data := .seq #[vz, vz] c', slots := #[] } →
      (∀ h' tk, (∀ b o, b ≠ I → b ≠ S → s1.heap.get? b = some o → h'.get? b = some o) → R (.ok (.ret vz)) { s1 with heap := h', toks := tk }) → codeAny (model prog w) A (.builtin "min.loop" ⟨[.ref I, .none, .ref S], []⟩) R s1 := by
    intro vz c' s1 st1 g1 r1
    obtain ⟨hp, gg, dd, tt, os⟩ := s1
    refine codeAny_builtin PySem.F.entry_min_loop ?_
    rw [Around.under_plainId PySem.F.plain_min_loop _]
    refine wpAny_bind (wpAny_seqItems g1 rfl (wpAny_bind (wpAny_tryCatch (W.done _ _ _ (hend ▸ st1) fun hq tk hk => ?_))))
    have g2 := hk S _ (fun z => hIS (List.mem_singleton.mp z)) g1
    refine wpAny_bind (wpAny_updateSeq g2 rfl (wpAny_bind (wpAny_letGo (wpAny_pure ?_))))
    exact r1 _ tk fun d o n1 n2 e => (Heap.get?_update_other _ _ (Ne.symm n2)).trans (hk d o (fun z => n1 (List.mem_singleton.mp z)) e)
  obtain ⟨hp, gg, dd, tt, os⟩ := s
  refine codeAny_builtin PySem.F.entry_min_loop ?_
  rw [Around.under_plainId PySem.F.plain_min_loop _]
  refine wpAny_bind (wpAny_seqItems hS rfl (wpAny_bind (wpAny_tryCatch (W.item i _ _ _ (by omega) hit fun v hq tk hP st hk => ?_))))
  have ev : v = vy := Option.some.inj ((show its[i]? = some v from hP).symm.trans hy)
  subst ev
  have kk : ∀ d o, d ≠ I → hp.get? d = some o → hq.get? d = some o := fun d o n e => hk d o (fun z => n (List.mem_singleton.mp z)) e
  have g2 := kk S _ hIS hS
  refine wpAny_bind (wpAny_pure ?_)
  show wpAny _ _ (tryCatch (holding [v, v] (richCompare _ v vx >>= _)) _ >>= _) _ _ _
  refine wpAny_bind (wpAny_tryCatch (wpAny_holding (wpAny_bind ((hc hq tk kk) prog w _ _ ?_))))
  refine wpAny_bind (wpAny_holding (wpAny_truthy_bool (wpAny_bind (wpAny_letGo (wpAny_pure ?_)))))
  cases b with
  | true =>
    simp only [if_true]
    refine wpAny_bind (wpAny_updateSeq g2 rfl (wpAny_bind (wpAny_letGo ?_)))
    rw [nm]
    have fr : ∀ d o, d ≠ S → hq.get? d = some o → (hq.update S fun o => { o with data := .seq #[v, v] (c + 1) }).get? d = some o := fun d o n e => (Heap.get?_update_other _ _ (Ne.symm n)).trans e
    refine wpAny_pure ⟨plainId_quiet PySem.F.plain_min_loop _, last v _ _ (W.frame _ _ _ st fun d hd o e => ?_) (Heap.get?_update_self _ g2 rfl) fun h' tk' hk' => ?_⟩
    · refine (Heap.get?_update_other _ _ ?_).trans e
      intro z
      rcases List.mem_cons.mp hd with q | q
      · exact hIS (z.trans q)
      · exact hST (z.trans (List.mem_singleton.mp q))
    · exact hR h' tk' fun d o n1 n2 e => hk' d o n1 n2 ((Heap.get?_update_other _ _ (Ne.symm n2)).trans (kk d o n1 e))
  | false =>
    simp only [Bool.false_eq_true, if_false]
    refine wpAny_bind (wpAny_letGo ?_)
    rw [nm]
    refine wpAny_pure ⟨plainId_quiet PySem.F.plain_min_loop _, last vx _ _ st g2 fun h' tk' hk' => ?_⟩
    exact hR h' tk' fun d o n1 n2 e => hk' d o n1 n2 (kk d o n1 e)

theorem min2_by {Q : Value → Shared → Prop} (hh : A.handled = none)
    (hc : ∀ h' tk, KeepH s.heap h' → Ob.RcOp .Lt A.in1 { s with heap := h', toks := tk } vb va k)
    (hq : ∀ h' tk, KeepH s.heap h' → Q (if k = true then vb else va) { s with heap := h', toks := tk }) :
    wpAny (model prog w) A (call (.builtin "min") [va, vb]) Q E s := by
  have nm : (toString "min" ++ toString ".loop" : String) = "min.loop" := by decide
  obtain ⟨hp, gg, dd, tt, os⟩ := s
  refine call_function_tree PySem.F.kind_min PySem.F.plain_min PySem.F.entry_min (PySem.F.args_min2 _ _) ?_
  refine wpAny_bind (wpAny_of_eq (show Builtin.Builtins.bindParams "min" ["key", "default"] 0 ⟨[], []⟩ = pure [none, none] from rfl) ?_)
  show wpAny _ A.in1 (newTuple [va, vb] >>= _) _ _ _
  have hT : (hp.push { cls := .type "tuple", data := .seq #[va, vb] }).IsTuple hp.objs.size #[va, vb] := ⟨_, Heap.get?_push_size _ rfl, rfl, 0, rfl⟩
  have z1 : (hp.push { cls := .type "tuple", data := .seq #[va, vb] }).objs.size = hp.objs.size + 1 := Heap.size_push ..
  have k1 : KeepH hp (hp.push { cls := .type "tuple", data := .seq #[va, vb] }) := fun c o e => Heap.get?_push_of_some _ e
  refine wpAny_bind (wpAny_newObj_type (wpAny_bind (wpAny_pyIter_tuple hT (wpAny_bind (wpAny_newObj_type ?_)))))
  generalize hp.push { cls := .type "tuple", data := .seq #[va, vb] } = h1 at *
  generalize eT : hp.objs.size = T at *
  generalize eI : h1.objs.size = I at *
  have gI : (h1.push { cls := .type "tuple_iterator", data := .fields #[.ref T, .int 0 0] }).get? I = some { cls := .type "tuple_iterator", data := .fields #[.ref T, .int 0 0] } := by
    rw [← eI]
    exact Heap.get?_push_size _ rfl
  have k2 : KeepH h1 (h1.push { cls := .type "tuple_iterator", data := .fields #[.ref T, .int 0 0] }) := fun c o e => Heap.get?_push_of_some _ e
  have z2 : (h1.push { cls := .type "tuple_iterator", data := .fields #[.ref T, .int 0 0] }).objs.size = I + 1 := by
    rw [← eI]
    exact Heap.size_push ..
  have hIT : T ≠ I := by omega
  obtain ⟨oT, gT, cT, nT, dT⟩ := hT
  generalize h1.push { cls := .type "tuple_iterator", data := .fields #[.ref T, .int 0 0] } = h2 at *
  have gS : (h2.push { cls := .type "list", data := .seq #[] }).get? h2.objs.size = some { cls := .type "list", data := .seq #[] } := Heap.get?_push_size _ rfl
  have k3 : KeepH h2 (h2.push { cls := .type "list", data := .seq #[] }) := fun c o e => Heap.get?_push_of_some _ e
  show wpAny _ _ (pure (Fin.again (Code.builtin (toString "min" ++ toString ".loop") ⟨[.ref I, .none, .ref h2.objs.size], []⟩))) _ _ ⟨h2.push { cls := .type "list", data := .seq #[] }, gg, dd, tt, os⟩
  rw [nm]
  generalize eS : h2.objs.size = S at *
  generalize h2.push { cls := .type "list", data := .seq #[] } = h3 at *
  have hIS : S ≠ I := by
    omega
  have hST : S ≠ T := by omega
  have W := Walks.tuple (prog := prog) (w := w) (A := A.in1) hh I T hIT #[va, vb]
  refine wpAny_pure ⟨plainId_quiet PySem.F.plain_min_loop _, ?_⟩
  refine codeAny_builtin PySem.F.entry_min_loop ?_
  rw [Around.under_plainId PySem.F.plain_min_loop _]
  have st0 : h3.IsTupleIter I T 0 ∧ h3.IsTuple T #[va, vb] := ⟨⟨_, k3 _ _ gI, rfl, rfl⟩, ⟨oT, k3 _ _ (k2 _ _ gT), cT, nT, dT⟩⟩
  refine wpAny_bind (wpAny_seqItems gS rfl (wpAny_bind (wpAny_tryCatch (W.item 0 ⟨h3, gg, dd, tt, os⟩ _ _ (by show 0 < 2; decide) st0 fun v hq' tk hP st hk => ?_))))
  have ev : v = va := (Option.some.inj (show some va = some v from hP)).symm
  subst ev
  refine wpAny_bind (wpAny_pure ?_)
  have kk : ∀ d o, d ≠ I → h3.get? d = some o → hq'.get? d = some o := fun d o n e => hk d o (fun z => n (List.mem_singleton.mp z)) e
  have g2 := kk S _ hIS gS
  show wpAny _ _ (updateSeq S (fun _ => #[v, v]) >>= _) _ _ _
  refine wpAny_bind (wpAny_updateSeq g2 rfl ?_)
  rw [nm]
  have all : ∀ d o, hp.get? d = some o → d ≠ I ∧ d ≠ S ∧ hq'.get? d = some o := fun d o e => by
    have l : d < T := eT ▸ Heap.lt_size e
    have lI : T < I := by omega
    have lS : T < S := by omega
    have n1 : d ≠ I := Nat.ne_of_lt (Nat.lt_trans l lI)
    exact ⟨n1, Nat.ne_of_lt (Nat.lt_trans l lS), kk d o n1 (k3 _ _ (k2 _ _ (k1 _ _ e)))⟩
  refine wpAny_pure ⟨plainId_quiet PySem.F.plain_min_loop _, min_round (i := 1) (its := #[v, vb]) (vy := vb) (vx := v) (T := T) (b := k) hh hIT hIS hST ?_ rfl rfl (Heap.get?_update_self _ g2 rfl) (fun h' tk' kp => ?_) fun h' tk' kp => ?_⟩
  · refine W.frame _ _ _ st fun d hd o e => (Heap.get?_update_other _ _ ?_).trans e
    intro z
    rcases List.mem_cons.mp hd with q | q
    · exact hIS (z.trans q)
    · exact hST (z.trans (List.mem_singleton.mp q))
  · refine hc h' tk' fun d o e => ?_
    obtain ⟨n1, n2, e2⟩ := all d o e
    exact kp d o n1 ((Heap.get?_update_other _ _ (Ne.symm n2)).trans e2)
  · refine hq h' tk' fun d o e => ?_
    obtain ⟨n1, n2, e2⟩ := all d o e
    exact kp d o n1 n2 ((Heap.get?_update_other _ _ (Ne.symm n2)).trans e2)


/-- the loop of max behind its first item: best so far vx (twice at S), one more item vy to come, or none -/
theorem max_round {R : Result → Shared → Prop} {I S T : Addr} {vx vy : Value} {its : Array Value} {b : Bool} {c i : Nat} {s : Shared} (hh : A.handled = none) (hIT : T ≠ I) (hIS : S ≠ I) (hST : S ≠ T)
    (hit : s.heap.IsTupleIter I T i ∧ s.heap.IsTuple T its) (hy : its[i]? = some vy) (hend : its.size = i + 1) (hS : s.heap.get? S = some { cls := .type "list", dict := none, data := .seq #[vx, vx] c, slots := #[] })
    (hc : ∀ h' tk, (∀ b o, b ≠ I → s.heap.get? b = some o → h'.get? b = some o) → Ob.RcOp .Gt A.in1 { s with heap := h', toks := tk } vy vx b)
    (hR : ∀ h' tk, (∀ b o, b ≠ I → b ≠ S → s.heap.get? b = some o → h'.get? b = some o) → R (.ok (.ret (if b = true then vy else vx))) { s with heap := h', toks := tk }) :
    codeAny (model prog w) A (.builtin "max.loop" ⟨[.ref I, .none, .ref S], []⟩) R s := by
  have nm : (toString "max" ++ toString ".loop" : String) = "max.loop" := by decide
  have W := Walks.tuple (prog := prog) (w := w) (A := A.in1) hh I T hIT its
  -- no item is left: vz is handed back
  have last : ∀ (vz : Value) (c' : Nat) (s1 : Shared), s1.heap.IsTupleIter I T (i + 1) ∧ s1.heap.IsTuple T its → s1.heap.get? S = some { cls := .type "list", dict := none, data := .seq #[vz, vz] c', slots := #[] } →
      (∀ h' tk, (∀ b o, b ≠ I → b ≠ S → s1.heap.get? b = some o → h'.get? b = some o) → R (.ok (.ret vz)) { s1 with heap := h', toks := tk }) → codeAny (model prog w) A (.builtin "max.loop" ⟨[.ref I, .none, .ref S], []⟩) R s1 := by
    intro vz c' s1 st1 g1 r1
    obtain ⟨hp, gg, dd, tt, os⟩ := s1
    refine codeAny_builtin PySem.F.entry_max_loop ?_
    rw [Around.under_plainId PySem.F.plain_max_loop _]
    refine wpAny_bind (wpAny_seqItems g1 rfl (wpAny_bind (wpAny_tryCatch (W.done _ _ _ (hend ▸ st1) fun hq tk hk => ?_))))
    have g2 := hk S _ (fun z => hIS (List.mem_singleton.mp z)) g1
    refine wpAny_bind (wpAny_updateSeq g2 rfl (wpAny_bind (wpAny_letGo (wpAny_pure ?_))))
    exact r1 _ tk fun d o n1 n2 e => (Heap.get?_update_other _ _ (Ne.symm n2)).trans (hk d o (fun z => n1 (List.mem_singleton.mp z)) e)
  obtain ⟨hp, gg, dd, tt, os⟩ := s
  refine codeAny_builtin PySem.F.entry_max_loop ?_
  rw [Around.under_plainId PySem.F.plain_max_loop _]
  refine wpAny_bind (wpAny_seqItems hS rfl (wpAny_bind (wpAny_tryCatch (W.item i _ _ _ (by omega) hit fun v hq tk hP st hk => ?_))))
  have ev : v = vy := Option.some.inj ((show its[i]? = some v from hP).symm.trans hy)
  subst ev
  have kk : ∀ d o, d ≠ I → hp.get? d = some o → hq.get? d = some o := fun d o n e => hk d o (fun z => n (List.mem_singleton.mp z)) e
  have g2 := kk S _ hIS hS
  refine wpAny_bind (wpAny_pure ?_)
  show wpAny _ _ (tryCatch (holding [v, v] (richCompare _ v vx >>= _)) _ >>= _) _ _ _
  refine wpAny_bind (wpAny_tryCatch (wpAny_holding (wpAny_bind ((hc hq tk kk) prog w _ _ ?_))))
  refine wpAny_bind (wpAny_holding (wpAny_truthy_bool (wpAny_bind (wpAny_letGo (wpAny_pure ?_)))))
  cases b with
  | true =>
    simp only [if_true]
    refine wpAny_bind (wpAny_updateSeq g2 rfl (wpAny_bind (wpAny_letGo ?_)))
    rw [nm]
    have fr : ∀ d o, d ≠ S → hq.get? d = some o → (hq.update S fun o => { o with data := .seq #[v, v] (c + 1) }).get? d = some o := fun d o n e => (Heap.get?_update_other _ _ (Ne.symm n)).trans e
    refine wpAny_pure ⟨plainId_quiet PySem.F.plain_max_loop _, last v _ _ (W.frame _ _ _ st fun d hd o e => ?_) (Heap.get?_update_self _ g2 rfl) fun h' tk' hk' => ?_⟩
    · refine (Heap.get?_update_other _ _ ?_).trans e
      intro z
      rcases List.mem_cons.mp hd with q | q
      · exact hIS (z.trans q)
      · exact hST (z.trans (List.mem_singleton.mp q))
    · exact hR h' tk' fun d o n1 n2 e => hk' d o n1 n2 ((Heap.get?_update_other _ _ (Ne.symm n2)).trans (kk d o n1 e))
  | false =>
    simp only [Bool.false_eq_true, if_false]
    refine wpAny_bind (wpAny_letGo ?_)
    rw [nm]
    refine wpAny_pure ⟨plainId_quiet PySem.F.plain_max_loop _, last vx _ _ st g2 fun h' tk' hk' => ?_⟩
    exact hR h' tk' fun d o n1 n2 e => hk' d o n1 n2 (kk d o n1 e)

theorem max2_by {Q : Value → Shared → Prop} (hh : A.handled = none)
    (hc : ∀ h' tk, KeepH s.heap h' → Ob.RcOp .Gt A.in1 { s with heap := h', toks := tk } vb va k)
    (hq : ∀ h' tk, KeepH s.heap h' → Q (if k = true then vb else va) { s with heap := h', toks := tk }) :
    wpAny (model prog w) A (call (.builtin "max") [va, vb]) Q E s := by
  have nm : (toString "max" ++ toString ".loop" : String) = "max.loop" := by decide
  obtain ⟨hp, gg, dd, tt, os⟩ := s
  refine call_function_tree PySem.F.kind_max PySem.F.plain_max PySem.F.entry_max (PySem.F.args_max2 _ _) ?_
  refine wpAny_bind (wpAny_of_eq (show Builtin.Builtins.bindParams "max" ["key", "default"] 0 ⟨[], []⟩ = pure [none, none] from rfl) ?_)
  show wpAny _ A.in1 (newTuple [va, vb] >>= _) _ _ _
  have hT : (hp.push { cls := .type "tuple", data := .seq #[va, vb] }).IsTuple hp.objs.size #[va, vb] := ⟨_, Heap.get?_push_size _ rfl, rfl, 0, rfl⟩
  have z1 : (hp.push { cls := .type "tuple", data := .seq #[va, vb] }).objs.size = hp.objs.size + 1 := Heap.size_push ..
  have k1 : KeepH hp (hp.push { cls := .type "tuple", data := .seq #[va, vb] }) := fun c o e => Heap.get?_push_of_some _ e
  refine wpAny_bind (wpAny_newObj_type (wpAny_bind (wpAny_pyIter_tuple hT (wpAny_bind (wpAny_newObj_type ?_)))))
  generalize hp.push { cls := .type "tuple", data := .seq #[va, vb] } = h1 at *
  generalize eT : hp.objs.size = T at *
  generalize eI : h1.objs.size = I at *
  have gI : (h1.push { cls := .type "tuple_iterator", data := .fields #[.ref T, .int 0 0] }).get? I = some { cls := .type "tuple_iterator", data := .fields #[.ref T, .int 0 0] } := by
    rw [← eI]
    exact Heap.get?_push_size _ rfl
  have k2 : KeepH h1 (h1.push { cls := .type "tuple_iterator", data := .fields #[.ref T, .int 0 0] }) := fun c o e => Heap.get?_push_of_some _ e
  have z2 : (h1.push { cls := .type "tuple_iterator", data := .fields #[.ref T, .int 0 0] }).objs.size = I + 1 := by
    rw [← eI]
    exact Heap.size_push ..
  have hIT : T ≠ I := by omega
  obtain ⟨oT, gT, cT, nT, dT⟩ := hT
  generalize h1.push { cls := .type "tuple_iterator", data := .fields #[.ref T, .int 0 0] } = h2 at *
  have gS : (h2.push { cls := .type "list", data := .seq #[] }).get? h2.objs.size = some { cls := .type "list", data := .seq #[] } := Heap.get?_push_size _ rfl
  have k3 : KeepH h2 (h2.push { cls := .type "list", data := .seq #[] }) := fun c o e => Heap.get?_push_of_some _ e
  show wpAny _ _ (pure (Fin.again (Code.builtin (toString "max" ++ toString ".loop") ⟨[.ref I, .none, .ref h2.objs.size], []⟩))) _ _ ⟨h2.push { cls := .type "list", data := .seq #[] }, gg, dd, tt, os⟩
  rw [nm]
  generalize eS : h2.objs.size = S at *
  generalize h2.push { cls := .type "list", data := .seq #[] } = h3 at *
  have hIS : S ≠ I := by
    omega
  have hST : S ≠ T := by omega
  have W := Walks.tuple (prog := prog) (w := w) (A := A.in1) hh I T hIT #[va, vb]
  refine wpAny_pure ⟨plainId_quiet PySem.F.plain_max_loop _, ?_⟩
  refine codeAny_builtin PySem.F.entry_max_loop ?_
  rw [Around.under_plainId PySem.F.plain_max_loop _]
  have st0 : h3.IsTupleIter I T 0 ∧ h3.IsTuple T #[va, vb] := ⟨⟨_, k3 _ _ gI, rfl, rfl⟩, ⟨oT, k3 _ _ (k2 _ _ gT), cT, nT, dT⟩⟩
  refine wpAny_bind (wpAny_seqItems gS rfl (wpAny_bind (wpAny_tryCatch (W.item 0 ⟨h3, gg, dd, tt, os⟩ _ _ (by show 0 < 2; decide) st0 fun v hq' tk hP st hk => ?_))))
  have ev : v = va := (Option.some.inj (show some va = some v from hP)).symm
  subst ev
  refine wpAny_bind (wpAny_pure ?_)
  have kk : ∀ d o, d ≠ I → h3.get? d = some o → hq'.get? d = some o := fun d o n e => hk d o (fun z => n (List.mem_singleton.mp z)) e
  have g2 := kk S _ hIS gS
  show wpAny _ _ (updateSeq S (fun _ => #[v, v]) >>= _) _ _ _
  refine wpAny_bind (wpAny_updateSeq g2 rfl ?_)
  rw [nm]
  have all : ∀ d o, hp.get? d = some o → d ≠ I ∧ d ≠ S ∧ hq'.get? d = some o := fun d o e => by
    have l : d < T := eT ▸ Heap.lt_size e
    have lI : T < I := by omega
    have lS : T < S := by omega
    have n1 : d ≠ I := Nat.ne_of_lt (Nat.lt_trans l lI)
    exact ⟨n1, Nat.ne_of_lt (Nat.lt_trans l lS), kk d o n1 (k3 _ _ (k2 _ _ (k1 _ _ e)))⟩
  refine wpAny_pure ⟨plainId_quiet PySem.F.plain_max_loop _, max_round (i := 1) (its := #[v, vb]) (vy := vb) (vx := v) (T := T) (b := k) hh hIT hIS hST ?_ rfl rfl (Heap.get?_update_self _ g2 rfl) (fun h' tk' kp => ?_) fun h' tk' kp => ?_⟩
  · refine W.frame _ _ _ st fun d hd o e => (Heap.get?_update_other _ _ ?_).trans e
    intro z
    rcases List.mem_cons.mp hd with q | q
    · exact hIS (z.trans q)
    · exact hST (z.trans (List.mem_singleton.mp q))
  · refine hc h' tk' fun d o e => ?_
    obtain ⟨n1, n2, e2⟩ := all d o e
    exact kp d o n1 ((Heap.get?_update_other _ _ (Ne.symm n2)).trans e2)
  · refine hq h' tk' fun d o e => ?_
    obtain ⟨n1, n2, e2⟩ := all d o e
    exact kp d o n1 n2 ((Heap.get?_update_other _ _ (Ne.symm n2)).trans e2)

end
/-! ### min(t, u), max(t, u) of two tuples of ints -/
/-- t < u by the model's own look from place to place -/
def lexP (lt : Int → Int → Bool) (e : Bool) (ns ms : List Int) : Bool := Ob.lexAt (fun j => decide (ns.getD j 0 = ms.getD j 0)) (fun j => lt (ns.getD j 0) (ms.getD j 0)) e 0 (min ns.length ms.length)
section
variable {X : Cx}
theorem tup_ops {s : Shared} {pins : List (Addr × Obj)} {σ : L2.St} {H : Hp} {a b : Addr} {ns ms : List Int} (I : L2.Inv X pins σ H s) (ha : H a = some (.tup (ns.map V.int))) (hb : H b = some (.tup (ms.map V.int))) (hu : X.A.units + 1 < cLine) (h' : Heap) (tk : Nat) (kp : KeepH s.heap h') :
    Ob.RcOp .Lt X.A.in1 { s with heap := h', toks := tk } (.ref a) (.ref b) (lexP (fun x y => decide (x < y)) (decide (ns.length < ms.length)) ns ms) ∧
    Ob.RcOp .Gt X.A.in1 { s with heap := h', toks := tk } (.ref a) (.ref b) (lexP (fun x y => decide (x > y)) (decide (ns.length > ms.length)) ns ms) := by
  obtain ⟨its, r1, p1, _⟩ := I.tuple (SqT.of ha)
  obtain ⟨its2, r2, p2, _⟩ := I.tuple (SqT.of hb)
  have i1 : IntsAre its ns := Vals.ints r1
  have i2 : IntsAre its2 ms := Vals.ints r2
  have e1 : its.toArray.size = ns.length := by rw [List.size_toArray]; exact i1.length
  have e2 : its2.toArray.size = ms.length := by rw [List.size_toArray]; exact i2.length
  obtain ⟨o1, g1, c1, n1, d1⟩ := p1
  obtain ⟨o2, g2, c2, n2, d2⟩ := p2
  have q1 : Heap.IsTuple h' a its.toArray := ⟨o1, kp _ _ g1, c1, n1, d1⟩
  have q2 : Heap.IsTuple h' b its2.toArray := ⟨o2, kp _ _ g2, c2, n2, d2⟩
  have at1 : ∀ j (h1 : j < its.toArray.size), ∃ t, its.toArray[j] = .int (ns.getD j 0) t := fun j h1 => PyProof.Rows.IntsAre.int_at i1 _ _ (by simp at h1; simp [h1])
  have at2 : ∀ j (h1 : j < its2.toArray.size), ∃ t, its2.toArray[j] = .int (ms.getD j 0) t := fun j h1 => PyProof.Rows.IntsAre.int_at i2 _ _ (by simp at h1; simp [h1])
  have eqs : ∀ (B : Around) (s2 : Shared) j (h1 : j < its.toArray.size) (h2 : j < its2.toArray.size), SeqAt.EqAt B s2 its.toArray[j] its2.toArray[j] (decide (ns.getD j 0 = ms.getD j 0)) := fun B s2 j h1 h2 => by
    obtain ⟨t, et⟩ := at1 j h1
    obtain ⟨t', et'⟩ := at2 j h2
    rw [et, et', ← Bool.beq_eq_decide_eq]
    exact SeqAt.EqAt.int_int _ _ _ _
  constructor
  · have R := Ob.RcOp.tuples_lt (A := X.A.in1) (s := { s with heap := h', toks := tk }) (e := fun j => decide (ns.getD j 0 = ms.getD j 0)) (r := fun j => decide (ns.getD j 0 < ms.getD j 0)) q1 q2 hu (eqs _ _) (fun j h1 h2 _ => by
      obtain ⟨t, et⟩ := at1 j h1
      obtain ⟨t', et'⟩ := at2 j h2
      rw [et, et']
      exact Ob.RcOp.lt_int _ _ _ _)
    rw [e1, e2] at R
    exact R
  · have R := Ob.RcOp.tuples_gt (A := X.A.in1) (s := { s with heap := h', toks := tk }) (e := fun j => decide (ns.getD j 0 = ms.getD j 0)) (r := fun j => decide (ns.getD j 0 > ms.getD j 0)) q1 q2 hu (eqs _ _) (fun j h1 h2 _ => by
      obtain ⟨t, et⟩ := at1 j h1
      obtain ⟨t', et'⟩ := at2 j h2
      rw [et, et']
      exact Ob.RcOp.gt_int _ _ _ _)
    rw [e1, e2] at R
    exact R
/-- min(t, u), max(t, u), both tracked tuples of ints: one of the two themselves -/
def rBest (lt : List Int → List Int → Bool) : List V → Hp → VK → Prop := fun xs H Q => ∃ (a b : Addr) (ns ms : List Int), xs = [.ref a, .ref b] ∧ H a = some (.tup (ns.map V.int)) ∧ H b = some (.tup (ms.map V.int)) ∧ Q (.ref (if lt ms ns = true then b else a)) H
theorem call_minT (hc : X.calm = true) (hu : X.A.units + 1 < cLine) : CallR X (.builtin "min") (rBest fun ns ms => lexP (fun x y => decide (x < y)) (decide (ns.length < ms.length)) ns ms) := by
  intro pins s σ H xs us Q I r h
  obtain ⟨a, b, ns, ms, rfl, ha, hb, q⟩ := h
  obtain ⟨u, w', rfl, r1, r2⟩ := vals2 r
  cases r1
  cases r2
  refine min2_by (I.ok.hd hc) (fun h' tk kp => (tup_ops I hb ha hu h' tk kp).1) fun h' tk kp => ⟨_, H, I.kept kp, ?_, q⟩
  split <;> rfl
theorem call_maxT (hc : X.calm = true) (hu : X.A.units + 1 < cLine) : CallR X (.builtin "max") (rBest fun ns ms => lexP (fun x y => decide (x > y)) (decide (ns.length > ms.length)) ns ms) := by
  intro pins s σ H xs us Q I r h
  obtain ⟨a, b, ns, ms, rfl, ha, hb, q⟩ := h
  obtain ⟨u, w', rfl, r1, r2⟩ := vals2 r
  cases r1
  cases r2
  refine max2_by (I.ok.hd hc) (fun h' tk kp => (tup_ops I hb ha hu h' tk kp).2) fun h' tk kp => ⟨_, H, I.kept kp, ?_, q⟩
  split <;> rfl
end
/-! ### f(k = v, ..), keywords alone -/
section
variable {X : Cx} {CX : CXT} {k : Nat} {f : Addr} {fd : FuncData} {ps ks : List Str} {sp : Sp} {x : Str} {p pos : Pos} {E : XK} {tk : TA} {kws : List Keyword} {g : List Value → List Value → List Value} {gV : List V → List V → List V}
theorem pe_callKw (F : FnOk X.prog X.w X.K X.mg X.base CX k f fd ps sp) (hr : Room k X.A) (hg : Gl X x) (hm : X.mg x = some (.ref f)) (hk : PySem.W.keepIn X.K (.ref f) = true) (hb : KBinds X.K fd ps ks g gV) (hx : Passes CX X E)
    (hkw : PK X kws tk) (hall : (backToKw pos (keywordEach kws X.env)).all (·.1.isSome) = true := by rfl) (hks : (backToKw pos (keywordEach kws X.env)).filterMap (·.1) = ks := by rfl)
    (hdb : (x == ("__debug__" : Str)) = false := by decide) (hpl : ((backTo pos (starEach [] X.env)).any (·.1) || (backToKw pos (keywordEach kws X.env)).any (·.1.isNone)) = false := by rfl) :
    PE X (.Call (.Name x p) [] kws pos) (fun σ H Q => tk σ H fun zs H2 => sp (gV [] zs) H2 Q E) := by
  refine ⟨fun pins s σ H Q I h => ?_⟩
  refine wpAny_Call_Name_kw (ld_glob I hg hm ?_ hdb)
  refine PySem.W.callWith_KW0 (h₀ := X.base) I.ok.mod.kin hk hall (thn (hkw.run pos pins s σ H _ I h) fun ws s2 ⟨zs, H2, I2, rz, q2⟩ => ⟨I2.kIn, ?_⟩) hpl
  rw [hks]
  exact run_fnk (us := []) (vs := []) F hr hb hx I2 .nil rz q2
end
/-! ### what a source is, and what a step leaves -/
/-- a source at s: three ints -/
def Src (H : Hp) (s : Addr) : Prop := ∃ a b c : Int, H s = some (.lst [.int a, .int b, .int c])
theorem Src.ne {H : Hp} {s p : Addr} {o : HO} (h : Src H s) (e : H p = some o) (d : ∀ a b c : Int, o ≠ .lst [.int a, .int b, .int c]) : p ≠ s := by
  obtain ⟨a, b, c, q⟩ := h
  exact ne_of e q (d a b c)
theorem Src.nen {H : Hp} {s p : Addr} (h : Src H s) (e : H p = none) : p ≠ s := by
  obtain ⟨a, b, c, q⟩ := h
  exact (ne_of_none q e).symm
/-- from H to H' all stands but the source at s, which is still one -/
structure Stp (s : Addr) (H H' : Hp) : Prop where
  keep : ∀ b o, b ≠ s → H b = some o → H' b = some o
  src : Src H' s
theorem Stp.refl {s : Addr} {H : Hp} (h : Src H s) : Stp s H H := ⟨fun _ _ _ e => e, h⟩
theorem Stp.trans {s : Addr} {H H1 H2 : Hp} (a : Stp s H H1) (b : Stp s H1 H2) : Stp s H H2 := ⟨fun c o n e => b.keep c o n (a.keep c o n e), b.src⟩
theorem Stp.new {s : Addr} {H H' : Hp} {p : Addr} {o : HO} (a : Stp s H H') (n : H' p = none) : Stp s H (upd H' p o) := by
  obtain ⟨x, y, z, e⟩ := a.src
  refine ⟨fun b u nb eb => ?_, x, y, z, ?_⟩
  · have q := a.keep b u nb eb
    rw [upd_ne (ne_of_none q n)]
    exact q
  · rw [upd_ne (ne_of_none e n)]
    exact e
theorem Stp.turn {s : Addr} {H H' : Hp} (a : Stp s H H') (x y z : Int) : Stp s H (upd H' s (.lst [.int x, .int y, .int z])) :=
  ⟨fun b u nb eb => by rw [upd_ne nb]; exact a.keep b u nb eb, x, y, z, upd_same⟩
theorem Stp.free {s p : Addr} {H H' : Hp} (a : Stp s H H') (n : H' p = none) : H p = none := by
  cases q : H p with
  | none => rfl
  | some o =>
    have np : p ≠ s := a.src.nen n
    rw [a.keep _ _ np q] at n
    cases n
theorem Stp.set {s : Addr} {H H' : Hp} {p : Addr} {o : HO} (a : Stp s H H') (n : H p = none) (np : p ≠ s) : Stp s H (upd H' p o) := by
  obtain ⟨x, y, z, e⟩ := a.src
  refine ⟨fun b u nb eb => ?_, x, y, z, ?_⟩
  · rw [upd_ne (ne_of_none eb n)]
    exact a.keep b u nb eb
  · rw [upd_ne np.symm]
    exact e
/-- a site at t -/
def Sit (H : Hp) (t : Addr) (x y : Int) : Prop := H t = some (.tup [.int x, .int y])
theorem Sit.ne {H : Hp} {s t : Addr} {x y : Int} (h : Sit H t x y) (q : Src H s) : t ≠ s := q.ne h fun _ _ _ z => by cases z
theorem Sit.stp {H H' : Hp} {s t : Addr} {x y : Int} (h : Sit H t x y) (q : Src H s) (a : Stp s H H') : Sit H' t x y := a.keep _ _ (h.ne q) h
theorem Sit.same {H H' : Hp} {t : Addr} {x y : Int} (h : Sit H t x y) (a : Same H H') : Sit H' t x y := a _ _ h

theorem b2i_small (b : Bool) : -(2 ^ 64) < (if b = true then (1 : Int) else 0) ∧ (if b = true then (1 : Int) else 0) < 2 ^ 64 := by cases b <;> decide
theorem sm {m : Int} (h : m.natAbs < 2 ^ 64) : m.natAbs < 2 ^ 8000 := Nat.lt_of_lt_of_le h (Nat.pow_le_pow_right (by decide) (by decide))
theorem Same.upd {H : Hp} {p : Addr} {o : HO} (h : H p = none) : Same H (upd H p o) := fun b x e => by
  rw [upd_ne (ne_of_none e h)]
  exact e
theorem Stp.same {s : Addr} {H H1 H2 : Hp} (a : Stp s H H1) (b : Same H1 H2) : Stp s H H2 := by
  obtain ⟨x, y, z, e⟩ := a.src
  exact ⟨fun c o n q => b _ _ (a.keep c o n q), x, y, z, b _ _ e⟩
/-! ### ** 2 and // of great numbers, of either sign -/
def CSq (i j : Int) : Prop := j = 2 ∧ i.natAbs < 2 ^ 1000
theorem op_sq {X : Cx} : OpR X (binaryOp .Pow) (rI CSq fun i _ => .int (i * i)) := opI fun i j _ _ _ _ _ hc q => by
  obtain ⟨rfl, hb⟩ := hc
  refine pow_int (by decide) ?_ (by rw [show i ^ (2 : Int).toNat = i * i from Int.pow_succ i 1 ▸ by rw [Int.pow_one]]; exact q)
  have b : Builtin.Int.intBits i ≤ i.natAbs.log2 + 1 := by
    unfold Builtin.Int.intBits
    split <;> omega
  have l := PySem.Flt.log2_lt_of (by decide : 0 < 1000) hb
  omega
def CDivE (_ j : Int) : Prop := j ≠ 0 ∧ j.natAbs < 2 ^ 8000
theorem op_fdivE {X : Cx} : OpR X (binaryOp .FloorDiv) (rI CDivE fun i j => .int (i.fdiv j)) := opI fun i j _ _ _ _ _ hc q =>
  floordiv_int hc.1 q (.inl (PyProof.noPylong_of_log2 (Nat.lt_of_lt_of_le (PySem.Flt.log2_lt_of (by decide) hc.2) (by decide))))
/-! ### readings made weaker -/
theorem peOf {X : Cx} {e : Expr} {t t' : TE} (h : PE X e t) (m : ∀ σ H Q, t' σ H Q → t σ H Q) : PE X e t' := ⟨fun pins s σ H Q I hw => h.run pins s σ H Q I (m σ H Q hw)⟩
theorem paOf {X : Cx} {es : List Expr} {t t' : TA} (h : PA X es t) (m : ∀ σ H Q, t' σ H Q → t σ H Q) : PA X es t' := ⟨fun pos pins s σ H Q I hw => h.run pos pins s σ H Q I (m σ H Q hw)⟩
theorem psOf {X : Cx} {st : Stmt} {t t' : TS} (h : PS X st t) (m : ∀ D σ H, t' D σ H → t D σ H) : PS X st t' := ⟨fun pins s σ H D I hw => h.run pins s σ H D I (m D σ H hw)⟩
theorem pssOf {X : Cx} {st : List Stmt} {t t' : TS} (h : PSs X st t) (m : ∀ D σ H, t' D σ H → t D σ H) : PSs X st t' := ⟨fun pins s σ H D I hw => h.run pins s σ H D I (m D σ H hw)⟩
/-- a written number with a minus -/
theorem pe_neg {X : Cx} {i : Int} {j : Nat} {p p2 : Pos} : PE X (.UnaryOp .USub (.Constant (.int i) j p) p2) (tC (.int (-i))) := peOf (pe_un un_neg pe_int) fun _ _ _ h => ⟨_, rfl, h⟩
/-! ### displays of sites -/
def Bd (b x y : Int) : Prop := -b ≤ x ∧ x ≤ b ∧ -b ≤ y ∧ y ≤ b
theorem Bd.mono {b c x y : Int} (h : Bd b x y) (l : b ≤ c) : Bd c x y := by
  obtain ⟨h1, h2, h3, h4⟩ := h
  exact ⟨by omega, by omega, by omega, by omega⟩
/-- every address of ps a site within b -/
def Sits (b : Int) (H : Hp) (ps : List Addr) : Prop := ∀ p ∈ ps, ∃ x y, Sit H p x y ∧ Bd b x y
theorem Sits.same {b : Int} {H H' : Hp} {ps : List Addr} (h : Sits b H ps) (a : Same H H') : Sits b H' ps := fun p m => by
  obtain ⟨x, y, e, d⟩ := h p m
  exact ⟨x, y, a _ _ e, d⟩
theorem Sits.stp {b : Int} {s : Addr} {H H' : Hp} {ps : List Addr} (h : Sits b H ps) (q : Src H s) (a : Stp s H H') : Sits b H' ps := fun p m => by
  obtain ⟨x, y, e, d⟩ := h p m
  exact ⟨x, y, e.stp q a, d⟩
theorem Sits.put {b : Int} {H : Hp} {ps : List Addr} {p : Addr} {o : HO} (h : Sits b H ps) (n : ∀ x y, H p ≠ some (.tup [.int x, .int y])) : Sits b (upd H p o) ps := fun r m => by
  obtain ⟨x, y, e, d⟩ := h r m
  refine ⟨x, y, ?_, d⟩
  show upd H p o r = _
  rw [upd_ne (fun z => n x y (by rw [← z]; exact e))]
  exact e
def tSit (b : Int) : TE := fun _ H Q => ∀ (p : Addr) H' (x y : Int), Same H H' → H p = none → Sit H' p x y → Bd b x y → Q (.ref p) H'
def tSits (b : Int) (n : Nat) : TA := fun _ H Q => ∀ (ps : List Addr) H', Same H H' → ps.length = n → Sits b H' ps → Q (ps.map V.ref) H'
theorem two_line : 2 ≤ sizeLine := by decide
theorem pe_sit {X : Cx} {e1 e2 : Expr} {k : Nat} {pos : Pos} {x y b : Int} (h : PA X [e1, e2] (tCons (tC (.int x)) (tCons (tC (.int y)) tNil))) (hb : Bd b x y) : PE X (.Tuple [e1, e2] k pos) (tSit b) :=
  peOf (pe_tup h) fun _ H Q q => ⟨two_line, fun p np => q p _ x y (Same.upd np) np upd_same hb⟩
theorem sits_nil {b : Int} : ∀ σ H Q, tSits b 0 σ H Q → tNil σ H Q := fun _ H Q q => q [] H (Same.refl _) rfl (fun _ m => nomatch m)
theorem sits_cons {b : Int} {n : Nat} : ∀ σ H Q, tSits b (n + 1) σ H Q → tCons (tSit b) (tSits b n) σ H Q := fun _ H Q q p H1 x y s1 _ e d ps H2 s2 l h => by
  refine q (p :: ps) H2 (s1.trans s2) (by rw [List.length_cons, l]) fun r m => ?_
  rcases List.mem_cons.mp m with rfl | m
  · exact ⟨x, y, s2 _ _ e, d⟩
  · exact h r m
theorem pa_sits0 {X : Cx} {b : Int} : PA X [] (tSits b 0) := paOf pa_nil sits_nil
theorem pa_sits {X : Cx} {e : Expr} {es : List Expr} {b : Int} {n : Nat} (h : PE X e (tSit b)) (hs : PA X es (tSits b n)) (st : starEach (e :: es) X.env = (false, eval e X.env) :: starEach es X.env := by rfl) : PA X (e :: es) (tSits b (n + 1)) := paOf (pa_cons h hs st) sits_cons
end Nc


/-! Own rules: math.gcd of three ints. -/
namespace Nc
open PySem PySem.Spec PyProof.Rows L2
section
open PySem.Calls
theorem gcd3_run (a : Int) (t : Tok) (b : Int) (u : Tok) (c : Int) (v : Tok) :
    Gives (Builtin.«math.gcd» ⟨[.int a t, .int b u, .int c v], []⟩) (.int (((((Nat.gcd 0 a.natAbs).gcd b.natAbs).gcd c.natAbs : Nat) : Int))) :=
  .of_wp fun M A E s Q h => by obtain ⟨hp, g, d, tk, os⟩ := s; wp_walk; exact ⟨_, rfl, h⟩
theorem gcd3_args (a b c : Value) : argsOk "math.gcd" ⟨[a, b, c], []⟩ := by unfold argsOk; kernel_rfl
end
section
variable {X : Cx}
def rGcd3 : List V → Hp → VK → Prop := fun vs H Q => ∃ a b c : Int, vs = [.int a, .int b, .int c] ∧ Q (.int ((Nat.gcd (Nat.gcd a.natAbs b.natAbs) c.natAbs : Nat) : Int)) H
theorem cr_gcd3 : CallR X (.builtin "math.gcd") rGcd3 := by
  intro pins s σ H vs us Q I r h
  obtain ⟨a, b, c, rfl, q⟩ := h
  cases r with
  | cons r1 r => cases r with
    | cons r2 r => cases r with
      | cons r3 r =>
        cases r
        obtain ⟨t1, rfl⟩ := r1
        obtain ⟨t2, rfl⟩ := r2
        obtain ⟨t3, rfl⟩ := r3
        have g := gcd3_run a t1 b t2 c t3
        rw [Nat.gcd_zero_left] at g
        exact call_function_meets PySem.W.MGF.kind_gcd PySem.W.MGF.plain_gcd PySem.W.MGF.entry_gcd (gcd3_args _ _ _) g.meets ⟨.int _, H, I.tok _, ⟨_, rfl⟩, q⟩
end
end Nc

/-! Own rules: small steps that answer what a term asks: used by the local macros of walk.txt. -/
namespace Nc
open PySem PySem.Spec PyProof.Rows L2
section
variable {K : PySem.W.Frag} {H : Hp} {Q : VK} {p q : Addr} {xs ys : List V} {i j : Int} {v x y : V}
theorem w_ixT (h : H p = some (.tup xs)) (e : atI xs i = some v) (z : Q v H) : rIxT K (.ref p) (.int i) H Q := ⟨_, _, _, _, rfl, rfl, SqT.of h, e, z⟩
theorem w_ixL (h : H p = some (.lst xs)) (e : atI xs i = some v) (z : Q v H) : rIxL K (.ref p) (.int i) H Q := ⟨_, _, _, _, rfl, rfl, SqL.of h, e, z⟩
theorem w_gtup {n : Nat} {t : TGs} {σ : L2.St} {Qs : L2.St → Hp → Prop} (h : H p = some (.tup xs)) (e : xs.length = n) (z : t xs σ H Qs) : gTup K n t (.ref p) σ H Qs := ⟨_, _, rfl, SqT.of h, e, z⟩
theorem w_itt {p A B : Prop} [Decidable p] (h : p) (a : A) : if decide p = true then A else B := by
  rw [decide_eq_true h, if_pos rfl]
  exact a
theorem w_itf {p A B : Prop} [Decidable p] (h : ¬ p) (b : B) : if decide p = true then A else B := by
  rw [decide_eq_false h, if_neg (by decide)]
  exact b
theorem w_ntt {p A B : Prop} [Decidable p] (h : p) (b : B) : if (!decide p) = true then A else B := by
  rw [decide_eq_true h, if_neg (by decide)]
  exact b
theorem w_ntf {p A B : Prop} [Decidable p] (h : ¬ p) (a : A) : if (!decide p) = true then A else B := by
  rw [decide_eq_false h, if_pos (by decide)]
  exact a
theorem w_ifd {p A B : Prop} [Decidable p] (h1 : p → A) (h2 : ¬ p → B) : if decide p = true then A else B := by
  by_cases h : p
  · exact w_itt h (h1 h)
  · exact w_itf h (h2 h)
theorem w_ifnd {p A B : Prop} [Decidable p] (h1 : p → B) (h2 : ¬ p → A) : if (!decide p) = true then A else B := by
  by_cases h : p
  · exact w_ntt h (h1 h)
  · exact w_ntf h (h2 h)
theorem w_if {c : Bool} {A B : Prop} (h1 : c = true → A) (h2 : c = false → B) : if c = true then A else B := by
  cases c
  · exact h2 rfl
  · exact h1 rfl
end
/-! bits -/
theorem nbm {a b : Int} {k : Nat} (ha : a.natAbs < 2 ^ (k / 2)) (hb : b.natAbs < 2 ^ (k / 2)) : (a * b).natAbs < 2 ^ k := by
  have h : a.natAbs * b.natAbs < 2 ^ (k / 2) * 2 ^ (k / 2) := Nat.mul_lt_mul'' ha hb
  rw [Int.natAbs_mul]
  rw [← Nat.pow_add] at h
  exact Nat.lt_of_lt_of_le h (Nat.pow_le_pow_right (by decide) (by omega))
theorem nba {a b : Int} {k : Nat} (h : 0 < k) (ha : a.natAbs < 2 ^ (k - 1)) (hb : b.natAbs < 2 ^ (k - 1)) : (a + b).natAbs < 2 ^ k := by
  obtain ⟨m, rfl⟩ : ∃ m, k = m + 1 := ⟨k - 1, by omega⟩
  rw [Nat.add_sub_cancel] at ha hb
  rw [Nat.pow_succ]
  omega
theorem nbs {a b : Int} {k : Nat} (h : 0 < k) (ha : a.natAbs < 2 ^ (k - 1)) (hb : b.natAbs < 2 ^ (k - 1)) : (a - b).natAbs < 2 ^ k := by
  obtain ⟨m, rfl⟩ : ∃ m, k = m + 1 := ⟨k - 1, by omega⟩
  rw [Nat.add_sub_cancel] at ha hb
  rw [Nat.pow_succ]
  omega
theorem nbn {a : Int} {k : Nat} (ha : a.natAbs < 2 ^ k) : (-a).natAbs < 2 ^ k := by rwa [Int.natAbs_neg]
theorem nbu {a : Int} {j k : Nat} (ha : a.natAbs < 2 ^ j) (h : j ≤ k) : a.natAbs < 2 ^ k := Nat.lt_of_lt_of_le ha (Nat.pow_le_pow_right (by decide) h)
theorem nbd {a b : Int} {k : Nat} (ha : a.natAbs < 2 ^ k) : (a.fdiv b).natAbs < 2 ^ (k + 1) := by
  rw [Nat.pow_succ]
  have h := ha
  rcases Int.lt_trichotomy b 0 with hb | hb | hb
  · have e : a.fdiv b = (-a).fdiv (-b) := (Int.neg_fdiv_neg a b).symm
    rw [e, Int.fdiv_eq_ediv_of_nonneg _ (by omega)]
    have := Int.natAbs_ediv_le_natAbs (-a) (-b)
    omega
  · subst hb
    rw [Int.fdiv_zero]
    omega
  · rw [Int.fdiv_eq_ediv_of_nonneg _ (by omega)]
    have := Int.natAbs_ediv_le_natAbs a b
    omega
theorem cmw {a b : Int} (ha : a.natAbs < 2 ^ 8000) (hb : b.natAbs < 2 ^ 8000) : CMulW a b := wide_mul ha hb (by decide) (by decide) (by decide)
end Nc

/-! Own rules: a def of the text with all that a caller needs, in one. -/
namespace Nc
open PySem PySem.Spec PyProof.Rows L2
/-- the def x as it stands behind the top -/
structure Df (K : PySem.W.Frag) (mg : Str → Option Value) (x : Str) (st : Stmt) (ps : List Str) : Prop where
  ex : ∃ (f : Addr) (fd : FuncData), Fun K x x st f fd ∧ mg x = some (.ref f) ∧ PySem.W.keepIn K (.ref f) = true ∧ Binds K fd ps []
/-- the def x keeps its promise -/
structure Cl (P : Program) (w : World) (K : PySem.W.Frag) (mg : Str → Option Value) (base : Heap) (CX : CXT) (x : Str) (k : Nat) (ps : List Str) (sp : Sp) : Prop where
  ex : ∃ (f : Addr) (fd : FuncData), FnOk P w K mg base CX k f fd ps sp ∧ mg x = some (.ref f) ∧ PySem.W.keepIn K (.ref f) = true ∧ Binds K fd ps []
section
variable {P : Program} {w : World} {K : PySem.W.Frag} {mg : Str → Option Value} {base : Heap} {CX : CXT} {x : Str} {k : Nat} {ps : List Str} {sp : Sp} {st : Stmt}
theorem Df.mk' {f : Addr} {fd : FuncData} (F : Fun K x x st f fd) (g : mg x = some (.ref f)) (k : PySem.W.keepIn K (.ref f) = true) (b : Binds K fd ps []) : Df K mg x st ps := ⟨f, fd, F, g, k, b⟩
theorem Df.cl (D : Df K mg x st ps) (h : ∀ f fd, Fun K x x st f fd → FnOk P w K mg base CX k f fd ps sp) : Cl P w K mg base CX x k ps sp := by
  obtain ⟨f, fd, F, g, kk, b⟩ := D.ex
  exact ⟨f, fd, h f fd F, g, kk, b⟩
theorem Cl.imp {sp' : Sp} (C : Cl P w K mg base CX x k ps sp) (h : ∀ vs H Q E, sp' vs H Q E → sp vs H Q E) : Cl P w K mg base CX x k ps sp' := by
  obtain ⟨f, fd, F, g, kk, b⟩ := C.ex
  exact ⟨f, fd, F.imp h, g, kk, b⟩
theorem Cl.up {j : Nat} (C : Cl P w K mg base CX x j ps sp) (h : j ≤ k) : Cl P w K mg base CX x k ps sp := by
  obtain ⟨f, fd, F, g, kk, b⟩ := C.ex
  exact ⟨f, fd, F.mono h, g, kk, b⟩
end
section
variable {X : Cx} {CX : CXT} {k : Nat} {ps : List Str} {sp : Sp} {E : XK} {x : Str} {p pos : Pos} {e : Expr} {es : List Expr} {t : TA}
theorem pe_cl (C : Cl X.prog X.w X.K X.mg X.base CX x k ps sp) (hr : Room k X.A) (hg : Gl X x) (hx : Passes CX X E) (ha : PA X (e :: es) t) (hdb : (x == ("__debug__" : Str)) = false := by decide) (he : starEach (e :: es) X.env = (false, eval e X.env) :: starEach es X.env := by rfl) (hpl : (backTo pos (starEach es X.env)).any (·.1) = false := by rfl) :
    PE X (.Call (.Name x p) (e :: es) [] pos) (tCall sp [] E t) := by
  obtain ⟨f, fd, F, g, kk, b⟩ := C.ex
  exact pe_call F hr hg g kk b .nil hx ha hdb he hpl
theorem pe_cl0 (C : Cl X.prog X.w X.K X.mg X.base CX x k ps sp) (hr : Room k X.A) (hg : Gl X x) (hx : Passes CX X E) (hdb : (x == ("__debug__" : Str)) = false := by decide) : PE X (.Call (.Name x p) [] [] pos) (tCall sp [] E tNil) := by
  obtain ⟨f, fd, F, g, kk, b⟩ := C.ex
  exact pe_call0 F hr hg g kk b .nil hx hdb
end
/-! ### tuples of ints that are compared -/
section
variable {K : PySem.W.Frag} {H : Hp} {Q : VK} {p q : Addr} {ns ms : List Int}
theorem dpa_ints : ∀ (ns : List Int), DpAll K H (ns.map V.int) (ns.map PyData.int)
  | [] => .nil
  | n :: ns => .cons (.int n) (dpa_ints ns)
theorem dp_ints (h : H p = some (.tup (ns.map V.int))) : Dp K H (.ref p) (.tuple (ns.map PyData.int)) := .tup (SqT.of h) (dpa_ints ns)
theorem dpl_ints (h : H p = some (.lst (ns.map V.int))) : Dp K H (.ref p) (.list (ns.map PyData.int)) := .lst (SqL.of h) (dpa_ints ns)
theorem eqva_ints : ∀ (ns ms : List Int), PyData.eqvAll (ns.map PyData.int) (ms.map PyData.int) = decide (ns = ms)
  | [], [] => rfl
  | [], m :: ms => rfl
  | n :: ns, [] => rfl
  | n :: ns, m :: ms => by
    have ih := eqva_ints ns ms
    simp only [List.map_cons, PyData.eqvAll, PyData.eqv]
    rw [ih]
    by_cases e : n = m
    · subst e
      simp
    · simp [e]
theorem eqv_ints (ns ms : List Int) : PyData.eqv (.tuple (ns.map PyData.int)) (.tuple (ms.map PyData.int)) = decide (ns = ms) := by
  rw [← eqva_ints ns ms]
  simp only [PyData.eqv]
theorem shaped_all : ∀ ns : List Int, PyData.canLayAll0 (ns.map PyData.int) = true ∧ PyData.depthAll (ns.map PyData.int) = 0
  | [] => ⟨rfl, rfl⟩
  | n :: ns => by
    obtain ⟨h1, h2⟩ := shaped_all ns
    simp only [List.map_cons, PyData.canLayAll0, PyData.canLay0, PyData.depthAll, PyData.depth, h1, h2]
    exact ⟨rfl, rfl⟩
theorem shaped_ints (ns : List Int) : SeqAt.shaped (.tuple (ns.map PyData.int)) = true := by
  obtain ⟨h1, h2⟩ := shaped_all ns
  simp only [SeqAt.shaped, PyData.canLay0, PyData.depth, h1, h2]
  rfl
theorem shapedl_ints (ns : List Int) : SeqAt.shaped (.list (ns.map PyData.int)) = true := by
  obtain ⟨h1, h2⟩ := shaped_all ns
  simp only [SeqAt.shaped, PyData.canLay0, PyData.depth, h1, h2]
  rfl
/-- two tuples of ints, a != b, a == b -/
theorem w_neT (h : H p = some (.tup (ns.map V.int))) (h2 : H q = some (.tup (ms.map V.int))) (z : Q (.bl (!decide (ns = ms))) H) : rNeD K (.ref p) (.ref q) H Q := ⟨_, _, dp_ints h, dp_ints h2, shaped_ints _, shaped_ints _, by rw [eqv_ints]; exact z⟩
theorem w_eqT (h : H p = some (.tup (ns.map V.int))) (h2 : H q = some (.tup (ms.map V.int))) (z : Q (.bl (decide (ns = ms))) H) : rEqD K (.ref p) (.ref q) H Q := ⟨_, _, dp_ints h, dp_ints h2, shaped_ints _, shaped_ints _, by rw [eqv_ints]; exact z⟩
theorem w_neT' (h : H p = some (.tup (ns.map V.int))) (h2 : H q = some (.tup (ms.map V.int))) (e : ns = ms) (z : Q (.bl false) H) : rNeD K (.ref p) (.ref q) H Q := w_neT h h2 (by rw [decide_eq_true e]; exact z)
theorem w_eqT' (h : H p = some (.tup (ns.map V.int))) (h2 : H q = some (.tup (ms.map V.int))) (e : ns = ms) (z : Q (.bl true) H) : rEqD K (.ref p) (.ref q) H Q := w_eqT h h2 (by rw [decide_eq_true e]; exact z)
theorem eqvl_ints (ns ms : List Int) : PyData.eqv (.list (ns.map PyData.int)) (.list (ms.map PyData.int)) = decide (ns = ms) := by
  rw [← eqva_ints ns ms]
  simp only [PyData.eqv]
end
section
theorem all_flat (zs : List Int) : (zs.map V.int).all flatV = true := by
  induction zs with
  | nil => rfl
  | cons z zs ih => simpa [flatV] using ih
theorem inV_ints (z : Int) (zs : List Int) : inV (V.int z) (zs.map V.int) = decide (z ∈ zs) := by
  induction zs with
  | nil => rfl
  | cons y zs ih =>
    unfold inV at *
    rw [List.map_cons, List.any_cons, ih]
    simp [eqV]
    by_cases h : y = z
    · subst h; simp
    · have : ¬ z = y := fun e => h e.symm
      simp [h, this]
theorem int_at {zs : List Int} {i : Nat} {x : V} (h : (zs.map V.int)[i]? = some x) : ∃ z, zs[i]? = some z ∧ x = .int z := by
  rw [List.getElem?_map] at h
  obtain ⟨z, e, e2⟩ := Option.map_eq_some_iff.mp h
  exact ⟨z, e, e2.symm⟩
end
end Nc

/-! Own rules: sets of tuples of ints: set(), t in s (not there), s.add(t), len(s). -/
namespace Nc
open PySem PySem.Spec PyProof.Rows L2
def run0 (m : Nat) (h : Int) : SetTable.Probe := runAt m (SetTable.bits h % (m + 1)) (SetTable.bits h)
theorem dummy_nth (m : Nat) : ∀ (n : Nat) (p : SetTable.Probe), p.dummy = none → (nth m p n).dummy = none
  | 0, _, e => e
  | n + 1, p, e => dummy_nth m n (adv m p) (by unfold adv; split <;> exact e)
section
variable {P : Program} {w : World} {A : Around} {E : Value → Shared → Prop} {s : Shared} {a : Addr} {L : List (Addr × List Int)} {es : Array (Int × Value)} {ep : Nat} {t : SetTable}
abbrev hashOf (es : Array (Int × Value)) : Nat → Int := fun i => (es[i]?.map (·.1)).getD 0
/-- from the c-th place of the way on, of a key that isn't there -/
theorem probe_free (R : SetTR P w s.heap a L es ep t) {h : Int} {K c : Nat} (far : K < 10 * SetTable.turns t.mask) (free : way t.mask h K ∉ t.place.toList) (full : ∀ d, d < K → way t.mask h d ∈ t.place.toList) (le : c ≤ K) :
    (∃ q i p, c + q < K ∧ L[i]? = some p ∧ t.place.toList[i]? = some (way t.mask h (c + q)) ∧ t.probe (hashOf es) h (nth t.mask (run0 t.mask h) c) = some (.candidate (way t.mask h (c + q)) i (nth t.mask (run0 t.mask h) (c + q + 1)))) ∨
    t.probe (hashOf es) h (nth t.mask (run0 t.mask h) c) = some (.empty (way t.mask h K) none) := by
  have sh : ∀ q, nth t.mask (nth t.mask (run0 t.mask h) c) q = nth t.mask (run0 t.mask h) (c + q) := fun q => (nth_add t.mask c _ q).symm
  have wj : ∀ q, (nth t.mask (nth t.mask (run0 t.mask h) c) q).j = way t.mask h (c + q) := fun q => congrArg SetTable.Probe.j (sh q)
  have back : c + (K - c) = K := by omega
  rcases go_spec t R.tab.ris R.tab.dm (hashOf es) h (10 * SetTable.turns t.mask) (K - c) (nth t.mask (run0 t.mask h) c) (dummy_nth _ _ _ rfl) (by omega) (fun q hq => by rw [wj]; exact full _ (by omega)) (by rw [wj, back]; exact free) with ⟨q, i, hq, hi, _, _, e⟩ | ⟨_, e⟩
  · rw [wj] at hi
    have il : i < L.length := by
      have l1 : i < t.place.toList.length := (List.getElem?_eq_some_iff.mp hi).1
      have l2 := R.tab.sz
      rw [List.length_map] at l2
      rw [Array.length_toList, l2] at l1
      exact l1
    refine .inl ⟨q, i, L[i], by omega, List.getElem?_eq_getElem il, hi, ?_⟩
    rw [wj, sh] at e
    exact e
  · rw [wj, back] at e
    exact .inr e
theorem mem_at {α : Type} {l : List α} {i : Nat} {p : α} (e : l[i]? = some p) : p ∈ l := List.mem_of_getElem? e
/-- a search for what isn't there ends at the free place -/
theorem search_free (R : SetTR P w s.heap a L es ep t) {x : Addr} {k : List Int} (hx : IsT P w s.heap k x) (room : A.units < cLine) (out : k ∉ L.map (·.2)) {K : Nat} (far : K < 10 * SetTable.turns t.mask)
    (free : way t.mask (thash P w k) K ∉ t.place.toList) (full : ∀ d, d < K → way t.mask (thash P w k) d ∈ t.place.toList) {Q : SetFound → Shared → Prop} (q : ∀ j, Q (.free j false) s) :
    ∀ (f c : Nat) (stand : Option SetTable.Probe), stand.getD (t.probeStart (thash P w k)) = nth t.mask (run0 t.mask (thash P w k)) c → c ≤ K → K < c + f →
      wpAny (model P w) A (setSearchFrom a (.ref x) (thash P w k) false f stand) Q E s := by
  obtain ⟨o, ho, _, hd⟩ := R.ob
  intro f
  induction f with
  | zero =>
    intro c stand _ le lt
    exact absurd lt (by omega)
  | succ f ih =>
    intro c stand e le lt
    rw [setSearchFrom_succ]
    refine wpAny_bind (wpAny_setState_of ho hd R.fits ?_)
    dsimp only
    refine wp_if_neg R.gw ?_
    try refine wpAny_bind (wpAny_pure ?_)
    rw [e]
    rcases probe_free R far free full le with ⟨m, i, p, lt2, at_, pl, z⟩ | z
    · rw [z]
      dsimp only
      have hp := R.tup p (mem_at at_)
      have ne : p.2 ≠ k := fun b => out (List.mem_map.mpr ⟨p, mem_at at_, b⟩)
      have go : wpAny (model P w) A (searchRest a (.ref x) (thash P w k) false f es t (way t.mask (thash P w k) (c + m)) i (nth t.mask (run0 t.mask (thash P w k)) (c + m + 1))) Q E s := by
        unfold searchRest
        rw [R.entry at_]
        dsimp only
        refine wpAny_bind (wpAny_holding (wpAny_eqBool_tuple room hp hx ?_))
        refine wpAny_bind (wpAny_setState_of ho hd R.fits ?_)
        dsimp only
        refine wp_if_neg Bool.false_ne_true ?_
        try refine wpAny_bind (wpAny_pure ?_)
        rw [sameMem]
        dsimp only
        simp only [if_true, slot_live R.tab.ris pl, R.entry at_]
        refine wpAny_bind (wpAny_isSame_ref_self (wpAny_bind (wpAny_pure ?_)))
        simp only [if_true]
        refine wp_if_neg (by simp [ne]) ?_
        exact ih (c + m + 1) _ rfl (by omega) (by omega)
      by_cases led : t.led = true
      · refine wp_if_neg (by simp [led]) ?_
        try refine wpAny_bind (wpAny_pure ?_)
        exact go
      · refine wp_if_pos (by simp [led]) ?_
        refine wpAny_bind (seen_tup hx (fun y my => ?_) ?_)
        · obtain ⟨r, mr, er⟩ := List.mem_map.mp my
          have m1 : r ∈ es ∧ r.1 = thash P w k := by simpa using mr
          have m2 : r ∈ es.toList := by simpa using m1.1
          rw [R.rows] at m2
          obtain ⟨u, mu, eu⟩ := List.mem_map.mp m2
          exact ⟨u.2, u.1, by rw [← er, ← eu], R.tup u mu⟩
        · refine wp_if_neg (by decide) ?_
          try refine wpAny_bind (wpAny_pure ?_)
          exact go
    · rw [z]
      dsimp only
      exact wpAny_pure (q _)
/-- the search that a membership asks for: nothing -/
theorem find_free (R : SetTR P w s.heap a L es ep t) {x : Addr} {k : List Int} (hx : IsT P w s.heap k x) (room : A.units < cLine) (out : k ∉ L.map (·.2)) {Q : Option Nat → Shared → Prop} (q : Q none s) :
    wpAny (model P w) A (setFind a (.ref x) (thash P w k)) Q E s := by
  obtain ⟨o, ho, _, hd⟩ := R.ob
  have far := R.room
  obtain ⟨K, k1, k2, k3⟩ := R.tab.first (by rw [List.length_map]; omega) (thash P w k)
  have big : 10 * SetTable.turns t.mask ≤ 1420 := by
    unfold SetTable.turns
    rcases R.tab.mok with e | e | e <;> omega
  unfold setFind; rw [show (100000 : Nat) = 99999 + 1 from rfl]; unfold setFindIn
  refine wpAny_bind (wpAny_setState_of ho hd R.fits ?_)
  dsimp only
  refine wp_if_neg (by simp [byScan, Value.scannable]) ?_
  try refine wpAny_bind (wpAny_pure ?_)
  unfold setSearch
  refine wpAny_bind (search_free R hx room out k1 k2 k3 (fun j => ?_) 100000 0 none rfl (Nat.zero_le _) (by omega))
  dsimp only
  exact wpAny_pure q
/-- t in s, t not there -/
theorem contains_free (R : SetTR P w s.heap a L es ep t) {x : Addr} {k : List Int} (hx : IsT P w s.heap k x) (room : A.units + 1 < cLine) (out : k ∉ L.map (·.2)) {Q : Value → Shared → Prop} (q : ∀ tk, Q (.bool false) { s with toks := tk }) :
    wpAny (model P w) A (compareOp .In (.ref x) (.ref a)) Q E s := by
  have ty : s.TypeIs (.ref a) "set" := let ⟨o, ho, hc, _⟩ := R.ob; ⟨o, ho, hc.1⟩
  show wpAny _ _ (do return .bool (← contains (.ref a) (.ref x))) Q E s
  refine wpAny_bind ?_; unfold contains; (try with_reducible refine wpAny_holding ?_); refine wpAny_bind (wpAny_specialOf ty F.slot_set_contains.lookup ?_)
  show wpAny _ _ (if (some (Value.builtin "set.__contains__") == some Value.none) = true then _ else _) _ E s
  rw [if_neg (by rw [beq_builtin_none]; decide)]
  refine wpAny_bind (wpAny_callSpecialUnlessNone?_slot (name := Str.ofString "__contains__") ty F.slot_set_contains (wpAny_call_entry F.slot_set_contains ty entry_set_contains ?_ (F.args_set_contains_2 _ _)))
  unfold Builtin.«frozenset.__contains__» Builtin.Frozenset.oneOther; simp only [List.isEmpty_nil, bind_assoc]; unfold Builtin.Frozenset.addrOf Builtin.Frozenset.withSetAsKey setContains
  refine wpAny_bind (wpAny_pure ?_); (try dsimp only); refine wpAny_bind (wpAny_pure ?_); (try dsimp only); refine wpAny_bind (wpAny_tryCatch (wpAny_holding ?_))
  refine wpAny_bind (wpAny_pyHash_tuple (by exact room) hx (wpAny_bind (find_free (s := { s with toks := s.toks + (k.length + 1) }) ⟨R.ob, R.rows, R.tab, R.nd, R.tup, R.plain, R.led, R.room, R.few⟩ hx (by exact room) out (wpAny_pure ?_))))
  show wpAny _ _ (ret (Value.bool false)) _ _ _
  exact wpAny_pure ⟨_, rfl, wpAny_truthy_bool (wpAny_pure (q _))⟩
/-- s.add(t) -/
theorem adds (R : SetTR P w s.heap a L es ep t) {x : Addr} {k : List Int} (hx : IsT P w s.heap k x) (room : A.units + 1 < cLine) (few : L.length + 1 < 64) {Q : Value → Shared → Prop}
    (q : ∀ h' L' es' ep' t' tk, Heap.SameBut a s.heap h' → SetTR P w h' a L' es' ep' t' → (k ∈ L.map (·.2) → L' = L) → (k ∉ L.map (·.2) → L'.Perm ((x, k) :: L)) → Q .none { s with heap := h', toks := tk }) :
    wpAny (model P w) A (call (.builtin "set.add") [.ref a, .ref x]) Q E s := by
  have ty : s.TypeIs (.ref a) "set" := let ⟨o, ho, hc, _⟩ := R.ob; ⟨o, ho, hc.1⟩
  refine wpAny_call_entry F.slot_set_add ty F.entry_set_add ?_ (F.args_set_add_2 _ _)
  unfold Builtin.«set.add» Builtin.Frozenset.oneOther; simp only [List.isEmpty_nil, bind_assoc]; unfold Builtin.Frozenset.addrOf setAdd
  refine wpAny_bind (wpAny_pure ?_); (try dsimp only); refine wpAny_bind (wpAny_pure ?_); (try dsimp only); refine wpAny_bind (wpAny_holding ?_)
  refine wpAny_bind (wpAny_pyHash_tuple (by exact room) hx ?_)
  refine add_at (s := { s with toks := s.toks + (k.length + 1) }) ⟨R.ob, R.rows, R.tab, R.nd, R.tup, R.plain, R.led, R.room, R.few⟩ hx (by exact room) few fun b h' L' es' ep' t' sb R' c1 c2 => ?_
  show wpAny _ _ (ret Value.none) _ _ _
  exact wpAny_pure ⟨_, rfl, q h' L' es' ep' t' _ sb R' c1 c2⟩
end
section
variable {X : Cx}
/-- set() -/
def rSet0T (P : Program) (w : World) : List V → Hp → VK → Prop := fun xs H Q => xs = [] ∧ ∀ p, H p = none → Q (.ref p) (upd H p (SetTO P w p []))
theorem cr_set0T : CallR X (.type "set") (rSet0T X.prog X.w) := by
  intro pins s σ H xs us Q I r h
  obtain ⟨rfl, q⟩ := h
  cases r
  refine setR_new fun _ => ?_
  have new : SetT0 X.prog X.w (s.heap.push { cls := .type "set", dict := none, data := .set #[] 0 (.fresh 0 0 (!X.w.params.followText "set-order")) }) s.heap.objs.size [] := (setTR_fresh (Heap.get?_push_size _ rfl)).t0
  exact ⟨.ref _, upd H s.heap.objs.size (SetTO X.prog X.w s.heap.objs.size []), I.laid (t' := s.toks) (fun b u e => Heap.get?_push_of_some _ e) (Nat.le_refl _) (setTO_new new), rfl, q _ (I.hok.fresh (Nat.le_refl _))⟩
/-- t in s, t a tuple of ints that isn't there -/
def rNotIn (K : PySem.W.Frag) (P : Program) (w : World) : V → V → Hp → VK → Prop := fun x y H Q => ∃ (b a : Addr) (k : List Int) (L : List (Addr × List Int)), x = .ref b ∧ y = .ref a ∧ SqT K H b (k.map V.int) ∧ H a = some (SetTO P w a L) ∧ (∀ p ∈ L, SqT K H p.1 (p.2.map V.int)) ∧ k ∉ L.map (·.2) ∧ Q (.bl false) H
theorem op_notIn (hu : X.A.units + 1 < cLine) : OpR X (compareOp .In) (rNotIn X.K X.prog X.w) := by
  intro pins s σ H x y v u Q I rx ry h
  obtain ⟨b, a, k, L, rfl, rfl, hb, ha, hL, out, q⟩ := h
  cases rx
  cases ry
  have R0 : SetT0 X.prog X.w s.heap a L := (I.hok a _ ha).1
  obtain ⟨es, ep, t, R⟩ := R0.full fun p hp => I.isT (hL p hp)
  exact contains_free R (I.isT hb) hu out fun tk => ⟨.bl false, H, I.tok _, rfl, q⟩
/-- s.add(t), t a tuple of ints that isn't there -/
def tSAddT (K : PySem.W.Frag) (P : Program) (w : World) (to : TE) (t : TA) : TE := fun σ H Q => to σ H fun x H1 => (∃ a L, x = V.ref a ∧ H1 a = some (SetTO P w a L) ∧ ∀ p ∈ L, SqT K H1 p.1 (p.2.map V.int)) ∧ t σ H1 fun xs H2 => ∃ (a b : Addr) (k : List Int) (L : List (Addr × List Int)), x = .ref a ∧ xs = [.ref b] ∧ SqT K H2 b (k.map V.int) ∧ H2 a = some (SetTO P w a L) ∧ (∀ p ∈ L, SqT K H2 p.1 (p.2.map V.int)) ∧ k ∉ L.map (·.2) ∧ L.length + 1 < 64 ∧
  ∀ L', L'.Perm ((b, k) :: L) → Q .non (upd H2 a (SetTO P w a L'))
variable {o e : Expr} {es : List Expr} {to : TE} {t : TA} {apos cpos : Pos}
theorem pe_saddT (hu : X.A.units + 1 < cLine) (ho : PE X o to) (ha : PA X (e :: es) t)
    (hbase : attributeBase o "add" X.env (eval o X.env) = eval o X.env := by rfl)
    (hfew : ((backTo cpos (starEach (e :: es) X.env)).all (fun x => !x.1) && (backToKw cpos (keywordEach [] X.env)).all (fun x => x.1.isSome) && decide ((e :: es).length + ([] : List Keyword).length + (if ([] : List Keyword).isEmpty then 0 else 1) < 30)) = true := by rfl)
    (hline : (apos.endLine == cpos.line) = true := by rfl) (hs : starEach (e :: es) X.env = (false, eval e X.env) :: starEach es X.env := by rfl) (hplain : (backTo cpos (starEach es X.env)).any (·.1) = false := by rfl) :
    PE X (.Call (.Attribute o "add" apos) (e :: es) [] cpos) (tSAddT X.K X.prog X.w to t) := by
  refine ⟨fun pins s σ H Q I h => wpAny_Call_method_late hbase hfew hline rfl (thn (ho.run pins s σ H _ I h) fun v s1 ⟨x, H1, I1, r1, ⟨a, L, ex, hL, hT⟩, q1⟩ => ?_)⟩
  subst ex
  cases r1
  have R1 : SetT0 X.prog X.w s1.heap a L := (I1.hok a _ hL).1
  have ty : s1.TypeIs (.ref a) "set" := let ⟨_, _, _, ⟨o, ho, hc, _⟩, _⟩ := R1.ex; ⟨o, ho, hc.1⟩
  refine ⟨"set", "set.add", F.plainAttrs_set, F.slot_set_add, F.type_set_add, ty, ?_, ?_⟩
  · rintro b eb; cases eb; obtain ⟨_, _, _, ⟨o, ho, hc, _⟩, _⟩ := R1.ex; exact ⟨o, ho, hc.2.1⟩
  have hA := ha.run cpos pins s1 σ H1 _ I1 q1
  rw [hs] at hA ⊢
  refine Calls.callWith_builtin (by show (false || (backTo cpos (starEach es X.env)).any (·.1)) = false; rw [hplain]; rfl) (Calls.evalArgs_plain ?_)
  refine thn hA fun us s2 ⟨vs, H2, I2, r2, a', b, k, L2, e1, e2, hb, hL2, hT2, out, few, q2⟩ => ?_
  cases e1
  subst e2
  rw [Vals.ref1 r2]
  have R0 : SetT0 X.prog X.w s2.heap a L2 := (I2.hok a _ hL2).1
  obtain ⟨es, ep, tt, R⟩ := R0.full fun p hp => I2.isT (hT2 p hp)
  refine adds R (I2.isT hb) hu few fun h' L' es' ep' t' tk sb R' _ c2 => ?_
  have he : ∃ u, h'.get? a = some u := let ⟨o, ho, _⟩ := R'.ob; ⟨o, ho⟩
  exact ⟨.non, upd H2 a (SetTO X.prog X.w a L'), I2.write (e := a) (t' := tk) (by rw [hL2]; trivial) (.inl rfl) (fun c u hc hu => (sb.2 c hc).trans hu) he (setTO_new R'.t0), rfl, q2 L' (c2 out)⟩
end
end Nc

/-! Own rules: min(d), d a dict with pairs of ints as keys; d.setdefault(t, x) of such. -/
namespace Nc
open PySem PySem.Spec PyProof.Rows L2
section
variable {prog : Program} {w : World} {A : Around} {R : Result → Shared → Prop} {I S : Addr} {fp wr : List Addr} {n : Nat} {P : Nat → Value → Prop} {St : Nat → Heap → Prop} {h0 : Heap} {bt : Nat → Nat → Bool}
/-- a walk's steps leave an older heap as it was -/
theorem keep_walk {h h' : Heap} (old : ∀ b ∈ wr, h0.get? b = none) (k : KeepH h0 h) (k' : ∀ b o, b ∉ wr → h.get? b = some o → h'.get? b = some o) : KeepH h0 h' := fun c o e =>
  k' c o (fun m => by rw [old c m] at e; cases e) (k c o e)
theorem keep_at {h : Heap} {g : Obj → Obj} (old : h0.get? S = none) (k : KeepH h0 h) : KeepH h0 (h.update S g) := fun c o e =>
  (Heap.get?_update_other _ _ (fun z => by rw [← z, old] at e; cases e)).trans (k c o e)
/-- min's loop from its (j + 1)-th item on: what is compared may stand in the heap -/
theorem min_rounds (W : Walks prog w A.in1 I fp wr n P St) (cmp : ∀ i j vi vj (s : Shared), KeepH h0 s.heap → P i vi → P j vj → Ob.RcOp .Lt A.in1 s vi vj (bt i j)) (out : S ∉ fp) (old : ∀ b ∈ wr, h0.get? b = none) (oldS : h0.get? S = none) :
    ∀ (k j : Nat) (s : Shared) (best : Value) (c : Nat), k + (j + 1) = n → St (j + 1) s.heap → KeepH h0 s.heap → P (argBest bt j) best → s.heap.get? S = some { cls := .type "list", dict := none, data := .seq #[best, best] c, slots := #[] } →
      (∀ v h' tk, P (argBest bt (n - 1)) v → KeepH h0 h' → R (.ok (.ret v)) { s with heap := h', toks := tk }) → codeAny (model prog w) A (.builtin "min.loop" ⟨[.ref I, .none, .ref S], []⟩) R s := by
  have outW : S ∉ wr := fun m => out (W.sub _ m)
  have nm : (toString "min" ++ toString ".loop" : String) = "min.loop" := by decide
  intro k
  induction k with
  | zero =>
    intro j s best c e st kp pb hS fin
    have jn : j + 1 = n := by omega
    subst jn
    refine codeAny_builtin F.entry_min_loop ?_; rw [Around.under_plainId F.plain_min_loop _]
    refine wpAny_bind (wpAny_seqItems hS rfl (wpAny_bind (wpAny_tryCatch (W.done s _ _ st fun h' tk k' => ?_))))
    refine wpAny_bind (wpAny_updateSeq (k' S _ outW hS) rfl (wpAny_bind (wpAny_letGo (wpAny_pure ?_))))
    exact fin best _ tk pb (keep_at oldS (keep_walk old kp k'))
  | succ k ih =>
    intro j s best c e st kp pb hS fin
    refine codeAny_builtin F.entry_min_loop ?_; rw [Around.under_plainId F.plain_min_loop _]
    refine wpAny_bind (wpAny_seqItems hS rfl (wpAny_bind (wpAny_tryCatch (W.item (j + 1) s _ _ (by omega) st fun v h' tk pv st' k' => ?_))))
    have hS' := k' S _ outW hS
    have kp' := keep_walk old kp k'
    refine wpAny_bind (wpAny_pure ?_)
    show wpAny _ _ (tryCatch (holding [v, v] (richCompare _ v best >>= _)) _ >>= _) _ _ _
    refine wpAny_bind (wpAny_tryCatch (wpAny_holding (wpAny_bind ((cmp (j + 1) (argBest bt j) v best _ kp' pv pb) prog w _ _ ?_))))
    refine wpAny_bind (wpAny_holding (wpAny_truthy_bool (wpAny_bind (wpAny_letGo (wpAny_pure ?_)))))
    cases hb : bt (j + 1) (argBest bt j) with
    | true =>
      simp only [if_true]
      refine wpAny_bind (wpAny_updateSeq hS' rfl (wpAny_bind (wpAny_letGo ?_))); rw [nm]
      refine wpAny_pure ⟨plainId_quiet F.plain_min_loop _, ih (j + 1) _ v _ (by omega) (W.frame _ _ _ st' fun b m o eb => (Heap.get?_update_other _ _ (fun z : S = b => out (by rw [z]; exact m))).trans eb) (keep_at oldS kp') (by unfold argBest; rw [hb]; exact pv) (Heap.get?_update_self _ hS' rfl) fun u h2 tk2 pu k2 => fin u h2 tk2 pu k2⟩
    | false =>
      simp only [Bool.false_eq_true, if_false]
      refine wpAny_bind (wpAny_letGo ?_); rw [nm]
      refine wpAny_pure ⟨plainId_quiet F.plain_min_loop _, ih (j + 1) _ best c (by omega) st' kp' (by unfold argBest; rw [hb]; exact pb) hS' fun u h2 tk2 pu k2 => fin u h2 tk2 pu k2⟩
end
section
variable {prog : Program} {w : World} {A : Around} {E : Value → Shared → Prop} {s : Shared}
/-- min of a walk -/
theorem min_over {x : Value} {Q : Value → Shared → Prop} {n : Nat} {P : Nat → Value → Prop} {bt : Nat → Nat → Bool} (n0 : 0 < n) (cmp : ∀ i j vi vj (s2 : Shared), KeepH s.heap s2.heap → P i vi → P j vj → Ob.RcOp .Lt A.in1 s2 vi vj (bt i j))
    (h : wpAny (model prog w) A.in1 (pyIter x) (fun it s2 => ∃ I fp wr St, it = .ref I ∧ Walks prog w A.in1 I fp wr n P St ∧ St 0 s2.heap ∧ (∀ b ∈ fp, b < s2.heap.objs.size) ∧ (∀ b ∈ wr, s.heap.get? b = none) ∧ KeepH s.heap s2.heap ∧ s.heap.objs.size ≤ s2.heap.objs.size ∧
      ∀ v h' tk, P (argBest bt (n - 1)) v → KeepH s.heap h' → Q v { s2 with heap := h', toks := tk }) E s) : wpAny (model prog w) A (call (.builtin "min") [x]) Q E s := by
  have nm : (toString "min" ++ toString ".loop" : String) = "min.loop" := by decide
  refine call_function_tree F.kind_min F.plain_min F.entry_min (F.args_min1 _) ?_
  refine wpAny_bind (wpAny_of_eq (show Builtin.Builtins.bindParams "min" ["key", "default"] 0 ⟨[], []⟩ = pure [none, none] from rfl) (wpAny_bind (wpAny_pure (wpAny_bind (wpAny_mono h (fun it s2 q => ?_) fun _ _ e => e)))))
  obtain ⟨I, fp, wr, St, rfl, W, st, inF, old, kp, sz, fin⟩ := q
  refine wpAny_bind (wpAny_newObj_type ?_); rw [nm]
  have out : s2.heap.objs.size ∉ fp := fun m => Nat.lt_irrefl _ (inF _ m)
  have outW : s2.heap.objs.size ∉ wr := fun m => out (W.sub _ m)
  have oldS : s.heap.get? s2.heap.objs.size = none := by
    cases z : s.heap.get? s2.heap.objs.size with
    | none => rfl
    | some o => exact absurd (Nat.lt_of_lt_of_le (Heap.lt_size z) sz) (Nat.lt_irrefl _)
  refine wpAny_pure ⟨plainId_quiet F.plain_min_loop _, ?_⟩
  refine codeAny_builtin F.entry_min_loop ?_; rw [Around.under_plainId F.plain_min_loop _]
  have hS : (s2.heap.push { cls := .type "list", data := .seq #[] }).get? s2.heap.objs.size = some { cls := .type "list", data := .seq #[] } := Heap.get?_push_size _ rfl
  have kp1 : KeepH s.heap (s2.heap.push { cls := .type "list", data := .seq #[] }) := fun c o e => Heap.get?_push_of_some _ (kp c o e)
  refine wpAny_bind (wpAny_seqItems hS rfl (wpAny_bind (wpAny_tryCatch (W.item 0 { s2 with heap := s2.heap.push { cls := .type "list", data := .seq #[] } } _ _ n0 (W.frame _ _ _ st fun b _ o e => Heap.get?_push_of_some _ e) fun v h' tk pv st' k' => ?_))))
  have hS' := k' _ _ outW hS
  refine wpAny_bind (wpAny_pure ?_)
  show wpAny _ _ (updateSeq s2.heap.objs.size (fun _ => #[v, v]) >>= _) _ _ _
  refine wpAny_bind (wpAny_updateSeq hS' rfl ?_); rw [nm]
  refine wpAny_pure ⟨plainId_quiet F.plain_min_loop _, min_rounds (h0 := s.heap) W cmp out old oldS (n - 1) 0 _ v _ (by omega) (W.frame _ _ _ st' fun b m o e => (Heap.get?_update_other _ _ (fun z => out (by rw [z]; exact m))).trans e) (keep_at oldS (keep_walk old kp1 k')) pv (Heap.get?_update_self _ hS' rfl) fun u h2 tk2 pu k2 => fin u h2 tk2 pu k2⟩
/-- the walk over a dict's keys, as they stand -/
theorem walks_keys (hh : A.handled = none) {I d : Addr} (ne : d ≠ I) {od : Obj} {es : Array DictEntry} {ep : Nat} (hd : od.data = .dict es ep) :
    Walks prog w A I [I, d] [I] es.size (fun i v => ∃ en, es[i]? = some en ∧ v = en.key) (fun i h => h.IsKeyIter I d i es.size ep ∧ h.get? d = some od) where
  sub := fun b m => by rw [List.mem_singleton.mp m]; exact List.mem_cons_self
  frame := fun i h h' st k => ⟨st.1.at fun o e => k I List.mem_cons_self o e, k d (List.mem_cons_of_mem _ List.mem_cons_self) _ st.2⟩
  item := fun i s Q E lt st q => next_key_item st.1 st.2 hd rfl (Array.getElem?_eq_getElem lt) fun h' st' sb => q _ h' s.toks ⟨_, Array.getElem?_eq_getElem lt, rfl⟩ ⟨st', (sb.2 d ne).trans st.2⟩ fun b o m e => (sb.2 b fun z => m (by rw [z]; exact List.mem_cons_self)).trans e
  done := fun s Q E st q => next_key_end hh st.1 st.2 hd rfl (Nat.le_refl _) fun h' x => q h' s.toks fun b o m e => x b o (fun z => m (by rw [z]; exact List.mem_cons_self)) e
  self := fun i s Q E st q => wpAny_pyIter_keyiter st.1 q
end
/-- t < u of two tracked tuples, in any state that keeps what stood -/
theorem tup_less {X : Cx} {s s2 : Shared} {pins : List (Addr × Obj)} {σ : L2.St} {H : Hp} {a b : Addr} {ns ms : List Int} (I : L2.Inv X pins σ H s) (ha : H a = some (.tup (ns.map V.int))) (hb : H b = some (.tup (ms.map V.int))) (hu : X.A.units + 1 < cLine) (kp : KeepH s.heap s2.heap) :
    Ob.RcOp .Lt X.A.in1 s2 (.ref a) (.ref b) (lexP (fun x y => decide (x < y)) (decide (ns.length < ms.length)) ns ms) := by
  obtain ⟨us, r1, ⟨o1, g1, c1, n1, d1⟩, _⟩ := I.tuple (SqT.of ha)
  obtain ⟨vs, r2, ⟨o2, g2, c2, n2, d2⟩, _⟩ := I.tuple (SqT.of hb)
  have i1 : IntsAre us ns := Vals.ints r1
  have i2 : IntsAre vs ms := Vals.ints r2
  have at1 : ∀ j (h1 : j < us.toArray.size), ∃ t, us.toArray[j] = .int (ns.getD j 0) t := fun j h1 => IntsAre.int_at i1 _ _ (by simp at h1; simp [h1])
  have at2 : ∀ j (h1 : j < vs.toArray.size), ∃ t, vs.toArray[j] = .int (ms.getD j 0) t := fun j h1 => IntsAre.int_at i2 _ _ (by simp at h1; simp [h1])
  have R := Ob.RcOp.tuples_lt (A := X.A.in1) (s := s2) (e := fun j => decide (ns.getD j 0 = ms.getD j 0)) (r := fun j => decide (ns.getD j 0 < ms.getD j 0)) ⟨o1, kp _ _ g1, c1, n1, d1⟩ ⟨o2, kp _ _ g2, c2, n2, d2⟩ hu (fun j h1 h2 => by
    obtain ⟨t, et⟩ := at1 j h1
    obtain ⟨u, eu⟩ := at2 j h2
    rw [et, eu, ← Bool.beq_eq_decide_eq]
    exact SeqAt.EqAt.int_int _ _ _ _) (fun j h1 h2 _ => by
    obtain ⟨t, et⟩ := at1 j h1
    obtain ⟨u, eu⟩ := at2 j h2
    rw [et, eu]
    exact Ob.RcOp.lt_int _ _ _ _)
  rw [List.size_toArray, List.size_toArray, i1.length, i2.length] at R
  exact R
/-! the order of pairs -/
def lexLe (p q : Int × Int) : Prop := p.1 < q.1 ∨ (p.1 = q.1 ∧ p.2 ≤ q.2)
instance (p q : Int × Int) : Decidable (lexLe p q) := by unfold lexLe; infer_instance
theorem lexLe.trans {p q r : Int × Int} (a : lexLe p q) (b : lexLe q r) : lexLe p r := by unfold lexLe at *; omega
theorem lexLe.refl (p : Int × Int) : lexLe p p := .inr ⟨rfl, Int.le_refl _⟩
theorem lexLe.total (p q : Int × Int) : lexLe p q ∨ lexLe q p := by unfold lexLe; omega
theorem lexLe.anti {p q : Int × Int} (a : lexLe p q) (b : lexLe q p) : p = q := by
  unfold lexLe at *
  exact Prod.ext (by omega) (by omega)
theorem lexP_pair (p q : Int × Int) : lexP (fun x y => decide (x < y)) (decide ((2 : Nat) < 2)) [p.1, p.2] [q.1, q.2] = decide (¬ lexLe q p) := by
  show (if decide (p.1 = q.1) = true then (if decide (p.2 = q.2) = true then decide ((2 : Nat) < 2) else decide (p.2 < q.2)) else decide (p.1 < q.1)) = _
  unfold lexLe
  by_cases a : p.1 = q.1
  · rw [if_pos (decide_eq_true a)]
    by_cases b : p.2 = q.2
    · rw [if_pos (decide_eq_true b), decide_eq_false (by omega), decide_eq_false (by omega)]
    · rw [if_neg (by simpa using b)]
      by_cases c : p.2 < q.2
      · rw [decide_eq_true c, decide_eq_true (by omega)]
      · rw [decide_eq_false c, decide_eq_false (by omega)]
  · rw [if_neg (by simpa using a)]
    by_cases c : p.1 < q.1
    · rw [decide_eq_true c, decide_eq_true (by omega)]
    · rw [decide_eq_false c, decide_eq_false (by omega)]
theorem argBest_le (f : Nat → Int × Int) : ∀ k, argBest (fun i j => decide (¬ lexLe (f j) (f i))) k ≤ k ∧ ∀ i, i ≤ k → lexLe (f (argBest (fun i j => decide (¬ lexLe (f j) (f i))) k)) (f i)
  | 0 => ⟨Nat.le_refl _, fun i h => by rw [Nat.le_zero.mp h]; exact lexLe.refl _⟩
  | k + 1 => by
    obtain ⟨h1, h2⟩ := argBest_le f k
    unfold argBest
    by_cases c : lexLe (f (argBest (fun i j => decide (¬ lexLe (f j) (f i))) k)) (f (k + 1))
    · rw [if_neg (by simpa using c)]
      refine ⟨by omega, fun i hi => ?_⟩
      by_cases e : i = k + 1
      · rw [e]; exact c
      · exact h2 i (by omega)
    · rw [if_pos (by simpa using c)]
      refine ⟨Nat.le_refl _, fun i hi => ?_⟩
      by_cases e : i = k + 1
      · rw [e]; exact lexLe.refl _
      · rcases lexLe.total (f (argBest (fun i j => decide (¬ lexLe (f j) (f i))) k)) (f (k + 1)) with z | z
        · exact absurd z c
        · exact z.trans (h2 i (by omega))
section
variable {X : Cx}
/-- a key of two ints -/
def k2 (p : Int × Int) : List L2.Key := [Sum.inl p.1, Sum.inl p.2]
def rMinT : List V → Hp → VK → Prop := fun vs H Q => ∃ (a : Addr) (kvs : List (List L2.Key × V)) (ps : List (Int × Int)), vs = [V.ref a] ∧ H a = some (.dT kvs) ∧ kvs.map (·.1) = ps.map k2 ∧ ps ≠ [] ∧
  ∀ (q : Addr) (p : Int × Int), p ∈ ps → (∀ p' ∈ ps, lexLe p p') → H q = some (.tup [.int p.1, .int p.2]) → Q (.ref q) H
theorem cr_minT (hc : X.calm = true) (hu : X.A.units + 1 < cLine) : CallR X (.builtin "min") rMinT := by
  intro pins s σ H vs us Q I r h
  obtain ⟨a, kvs, ps, rfl, ha, hk, hne, q⟩ := h
  rw [Vals.ref1 r]
  obtain ⟨_, hsys, xs, rel, o, es, ep, ho, hx, hd, he, _⟩ := dt_of I.hok ha
  have hes : es.size = ps.length := by
    have e1 := congrArg List.length he
    have e2 := Paired.length rel
    have e3 := congrArg List.length hk
    rw [List.length_map] at e1
    rw [List.length_map, List.length_map] at e3
    rw [Array.length_toList] at e1
    omega
  have ent : ∀ (i : Nat) (v : Value), (∃ en, es[i]? = some en ∧ v = en.key) → ∃ b, v = .ref b ∧ i < ps.length ∧ H b = some (.tup [.int (ps.getD i (0, 0)).1, .int (ps.getD i (0, 0)).2]) := by
    rintro i v ⟨en, e1, rfl⟩
    have lt : i < ps.length := by
      rw [← hes]
      exact (Array.getElem?_eq_some_iff.mp e1).1
    have lk : i < kvs.length := by
      have e3 := congrArg List.length hk
      rw [List.length_map, List.length_map] at e3
      omega
    obtain ⟨b, hb, e4, e5, _⟩ := paired_get rel (List.getElem?_eq_getElem lk)
    have z := entry_at he i
    rw [hb] at z
    have z2 : es[i]? = some (entryOfKey (tupleKind (mixKind X.prog X.w)) b) := z
    rw [e1] at z2
    have z3 := Option.some.inj z2
    have ek : kvs[i].1 = k2 (ps.getD i (0, 0)) := by
      have w := congrArg (fun l => l[i]?) hk
      simp only [List.getElem?_map, List.getElem?_eq_getElem lk, List.getElem?_eq_getElem lt, Option.map_some] at w
      rw [Option.some.inj w, List.getD_eq_getElem?_getD, List.getElem?_eq_getElem lt]
      rfl
    refine ⟨b.2.1, by rw [z3]; rfl, lt, ?_⟩
    rw [e5, ek]
    rfl
  have n0 : 0 < es.size := by
    rw [hes]
    exact List.length_pos_iff.mpr hne
  refine min_over (n := es.size) (P := fun i v => ∃ en, es[i]? = some en ∧ v = en.key) (bt := fun i j => decide (¬ lexLe (ps.getD j (0, 0)) (ps.getD i (0, 0)))) n0 (fun i j vi vj s2 kp pi pj => ?_) (iter_keys hsys ho hx hd ?_)
  · obtain ⟨b, rfl, _, hb⟩ := ent i vi pi
    obtain ⟨c, rfl, _, hc'⟩ := ent j vj pj
    have z := (tup_less (ns := [(ps.getD i (0, 0)).1, (ps.getD i (0, 0)).2]) (ms := [(ps.getD j (0, 0)).1, (ps.getD j (0, 0)).2]) I hb hc' hu kp)
    have e2 : lexP (fun x y => decide (x < y)) (decide ([(ps.getD i (0, 0)).1, (ps.getD i (0, 0)).2].length < [(ps.getD j (0, 0)).1, (ps.getD j (0, 0)).2].length)) [(ps.getD i (0, 0)).1, (ps.getD i (0, 0)).2] [(ps.getD j (0, 0)).1, (ps.getD j (0, 0)).2] = decide (¬ lexLe (ps.getD j (0, 0)) (ps.getD i (0, 0))) := lexP_pair _ _
    rw [e2] at z
    exact z
  · have lt := Heap.lt_size ho
    refine ⟨s.heap.objs.size, _, _, _, rfl, walks_keys (prog := X.prog) (w := X.w) (A := X.A.in1) (I.ok.hd hc) (Nat.ne_of_lt lt) hd, ⟨⟨_, Heap.get?_push_size _ rfl, rfl, rfl⟩, Heap.get?_push_of_some _ ho⟩, fun b m => ?_, fun b m => ?_, fun c o e => Heap.get?_push_of_some _ e, ?_, fun v h' tk pv kp => ?_⟩
    · show b < (s.heap.push _).objs.size
      rw [Heap.size_push]
      rcases List.mem_cons.mp m with e | m
      · rw [e]; exact Nat.lt_succ_self _
      · rw [List.mem_singleton.mp m]; exact Nat.lt_succ_of_lt lt
    · rw [List.mem_singleton.mp m]
      cases z : s.heap.get? s.heap.objs.size with
      | none => rfl
      | some o => exact absurd (Heap.lt_size z) (Nat.lt_irrefl _)
    · show _ ≤ (s.heap.push _).objs.size
      rw [Heap.size_push]
      omega
    · obtain ⟨b, rfl, lt2, hb⟩ := ent _ v pv
      obtain ⟨b1, b2⟩ := argBest_le (fun i => ps.getD i (0, 0)) (es.size - 1)
      have at_ : ∀ i, i < ps.length → ps.getD i (0, 0) ∈ ps := fun i hi => by
        rw [List.getD_eq_getElem?_getD, List.getElem?_eq_getElem hi]
        exact List.getElem_mem hi
      refine ⟨.ref b, H, I.kept (t' := tk) fun c o e => kp c o e, rfl, q b _ (at_ _ lt2) (fun p' m => ?_) hb⟩
      obtain ⟨i, hi, e⟩ := List.mem_iff_getElem.mp m
      have e2 : ps.getD i (0, 0) = p' := by rw [List.getD_eq_getElem?_getD, List.getElem?_eq_getElem hi, ← e]; rfl
      rw [← e2]
      exact b2 i (by omega)
end
end Nc

/-! Own rules: d.setdefault(t, x) of a dict with tuples as keys; len(s) of a set of tuples. -/
namespace Nc
open PySem PySem.Spec PyProof.Rows L2
section
variable {X : Cx} {pins : List (Addr × Obj)} {σ : L2.St} {H : Hp} {s : Shared} {a b : Addr} {r : Value} {z : V} {ks : List L2.Key} {A : Around} {E : Value → Shared → Prop}
theorem setd_tup {kvs : List (List L2.Key × V)} {Q : Value → Shared → Prop} (hu : A.units + 1 < cLine) (I : L2.Inv X pins σ H s) (e : H a = some (.dT kvs)) (eb : H b = some (.tup (ks.map kV))) (rz : RelV z r) (room : kvs.length < sizeLine)
    (old : ∀ v, valV kvs ks = some v → ∀ w' s', L2.Inv X pins σ H s' → RelV v w' → Q w' s') (new : valV kvs ks = none → ∀ s', L2.Inv X pins σ (upd H a (.dT (putK kvs ks z))) s' → Q r s') :
    wpAny (model X.prog X.w) A (call (.builtin "dict.setdefault") [.ref a, .ref b, r]) Q E s := by
  obtain ⟨len, sys, xs, rel, dd⟩ := dt_of I.hok e
  have lx : xs.length ≤ sizeLine := by rw [← Paired.length rel]; exact len
  refine call_setdefault_heap (hsz := lx) (knd := tupleKind (mixKind X.prog X.w)) (tupleKind_room_in1 hu) (key_of I.hok eb) sys dd (fun p hp => ?_) fun hn h' dd' hs => ?_
  · have q := rel.val ks
    rw [hp] at q
    cases ev : valV kvs ks with
    | none => rw [ev] at q; exact (show False from q).elim
    | some v => rw [ev] at q; exact old v ev _ _ (I.tok _) q
  · have q := rel.val ks
    rw [hn] at q
    have ev : valV kvs ks = none := by
      cases ev : valV kvs ks with
      | none => rfl
      | some v => rw [ev] at q; exact (show False from q).elim
    have l2 : (putK kvs ks z).length ≤ sizeLine := Nat.le_trans (length_putK kvs ks z) room
    obtain ⟨o, es, ep, ho, c1, c2, c3, _, c4⟩ := dd'
    refine new ev _ (d_write I (by rw [e]; exact True.intro) hs ⟨o, ho⟩ ⟨l2, sys, _, (rel.put ks eb rz).keeps fun c ys ec => ?_, o, es, ep, ho, c1, c2, c3, c4⟩)
    rw [upd_ne (ne_of ec e (fun z => nomatch z))]; exact ec
end
/-- d.setdefault(t, x) -/
def tDSetdT (td ty tx : TE) : TE := fun σ H Q => td σ H fun x H1 => ∃ a, x = .ref a ∧ IsD H1 a ∧ ty σ H1 fun y H2 => tx σ H2 fun z H3 => ∃ (kvs : List (List L2.Key × V)) (ks : List L2.Key) (b : Addr), H3 a = some (.dT kvs) ∧ y = .ref b ∧ H3 b = some (.tup (ks.map kV)) ∧ kvs.length < sizeLine ∧
  (∀ v, valV kvs ks = some v → Q v H3) ∧ (valV kvs ks = none → Q z (upd H3 a (.dT (putK kvs ks z))))
theorem pe_dsetdT {X : Cx} {o e f : Expr} {td ty tx : TE} {apos cpos : Pos} (hu : X.A.units + 1 < cLine) (ho : PE X o td) (he : PE X e ty) (hf : PE X f tx) (m : M2 X o "setdefault" apos e f cpos) : PE X (.Call (.Attribute o "setdefault" apos) [e, f] [] cpos) (tDSetdT td ty tx) := by
  constructor
  intro pins s σ H Q I h
  refine wpAny_Call_method m.base m.few m.line PySem.F.plainAttrs_dict PySem.F.slot_dict_setdefault PySem.F.type_dict_setdefault (thn (ho.run pins s σ H _ I h) ?_)
  rintro u s1 ⟨x, H1, I1, rx, a, rfl, d, q1⟩
  cases rx
  obtain ⟨t1, t2, _⟩ := isD_at I1 d
  refine ⟨t1, t2, ?_⟩; rw [m.trees]
  refine Calls.callWith_builtin rfl (Calls.evalArgs_plain (Calls.spliced_cons (thn (he.run pins s1 σ H1 _ I1 q1) ?_)))
  rintro iv s2 ⟨y, H2, I2, ry, q2⟩
  refine Calls.spliced_cons (thn (hf.run pins s2 σ H2 _ I2 q2) ?_)
  rintro fv s3 ⟨z, H3, I3, rz, kvs, ks, b, ea, rfl, eb, room, q3, q4⟩
  cases ry
  exact Calls.spliced_nil (setd_tup hu I3 ea eb rz room (fun v hv w' s4 I4 rw' => ⟨v, _, I4, rw', q3 v hv⟩) fun hn s4 I4 => ⟨z, _, I4, rz, q4 hn⟩)
/-- len(s), s a set of tuples -/
def rLenT2 (P : Program) (w : World) : List V → Hp → VK → Prop := fun vs H Q => ∃ (a : Addr) (L : List (Addr × List Int)), vs = [.ref a] ∧ H a = some (SetTO P w a L) ∧ Q (.int (L.length : Nat)) H
theorem call_len_setT {X : Cx} : CallR X (.builtin "len") (rLenT2 X.prog X.w) := by
  intro pins s σ H xs us Q I r h
  obtain ⟨a, L, rfl, ha, q⟩ := h
  rw [Vals.ref1 r]
  have R0 : SetT0 X.prog X.w s.heap a L := (I.hok a _ ha).1
  obtain ⟨es, ep, t, ⟨o, ho, hex, hd⟩, rows, tab, _, _, _, room, few⟩ := R0.ex
  have sz : es.size = L.length := by
    have h := congrArg List.length rows
    unfold rowsOf at h
    rw [Array.length_toList, List.length_map] at h
    exact h
  have fits : t.fits es.size = true := by
    have h1 := tab.sz
    rw [List.length_map] at h1
    unfold SetTable.fits SetTable.fill
    rw [tab.dm, Bool.and_eq_true, beq_iff_eq, decide_eq_true_eq]
    show t.place.size = es.size ∧ t.place.size + 0 ≤ t.mask
    omega
  refine call_len_set ho hex hd fits (by omega) ?_
  rw [sz]
  exact ⟨.int (L.length : Nat), H, I.tok _, ⟨_, rfl⟩, q⟩
end Nc

/-! Own rules: readings with heaps that are told by what is true of them alone; walks over enumerate; sorted sites. -/
namespace Nc
open PySem PySem.Spec PyProof.Rows L2
section
variable {X : Cx}
def tTupG (t : TA) : TE := fun σ H Q => t σ H fun vs H1 => vs.length ≤ sizeLine ∧ ∀ p H2, Same H1 H2 → H1 p = none → H2 p = some (.tup vs) → Q (.ref p) H2
def tLstG (t : TA) : TE := fun σ H Q => t σ H fun vs H1 => vs.length ≤ sizeLine ∧ ∀ p H2, Same H1 H2 → H1 p = none → H2 p = some (.lst vs) → Q (.ref p) H2
def tDicG : TE := fun _ H Q => ∀ p H2, Same H H2 → H p = none → H2 p = some (.dK []) → Q (.ref p) H2
theorem pe_tupG {es : List Expr} {k : Nat} {pos : Pos} {t : TA} (h : PA X es t) : PE X (.Tuple es k pos) (tTupG t) := ⟨fun pins s σ H Q I w => by
  have step := h.run pos pins s σ H _ I w
  refine wpAny_Tuple_spliced (thn step fun us s1 got => ?_)
  rcases got with ⟨vs, H1, I1, rv, len, q⟩
  refine ⟨rv.length ▸ len, ?_⟩
  have free : H1 s1.heap.objs.size = none := I1.hok.fresh (Nat.le_refl _)
  have new : ObjOk X.prog X.w (upd H1 s1.heap.objs.size (.tup vs)) (s1.heap.push { cls := .type "tuple", data := .seq us.toArray }) s1.heap.objs.size (.tup vs) := ⟨len, us, rv, _, Heap.get?_push_size _ rfl, rfl, _, rfl⟩
  exact ⟨.ref _, _, I1.laid (t' := s1.toks) (fun _ _ e => Heap.get?_push_of_some _ e) (Nat.le_refl _) new, rfl, q _ _ (Same.upd free) free upd_same⟩⟩
theorem pe_lstG {es : List Expr} {pos : Pos} {t : TA} (h : PA X es t) : PE X (.List es pos) (tLstG t) := ⟨fun pins s σ H Q I w => by
  have step := h.run pos pins s σ H _ I w
  refine wpAny_List_spliced (thn step fun us s1 got => ?_)
  rcases got with ⟨vs, H1, I1, rv, len, q⟩
  refine ⟨rv.length ▸ len, ?_⟩
  have free : H1 s1.heap.objs.size = none := I1.hok.fresh (Nat.le_refl _)
  have new : ObjOk X.prog X.w (upd H1 s1.heap.objs.size (.lst vs)) (s1.heap.push { cls := .type "list", data := .seq us.toArray 0 }) s1.heap.objs.size (.lst vs) := ⟨len, us, 0, rv, Heap.get?_push_size _ rfl⟩
  exact ⟨.ref _, _, I1.laid (t' := s1.toks) (fun _ _ e => Heap.get?_push_of_some _ e) (Nat.le_refl _) new, rfl, q _ _ (Same.upd free) free upd_same⟩⟩
theorem pe_dicG {pos : Pos} : PE X (.Dict [] [] pos) tDicG := peOf pe_dnewK fun σ H Q q p np => q p _ (Same.upd np) np upd_same
def rCatG : R2 := fun x y H Q => ∃ l b xs zs, x = .ref l ∧ y = .ref b ∧ H l = some (.lst xs) ∧ H b = some (.lst zs) ∧ xs.length + zs.length ≤ sizeLine ∧ ∀ p H2, Same H H2 → H p = none → H2 p = some (.lst (xs ++ zs)) → Q (.ref p) H2
theorem op_catG : OpR X (binaryOp .Add) rCatG := fun pins s σ H x y v u Q I rx ry w => by
  rcases w with ⟨l, b, xs, zs, e1, e2, h1, h2, z, q⟩
  exact op_cat pins s σ H x y v u Q I rx ry ⟨l, b, xs, zs, e1, e2, h1, h2, z, fun p np => q p _ (Same.upd np) np upd_same⟩
def tDnTG : TE := fun _ H Q => ∀ p H2, Same H H2 → H p = none → H2 p = some (.dT []) → Q (.ref p) H2
theorem pe_dnTG {pos : Pos} : PE X (.Dict [] [] pos) tDnTG := peOf pe_dnewT fun σ H Q q p np => q p _ (Same.upd np) np upd_same
def unref : V → Addr
  | .ref t => t
  | _ => 0
theorem unref_map : ∀ {ys : List V}, (∀ y ∈ ys, ∃ t, y = V.ref t) → ys = (ys.map unref).map V.ref
  | [], _ => rfl
  | y :: ys, h => by
    obtain ⟨t, rfl⟩ := h y List.mem_cons_self
    rw [List.map_cons, List.map_cons, ← unref_map fun z m => h z (List.mem_cons_of_mem _ m)]
    rfl
/-- sorted(xs), xs a list of pairs of ints, f the ints at each address -/
def rSortS (K : PySem.W.Frag) : List V → Hp → VK → Prop := fun vs H Q => ∃ (a : Addr) (ts : List Addr) (f : Addr → Int × Int), vs = [V.ref a] ∧ SqL K H a (ts.map V.ref) ∧ (∀ t ∈ ts, H t = some (.tup [.int (f t).1, .int (f t).2])) ∧
  ∀ (us : List Addr) (p : Addr) (H2 : Hp), us.Perm ts → us.Pairwise (fun a b => lexLe (f a) (f b)) → Same H H2 → H p = none → H2 p = some (.lst (us.map V.ref)) → Q (.ref p) H2
theorem cr_sortS : CallR X (.builtin "sorted") (rSortS X.K) := by
  intro pins s σ H vs us Q I r h
  obtain ⟨a, ts, f, rfl, hl, hk, q⟩ := h
  refine cr_sortedPO pins s σ H _ us Q I r ⟨a, ts.map V.ref, fun v => f (unref v), rfl, hl, fun x m => ?_, fun ys p so st np => ?_⟩
  · obtain ⟨t, mt, rfl⟩ := List.mem_map.mp m
    exact ⟨t, rfl, hk t mt⟩
  · have pm := st.perm
    have er : ys = (ys.map unref).map V.ref := unref_map fun y m => by
      obtain ⟨t, _, e⟩ := List.mem_map.mp (pm.mem_iff.mp m)
      exact ⟨t, e.symm⟩
    refine q (ys.map unref) p _ ?_ ?_ (Same.upd np) np (by rw [← er]; exact upd_same)
    · have z := pm.map unref
      rw [List.map_map, show (unref ∘ V.ref) = id from funext fun _ => rfl, List.map_id] at z
      exact z
    · rw [List.pairwise_map]
      refine List.Pairwise.imp_of_mem (fun {x y} mx my h => ?_) so
      have w := SrtO.lexB_no.mp h
      unfold lexLe
      dsimp only at w
      omega
/-- xs[a:b], a new list -/
def rSlG (K : PySem.W.Frag) : V → Option Int → Option Int → Hp → VK → Prop := fun x lo hi H Q => ∃ a xs, x = .ref a ∧ SqL K H a xs ∧ ∀ p H2, Same H H2 → H p = none → H2 p = some (.lst (cutV xs lo hi)) → Q (.ref p) H2
theorem sl_listG : SlR X (rSlG X.K) := fun pins s σ H x v vl vu lo hi sl Q I rx hs pl pu h => by
  rcases h with ⟨a, xs, e1, e2, q⟩
  exact sl_list pins s σ H x v vl vu lo hi sl Q I rx hs pl pu ⟨a, xs, e1, e2, fun p np => q p _ (Same.upd np) np upd_same⟩
end
theorem for_enumG {K : PySem.W.Frag} {a : Addr} {xs : List V} {g : TG} {tb : TS} {D : Ends} {σ : L2.St} {H : Hp} (Pv : Nat → L2.St → Hp → Prop) (start : Pv 0 σ H) (held : ∀ i σ H, i ≤ xs.length → Pv i σ H → SqL K H a xs)
    (turn : ∀ i x σ H, xs[i]? = some x → Pv i σ H → ∀ T H', Same H H' → H T = none → H' T = some (.tup [.int (i : Nat), x]) → g (.ref T) σ H' fun σ2 H2 => tb { D with nx := Pv (i + 1), ct := Pv (i + 1), bk := D.nx } σ2 H2) (done : ∀ σ H, Pv xs.length σ H → D.nx σ H) :
    ∃ W : Nat → Nat → L2.St → Hp → Prop, (∃ m, W 0 m σ H) ∧ ∀ i m σ H, W i m σ H → ((Ite K a).stop i H ∧ D.nx σ H) ∨ ((Ite K a).go i H ∧ ∃ N : L2.St → Hp → Prop, (∀ σ' H', N σ' H' → ∃ m', m' < m ∧ W (i + 1) m' σ' H') ∧ ∀ x H', (Ite K a).yld i H x H' → g x σ H' fun σ2 H2 => tb { D with nx := N, ct := N, bk := D.nx } σ2 H2) := by
  refine ⟨fun i m σ H => m = xs.length - i ∧ i ≤ xs.length ∧ Pv i σ H, ⟨_, rfl, Nat.zero_le _, start⟩, fun i m σ H w => ?_⟩
  obtain ⟨rfl, le, p⟩ := w
  have seq := held i σ H le p
  by_cases lt : i < xs.length
  · refine .inr ⟨⟨xs, xs[i], seq, List.getElem?_eq_getElem lt⟩, Pv (i + 1), fun σ' H' p' => ⟨_, by omega, rfl, lt, p'⟩, fun y H' yl => ?_⟩
    obtain ⟨T, x, rfl, free, rfl, at_⟩ := yl
    exact turn i x σ H (at_ xs seq) p T _ (Same.upd free) free upd_same
  · have e : i = xs.length := by omega
    subst e
    exact .inl ⟨⟨xs, seq, Nat.le_refl _⟩, done σ H p⟩
theorem lc_enumG {K : PySem.W.Frag} {a : Addr} {xs : List V} {g : TG} {tt : TT} {te : TE} {vs : List Nat} {σ : L2.St} {H1 : Hp} {D : Addr} {Qd : Hp → Prop} (Pv : Nat → Hp → Prop) (start : Pv 0 (upd H1 D (.lst []))) (held : ∀ i H, i ≤ xs.length → Pv i H → SqL K H a xs)
    (turn : ∀ i x H, xs[i]? = some x → Pv i H → ∀ T H', Same H H' → H T = none → H' T = some (.tup [.int (i : Nat), x]) → g (.ref T) (wipe σ vs) H' fun σ2 H2 => wipe σ2 vs = wipe σ vs ∧ tt σ2 H2 fun b H3 =>
      if b = true then te σ2 H3 fun y H4 => ∃ acc, H4 D = some (.lst acc) ∧ acc.length < sizeLine ∧ Pv (i + 1) (upd H4 D (.lst (acc ++ [y]))) else Pv (i + 1) H3) (done : ∀ H, Pv xs.length H → Qd H) :
    ∃ W : Nat → Nat → Hp → Prop, (∃ m, W 0 m (upd H1 D (.lst []))) ∧ ∀ i m H, W i m H → ((Ite K a).stop i H ∧ Qd H) ∨ ((Ite K a).go i H ∧ ∃ Nx : Hp → Prop, (∀ H', Nx H' → ∃ m', m' < m ∧ W (i + 1) m' H') ∧ ∀ x H', (Ite K a).yld i H x H' → g x (wipe σ vs) H' fun σ2 H2 => wipe σ2 vs = wipe σ vs ∧ tt σ2 H2 fun b H3 =>
        if b = true then te σ2 H3 fun y H4 => ∃ acc, H4 D = some (.lst acc) ∧ acc.length < sizeLine ∧ Nx (upd H4 D (.lst (acc ++ [y]))) else Nx H3) := by
  refine ⟨fun i m H => m = xs.length - i ∧ i ≤ xs.length ∧ Pv i H, ⟨_, rfl, Nat.zero_le _, start⟩, fun i m H w => ?_⟩
  obtain ⟨rfl, le, p⟩ := w
  have seq := held i H le p
  by_cases lt : i < xs.length
  · refine .inr ⟨⟨xs, xs[i], seq, List.getElem?_eq_getElem lt⟩, Pv (i + 1), fun H' p' => ⟨_, by omega, rfl, lt, p'⟩, fun y H' yl => ?_⟩
    obtain ⟨T, x, rfl, free, rfl, at_⟩ := yl
    exact turn i x H (at_ xs seq) p T _ (Same.upd free) free upd_same
  · have e : i = xs.length := by omega
    subst e
    exact .inl ⟨⟨xs, seq, Nat.le_refl _⟩, done H p⟩
end Nc

/-! Own rules: the readings of comprehensions with two for. -/
namespace Nc
open PySem PySem.Spec PyProof.Rows L2
section
variable {J : It} {n : Nat} {G : Hp → Prop} {Y : Nat → Hp → V → Hp → Prop}
theorem lc2_out (w : Walk J n G Y) {g : TG} {tt : TT} {B : L2.St → Hp → (Hp → Prop) → Prop} {vs : List Nat} {σ : L2.St} {H1 : Hp} {D : Addr} {Qd : Hp → Prop} (Pv : Nat → Hp → Prop) (start : Pv 0 (upd H1 D (.lst []))) (held : ∀ i H, i ≤ n → Pv i H → G H)
    (turn : ∀ i x H H', i < n → Pv i H → Y i H x H' → g x (wipe σ vs) H' fun σ2 H2 => wipe σ2 vs = wipe σ vs ∧ tt σ2 H2 fun b H3 => if b = true then B σ2 H3 (Pv (i + 1)) else Pv (i + 1) H3) (done : ∀ H, Pv n H → Qd H) :
    ∃ W : Nat → Nat → Hp → Prop, (∃ m, W 0 m (upd H1 D (.lst []))) ∧ ∀ i m H, W i m H → (J.stop i H ∧ Qd H) ∨ (J.go i H ∧ ∃ N : Hp → Prop, (∀ H', N H' → ∃ m', m' < m ∧ W (i + 1) m' H') ∧ ∀ x H', J.yld i H x H' → g x (wipe σ vs) H' fun σ2 H2 => wipe σ2 vs = wipe σ vs ∧ tt σ2 H2 fun b H3 => if b = true then B σ2 H3 N else N H3) := by
  refine ⟨fun i m H => m + i = n ∧ Pv i H, ⟨n, rfl, start⟩, fun i m H w' => ?_⟩
  have le : i ≤ n := by omega
  have g0 := held i H le w'.2
  by_cases lt : i < n
  · exact .inr ⟨w.goes i H lt g0, Pv (i + 1), fun H' p => ⟨m - 1, by omega, by omega, p⟩, fun x H' y => turn i x H H' lt w'.2 (w.yields i H x H' lt g0 y)⟩
  · have e : i = n := by omega
    subst e
    exact .inl ⟨w.stops H g0, done H w'.2⟩
theorem lc2_in (w : Walk J n G Y) {g : TG} {tt : TT} {te : TE} {vs : List Nat} {σ2 : L2.St} {H4 : Hp} {D : Addr} {N : Hp → Prop} (Pw : Nat → Hp → Prop) (start : Pw 0 H4) (held : ∀ j H, j ≤ n → Pw j H → G H)
    (turn : ∀ j x H H', j < n → Pw j H → Y j H x H' → g x (wipe σ2 vs) H' fun σ3 H5 => wipe σ3 vs = wipe σ2 vs ∧ tt σ3 H5 fun b H6 => if b = true then te σ3 H6 fun y H7 => ∃ acc, H7 D = some (.lst acc) ∧ acc.length < sizeLine ∧ Pw (j + 1) (upd H7 D (.lst (acc ++ [y]))) else Pw (j + 1) H6) (done : ∀ H, Pw n H → N H) :
    ∃ W : Nat → Nat → Hp → Prop, (∃ m, W 0 m H4) ∧ ∀ j k H, W j k H → (J.stop j H ∧ N H) ∨ (J.go j H ∧ ∃ N1 : Hp → Prop, (∀ H', N1 H' → ∃ k', k' < k ∧ W (j + 1) k' H') ∧ ∀ x H', J.yld j H x H' → g x (wipe σ2 vs) H' fun σ3 H5 => wipe σ3 vs = wipe σ2 vs ∧ tt σ3 H5 fun b H6 =>
      if b = true then te σ3 H6 fun y H7 => ∃ acc, H7 D = some (.lst acc) ∧ acc.length < sizeLine ∧ N1 (upd H7 D (.lst (acc ++ [y]))) else N1 H6) := by
  refine ⟨fun j m H => m + j = n ∧ Pw j H, ⟨n, rfl, start⟩, fun j m H w' => ?_⟩
  have le : j ≤ n := by omega
  have g0 := held j H le w'.2
  by_cases lt : j < n
  · exact .inr ⟨w.goes j H lt g0, Pw (j + 1), fun H' p => ⟨m - 1, by omega, by omega, p⟩, fun x H' y => turn j x H H' lt w'.2 (w.yields j H x H' lt g0 y)⟩
  · have e : j = n := by omega
    subst e
    exact .inl ⟨w.stops H g0, done H w'.2⟩
end
end Nc

/-! Own rules: a written dict whose keys are tuples. -/
namespace Nc
open PySem PySem.Spec PyProof.Rows L2
abbrev Ent := List L2.Key × Addr × V
section
variable {X : Cx} {pins : List (Addr × Obj)} {σ : L2.St} {a : Addr} {A : Around} {E : Value → Shared → Prop}
/-- pair by pair into a dict of tuple keys -/
theorem store_tups (hu : A.units < cLine) : ∀ (es : List Ent) (vs : List (Value × Value)) (kvs : List (List L2.Key × V)) (s : Shared) (H : Hp) (Q : PUnit → Shared → Prop), L2.Inv X pins σ H s → H a = some (.dT kvs) → VV (es.map fun e => (V.ref e.2.1, e.2.2)) vs → (∀ e ∈ es, H e.2.1 = some (.tup (e.1.map kV))) → kvs.length + es.length ≤ sizeLine →
    (∀ s', L2.Inv X pins σ (upd H a (.dT (es.foldl (fun acc e => putK acc e.1 e.2.2) kvs))) s' → Q PUnit.unit s') → wpAny (model X.prog X.w) A (storeAll a vs) Q E s := by
  intro es
  induction es with
  | nil =>
    intro vs kvs s H Q I e rv _ _ q
    cases rv
    unfold storeAll
    rw [List.forIn_nil]
    refine wpAny_pure (q s ?_)
    have back : upd H a (.dT kvs) = H := funext fun b => by
      by_cases c : b = a
      · rw [c, upd_same, e]
      · rw [upd_ne c]
    show L2.Inv X pins σ (upd H a (.dT kvs)) s
    rw [back]
    exact I
  | cons e es ih =>
    intro vs kvs s H Q I ea rv hk room q
    cases rv with
    | cons r0 rv =>
      rename_i v0 vs
      obtain ⟨u, r⟩ := v0
      obtain ⟨r1, r2⟩ := r0
      cases r1
      rw [List.length_cons] at room
      unfold storeAll
      rw [List.forIn_cons]
      obtain ⟨len, sys, xs, rel, dd⟩ := dt_of I.hok ea
      have lx : xs.length ≤ sizeLine := by rw [← Paired.length rel]; exact len
      refine wpAny_bind (wpAny_bind (wpAny_dictSet_heap (hsz := lx) (knd := tupleKind (mixKind X.prog X.w)) hu (key_of I.hok (hk e List.mem_cons_self)) dd fun h' dd' hs => wpAny_pure ?_))
      have l2 : (putK kvs e.1 e.2.2).length ≤ sizeLine := Nat.le_trans (length_putK kvs _ _) (by omega)
      obtain ⟨o, ds, ep, ho, c1, c2, c3, _, c4⟩ := dd'
      have I2 : L2.Inv X pins σ (upd H a (.dT (putK kvs e.1 e.2.2))) { s with heap := h', toks := s.toks + (tupleKind (mixKind X.prog X.w)).draws e.1 } := d_write I (by rw [ea]; exact True.intro) hs ⟨o, ho⟩ ⟨l2, sys, _, (rel.put e.1 (hk e List.mem_cons_self) r2).keeps fun c ys ec => (by rw [upd_ne (ne_of ec ea (fun z => nomatch z))]; exact ec), o, ds, ep, ho, c1, c2, c3, c4⟩
      have up : ∀ x y : HO, upd (upd H a x) a y = upd H a y := fun x y => funext fun b => by
        by_cases c : b = a
        · rw [c, upd_same, upd_same]
        · rw [upd_ne c, upd_ne c, upd_ne c]
      refine ih vs (putK kvs e.1 e.2.2) _ _ Q I2 upd_same rv (fun e' m => ?_) (by have := length_putK kvs e.1 e.2.2; omega) fun s' I' => q s' ?_
      · rw [upd_ne (ne_of (hk e' (List.mem_cons_of_mem _ m)) ea (fun z => nomatch z))]
        exact hk e' (List.mem_cons_of_mem _ m)
      · rw [up] at I'
        exact I'
end
/-- {t: v, ..}; the new dict stands empty while the pairs are made -/
def tDispT (trs : List (TE × TE)) : TE := fun σ H Q => ∀ p, H p = none → tPairs trs σ (upd H p (.dT [])) fun ps H2 => H2 p = some (.dT []) ∧ ∃ es : List Ent, ps = es.map (fun e => (V.ref e.2.1, e.2.2)) ∧ (∀ e ∈ es, H2 e.2.1 = some (.tup (e.1.map kV))) ∧ es.length ≤ 15 ∧ Q (.ref p) (upd H2 p (.dT (es.foldl (fun acc e => putK acc e.1 e.2.2) [])))
theorem pe_dispT {X : Cx} {pos : Pos} {keys : List (Option Expr)} {values : List Expr} {trs : List (TE × TE)} (hu : X.A.units < cLine) (h : PPs X pos keys values trs) (hall : keys.all (·.isSome) = true) (hl : keys.length = values.length) (h0 : keys ≠ []) (h15 : keys.length ≤ 15) : PE X (.Dict keys values pos) (tDispT trs) := by
  constructor
  intro pins s σ H Q I q
  have I1 := I.laid (a := s.heap.objs.size) (o := .dT []) (h' := s.heap.push { cls := .type "dict", data := .dict #[] }) (t' := s.toks) (fun _ _ q => Heap.get?_push_of_some _ q) (Nat.le_refl _) (dt_empty s.heap I.big)
  refine wpAny_Dict_any hall hl h0 h15 (thn (h.run pins _ σ _ _ I1 (q _ (I.hok.fresh (Nat.le_refl s.heap.objs.size)))) ?_)
  rintro ws s2 ⟨ps, H2, I2, rel, e, es, rfl, hk, few, q2⟩
  exact store_tups hu es ws [] s2 H2 _ I2 e rel hk (by rw [List.length_nil]; have : (15 : Nat) ≤ sizeLine := by decide
                                                       omega) fun s' I' => ⟨.ref s.heap.objs.size, _, I', rfl, q2⟩
end Nc

/-! Own rules: how many a set of tuples holds, no two alike. -/
namespace Nc
open PySem PySem.Spec PyProof.Rows L2
def rLenTN (P : Program) (w : World) : List V → Hp → VK → Prop := fun vs H Q => ∃ (a : Addr) (L : List (Addr × List Int)), vs = [.ref a] ∧ H a = some (SetTO P w a L) ∧ ((L.map (·.2)).Nodup → Q (.int (L.length : Nat)) H)
theorem call_len_setN {X : Cx} : CallR X (.builtin "len") (rLenTN X.prog X.w) := by
  intro pins s σ H xs us Q I r h
  obtain ⟨a, L, rfl, ha, q⟩ := h
  have R0 : SetT0 X.prog X.w s.heap a L := (I.hok a _ ha).1
  obtain ⟨es, ep, t, R⟩ := R0.ex
  exact call_len_setT pins s σ H _ us Q I r ⟨a, L, rfl, ha, q R.2.2.2.1⟩
/-- no two alike, all among others: no more than these -/
theorem len_le_of_sub {α : Type} [BEq α] [LawfulBEq α] : ∀ {l m : List α}, l.Nodup → (∀ x ∈ l, x ∈ m) → l.length ≤ m.length
  | [], _, _, _ => Nat.zero_le _
  | x :: l, m, n, h => by
    obtain ⟨n1, n2⟩ := List.nodup_cons.mp n
    have mx := h x List.mem_cons_self
    have := len_le_of_sub (l := l) (m := m.erase x) n2 fun y hy => (List.mem_erase_of_ne (fun e => n1 (by rw [← e]; exact hy))).mpr (h y (List.mem_cons_of_mem _ hy))
    rw [List.length_erase_of_mem mx] at this
    have pos : 0 < m.length := List.length_pos_of_mem mx
    rw [List.length_cons]
    omega
end Nc

/-! Own rules: slices with the step -1. -/
namespace Nc
open PySem PySem.Spec PyProof.Rows L2
theorem range_down (n : Nat) (s : Nat) : sliceRange ((s + n : Nat) : Int) (s : Int) (-1) = (List.range n).map fun k => s + n - k := by
  unfold sliceRange
  have h1 : ¬ ((-1 : Int) > 0) := by decide
  by_cases h : n = 0
  · subst h
    simp
  · have h2 : (((s + n : Nat) : Int) > (s : Int)) := by omega
    have e : (((s + n : Nat) : Int) - (s : Int) - -1 - 1) / (- -1) = (n : Int) := by
      rw [show (- -1 : Int) = 1 by decide, Int.ediv_one]
      omega
    simp only [h1, if_false, h2, if_true, e, Int.toNat_natCast]
    apply List.map_congr_left
    intro k hk
    have := List.mem_range.mp hk
    omega
/-- xs[a:b:-1] by what is picked -/
def tSlB (K : PySem.W.Frag) (lo hi : Option Int) (F : List V → List V) (te : TE) : TE := fun σ H Q => te σ H fun x H1 => ∃ a xs, x = .ref a ∧ SqL K H1 a xs ∧ ∀ p H2, Same H1 H2 → H1 p = none → H2 p = some (.lst (F xs)) → Q (.ref p) H2
/-- F tells what is picked, of values and of what stands for them -/
structure Picks (lo hi : Option Int) (F : ∀ {α : Type}, List α → List α) : Prop where
  pick : ∀ items : Array Value, slicePick items lo hi (some (-1)) = (F items.toList).toArray
  vals : ∀ {xs : List V} {us : List Value}, Vals xs us → Vals (F xs) (F us)
  len : ∀ (xs : List V), (F xs).length ≤ xs.length
section
variable {X : Cx}
theorem pe_slB {lo hi : Option Int} {elo ehi : Option Expr} {e : Expr} {te : TE} {k : Nat} {p1 p2 p3 pos : Pos} {F : ∀ {α : Type}, List α → List α} (pk : Picks lo hi F) (he : PE X e te)
    {tl th : TO} (hl : PO X elo tl) (ql : ∀ σ H (Q : Option Int → Hp → Prop), Q lo H → tl σ H Q) (hh : PO X ehi th) (qh : ∀ σ H (Q : Option Int → Hp → Prop), Q hi H → th σ H Q) :
    PE X (.Subscript e (.Slice elo ehi (some (.UnaryOp .USub (.Constant (.int 1) k p1) p2)) p3) pos) (tSlB X.K lo hi F te) := by
  refine ⟨fun pins s σ H Q I h => ?_⟩
  refine Subscript_ (thn (he.run pins s σ H _ I h) fun v s1 ⟨x, H1, I1, r1, q1⟩ => ?_)
  obtain ⟨a, xs, ex, hx, q⟩ := q1
  subst ex
  cases r1
  have hst : PO X (some (.UnaryOp .USub (.Constant (.int 1) k p1) p2)) (tPart (tUn (rU fun i => .int (-i)) (tC (.int 1)))) := po_some (pe_un un_neg pe_int)
  refine wpAny_Slice (thn (hl.run pins s1 σ H1 (fun o H2 => o = lo ∧ H2 = H1) I1 (ql _ _ _ ⟨rfl, rfl⟩)) fun vl s2 ⟨l, H2, I2, pl, el, e2⟩ => ?_)
  subst el e2
  refine thn (hh.run pins s2 σ H2 (fun o H3 => o = hi ∧ H3 = H2) I2 (qh _ _ _ ⟨rfl, rfl⟩)) fun vu s3 ⟨u, H3, I3, pu, eu, e3⟩ => ?_
  subst eu e3
  refine thn (hst.run pins s3 σ H3 (fun o H4 => o = some (-1) ∧ H4 = H3) I3 ⟨1, rfl, -1, rfl, rfl, rfl⟩) fun vs s4 ⟨o, H4, I4, ps, eo, e4⟩ => ?_
  subst eo e4
  have I5 : Inv X pins σ H4 { s4 with heap := s4.heap.push { cls := .type "slice", data := .fields #[vl, vu, vs] } } := I4.kept (t' := s4.toks) fun b ob q => Heap.get?_push_of_some _ q
  obtain ⟨its, r, ht, hz⟩ := I5.list hx
  have hlen := r.length
  show wpAny (model X.prog X.w) X.A (subscriptTail e (.Slice elo ehi (some (.UnaryOp .USub (.Constant (.int 1) k p1) p2)) p3) (.ref a) (.ref s4.heap.objs.size)) (EP X pins σ Q) X.xe { s4 with heap := s4.heap.push { cls := .type "slice", data := .fields #[vl, vu, vs] } }
  refine tail_any (ops := [.ref a, .ref s4.heap.objs.size]) ht.isList.typeIs (PySem.slot_list_getitem.lookup) ?_ (by with_unfolding_all rfl)
  refine wpAny_getItem_list_slice ht.isList (Heap.IsSliceOf.new _ vl vu vs) pl pu ps (by decide) ?_ (by rw [List.size_toArray]; omega)
  rw [pk.pick]
  have nn := I5.hok.fresh (Nat.le_refl _)
  refine ⟨.ref _, _, I5.laid (t' := s4.toks) (o := .lst (F xs)) (fun b ob q => Heap.get?_push_of_some _ q) (Nat.le_refl _) ?_, rfl, q _ _ (Same.upd nn) nn upd_same⟩
  exact ⟨Nat.le_trans (pk.len xs) hz, _, 0, pk.vals r, Heap.get?_push_size _ rfl⟩
end
theorem range_rev (m s : Nat) : (List.range m).map (fun k => s + m - k) = ((List.range m).map (fun k => s + 1 + k)).reverse := by
  apply List.ext_getElem
  · simp
  · intro i h1 h2
    simp only [List.length_map, List.length_range] at h1
    rw [List.getElem_reverse]
    simp only [List.getElem_map, List.getElem_range, List.length_map, List.length_range]
    omega
theorem range_rev0 (m : Nat) : (List.range m).map (fun k => m - 1 - k) = ((List.range m).map (fun k => 0 + k)).reverse := by
  apply List.ext_getElem
  · simp
  · intro i h1 h2
    simp only [List.length_map, List.length_range] at h1
    rw [List.getElem_reverse]
    simp only [List.getElem_map, List.getElem_range, List.length_map, List.length_range]
    omega
/-- xs[-2:0:-1] -/
def inner {α : Type} (l : List α) : List α := (l.drop 1).dropLast.reverse
/-- xs[-2::-1] -/
def backL {α : Type} (l : List α) : List α := l.dropLast.reverse
theorem picks_inner : Picks (some (-2)) (some 0) inner where
  pick := fun items => by
    unfold slicePick inner
    rcases Nat.lt_or_ge items.size 2 with h | h
    · have e : (sliceBounds (some (-2)) (some 0) (some (-1)) items.size).1 = -1 := by
        unfold sliceBounds
        simp only [Option.getD_some]
        have : ¬ ((-1 : Int) > 0) := by decide
        simp only [this, if_false]
        rw [if_pos (by decide)]
        omega
      have e2 : ¬ (sliceBounds (some (-2)) (some 0) (some (-1)) items.size).1 > (sliceBounds (some (-2)) (some 0) (some (-1)) items.size).2.1 := by
        rw [e]
        unfold sliceBounds
        simp only [Option.getD_some]
        have : ¬ ((-1 : Int) > 0) := by decide
        simp only [this, if_false]
        omega
      have e3 : (sliceBounds (some (-2)) (some 0) (some (-1)) items.size).2.2 = -1 := rfl
      have e4 : (items.toList.drop 1).dropLast = [] := by
        apply List.eq_nil_of_length_eq_zero
        rw [List.length_dropLast, List.length_drop, Array.length_toList]
        omega
      rw [e3, e4]
      unfold sliceRange
      rw [if_neg (by decide), if_neg e2]
      rfl
    · obtain ⟨m, hm⟩ : ∃ m, items.size = m + 2 := ⟨items.size - 2, by omega⟩
      have e : sliceBounds (some (-2)) (some 0) (some (-1)) items.size = (((0 + m : Nat) : Int), ((0 : Nat) : Int), -1) := by
        unfold sliceBounds
        simp only [Option.getD_some]
        have : ¬ ((-1 : Int) > 0) := by decide
        simp only [this, if_false]
        rw [if_pos (by decide), if_neg (by decide), hm]
        refine Prod.ext ?_ (Prod.ext ?_ rfl)
        · show max (-1) (min (-2 + ((m + 2 : Nat) : Int)) (((m + 2 : Nat) : Int) - 1)) = ((0 + m : Nat) : Int)
          omega
        · show max (-1) (min 0 (((m + 2 : Nat) : Int) - 1)) = ((0 : Nat) : Int)
          omega
      rw [e, range_down, range_rev, List.filterMap_reverse, pick_run items (0 + 1) m, List.dropLast_eq_take, List.length_drop, Array.length_toList, hm]
      rfl
  vals := fun r => by
    unfold inner
    have d := Vals.drop 1 r
    refine Vals.reverse ?_
    rw [List.dropLast_eq_take, List.dropLast_eq_take, d.length]
    exact Vals.take _ d
  len := fun xs => by
    unfold inner
    rw [List.length_reverse, List.length_dropLast, List.length_drop]
    omega
theorem picks_backL : Picks (some (-2)) none backL where
  pick := fun items => by
    unfold slicePick backL
    rcases Nat.eq_zero_or_pos items.size with h | h
    · have e : items.toList = [] := List.eq_nil_of_length_eq_zero (by rw [Array.length_toList]; exact h)
      have e1 : sliceBounds (some (-2)) none (some (-1)) items.size = (-1, -1, -1) := by
        rw [h]
        rfl
      rw [e, e1]
      rfl
    · obtain ⟨m, hm⟩ : ∃ m, items.size = m + 1 := ⟨items.size - 1, by omega⟩
      have e : sliceBounds (some (-2)) none (some (-1)) items.size = ((m : Int) - 1, -1, -1) := by
        unfold sliceBounds
        simp only [Option.getD_some]
        have : ¬ ((-1 : Int) > 0) := by decide
        simp only [this, if_false]
        rw [if_pos (by decide), hm]
        refine Prod.ext ?_ rfl
        show max (-1) (min (-2 + ((m + 1 : Nat) : Int)) (((m + 1 : Nat) : Int) - 1)) = (m : Int) - 1
        omega
      rw [e]
      show ((sliceRange ((m : Int) - 1) (-1) (-1)).filterMap (items[·]?)).toArray = _
      rw [PySem.W.krv_sliceRange, range_rev0, List.filterMap_reverse, pick_run items 0 m, List.dropLast_eq_take, Array.length_toList, hm]
      rfl
  vals := fun r => by
    unfold backL
    refine Vals.reverse ?_
    rw [List.dropLast_eq_take, List.dropLast_eq_take, r.length]
    exact Vals.take _ r
  len := fun xs => by
    unfold backL
    rw [List.length_reverse, List.length_dropLast]
    omega
end Nc

/-! Own rules: comprehensions whose items are told one by one. -/
namespace Nc
open PySem PySem.Spec PyProof.Rows L2
section
variable {J : It} {n : Nat} {G : Hp → Prop} {Y : Nat → Hp → V → Hp → Prop} {g : TG} {te : TE} {tt : TT} {vs : List Nat} {σ : L2.St} {H1 : Hp} {D : Addr} {Qd : Hp → Prop}
theorem same_upd_of {H H' : Hp} {D : Addr} {o : HO} (s : Same H H') (n : H D = none) : Same H (upd H' D o) := fun b x e => by
  rw [upd_ne (ne_of_none e n)]
  exact s b x e
/-- each item is told by Rel, of the heap where it was made; Rel speaks of what stood ahead and of what is not the new list -/
theorem lc_rel (w : Walk J n G Y) (nD : H1 D = none) (few : n ≤ 100000) (Gs : ∀ H, Same H1 H → G H) (Rel : Nat → V → Hp → Prop)
    (stay : ∀ i y H H', (∀ b o, b ≠ D → H b = some o → H' b = some o) → Rel i y H → Rel i y H')
    (hs : ∀ i x H H' (Kp : VK), i < n → Same H1 H → (∃ acc, H D = some (.lst acc)) → Y i H x H' → (∀ y H4, Same H H4 → Rel i y H4 → Kp y H4) → g x (wipe σ vs) H' fun σ2 H2 => wipe σ2 vs = wipe σ vs ∧ te σ2 H2 Kp)
    (hd : ∀ H' ys, Same H1 H' → H' D = some (.lst ys) → ys.length = n → (∀ i y, ys[i]? = some y → Rel i y H') → Qd H') :
    ∃ W : Nat → Nat → Hp → Prop, (∃ m, W 0 m (upd H1 D (.lst []))) ∧ ∀ i m H, W i m H →
      (J.stop i H ∧ Qd H) ∨ (J.go i H ∧ ∃ Nx : Hp → Prop, (∀ H', Nx H' → ∃ m', m' < m ∧ W (i + 1) m' H') ∧ ∀ x H', J.yld i H x H' → g x (wipe σ vs) H' fun σ2 H2 => wipe σ2 vs = wipe σ vs ∧ tYes σ2 H2 fun b H3 =>
        if b = true then te σ2 H3 fun y H4 => ∃ acc, H4 D = some (.lst acc) ∧ acc.length < sizeLine ∧ Nx (upd H4 D (.lst (acc ++ [y]))) else Nx H3) := by
  refine lc_it w (tt := tYes) (fun i H => Same H1 H ∧ ∃ ys, H D = some (.lst ys) ∧ ys.length = i ∧ ∀ j y, ys[j]? = some y → Rel j y H) ⟨same_upd_of (fun _ _ e => e) nD, [], upd_same, rfl, fun _ _ e => nomatch e⟩ (fun i H _ z => Gs H z.1) (fun i x H H' hi z y => ?_) fun H z => ?_
  · obtain ⟨s1, ys, eD, len, rel⟩ := z
    refine hs i x H H' _ hi s1 ⟨ys, eD⟩ y fun v H4 s4 r4 => ?_
    have e4 := s4 _ _ eD
    have s14 : Same H1 H4 := fun b o e => s4 _ _ (s1 _ _ e)
    have lift : ∀ b o, b ≠ D → H4 b = some o → (upd H4 D (.lst (ys ++ [v]))) b = some o := fun b o nb e => by rw [upd_ne nb]; exact e
    refine ⟨ys, e4, Nat.lt_of_lt_of_le (show ys.length < 100001 by omega) (by decide), same_upd_of s14 nD, ys ++ [v], upd_same, by rw [List.length_append, len]; rfl, fun j y' ey => ?_⟩
    by_cases c : j < ys.length
    · rw [List.getElem?_append_left c] at ey
      exact stay j y' H _ (fun b o nb e => lift b o nb (s4 _ _ e)) (rel j y' ey)
    · rw [List.getElem?_append_right (by omega)] at ey
      have hj : j = i := by
        have := (List.getElem?_eq_some_iff.mp ey).1
        simp at this
        omega
      subst hj
      have e0 : j - ys.length = 0 := by omega
      rw [e0] at ey
      cases Option.some.inj ey
      exact stay j v H4 _ lift r4
  · obtain ⟨s1, ys, eD, len, rel⟩ := z
    exact hd H ys s1 eD len rel
/-- .. each item is a value that is known -/
theorem lc_val (w : Walk J n G Y) (nD : H1 D = none) (few : n ≤ 100000) (Gs : ∀ H, Same H1 H → G H) (ys : List V) (ly : ys.length = n)
    (hs : ∀ i x y H H' (Kp : VK), ys[i]? = some y → Same H1 H → (∃ acc, H D = some (.lst acc)) → Y i H x H' → (∀ H4, Same H H4 → Kp y H4) → g x (wipe σ vs) H' fun σ2 H2 => wipe σ2 vs = wipe σ vs ∧ te σ2 H2 Kp)
    (hd : ∀ H', Same H1 H' → H' D = some (.lst ys) → Qd H') :
    ∃ W : Nat → Nat → Hp → Prop, (∃ m, W 0 m (upd H1 D (.lst []))) ∧ ∀ i m H, W i m H →
      (J.stop i H ∧ Qd H) ∨ (J.go i H ∧ ∃ Nx : Hp → Prop, (∀ H', Nx H' → ∃ m', m' < m ∧ W (i + 1) m' H') ∧ ∀ x H', J.yld i H x H' → g x (wipe σ vs) H' fun σ2 H2 => wipe σ2 vs = wipe σ vs ∧ tYes σ2 H2 fun b H3 =>
        if b = true then te σ2 H3 fun y H4 => ∃ acc, H4 D = some (.lst acc) ∧ acc.length < sizeLine ∧ Nx (upd H4 D (.lst (acc ++ [y]))) else Nx H3) := by
  refine lc_rel w nD few Gs (fun i y _ => ys[i]? = some y) (fun _ _ _ _ _ r => r) (fun i x H H' Kp hi s1 eD y fin => ?_) fun H' zs s eD len rel => ?_
  · have ey : ys[i]? = some ys[i] := List.getElem?_eq_getElem (by omega)
    exact hs i x _ H H' Kp ey s1 eD y fun H4 s4 => fin _ H4 s4 ey
  · have e : zs = ys := by
      apply List.ext_getElem? 
      intro i
      by_cases c : i < zs.length
      · have ez : zs[i]? = some zs[i] := List.getElem?_eq_getElem c
        rw [ez, rel i _ ez]
      · rw [List.getElem?_eq_none (by omega), List.getElem?_eq_none (by omega)]
    rw [e] at eD
    exact hd H' s eD
/-- .. with a test: the items of those that pass it -/
theorem lc_fil (w : Walk J n G Y) (nD : H1 D = none) (few : n ≤ 100000) (Gs : ∀ H, Same H1 H → G H) (b : Nat → Bool) (F : Nat → V)
    (hs : ∀ i x H H' (Kp : VK) (Kn : Hp → Prop), i < n → Same H1 H → (∃ acc, H D = some (.lst acc)) → Y i H x H' → (∀ H4, b i = true → Same H H4 → Kp (F i) H4) → (∀ H4, b i = false → Same H H4 → Kn H4) → g x (wipe σ vs) H' fun σ2 H2 => wipe σ2 vs = wipe σ vs ∧ tt σ2 H2 fun c H3 => if c = true then te σ2 H3 Kp else Kn H3)
    (hd : ∀ H', Same H1 H' → H' D = some (.lst (((List.range n).filter b).map F)) → Qd H') :
    ∃ W : Nat → Nat → Hp → Prop, (∃ m, W 0 m (upd H1 D (.lst []))) ∧ ∀ i m H, W i m H →
      (J.stop i H ∧ Qd H) ∨ (J.go i H ∧ ∃ Nx : Hp → Prop, (∀ H', Nx H' → ∃ m', m' < m ∧ W (i + 1) m' H') ∧ ∀ x H', J.yld i H x H' → g x (wipe σ vs) H' fun σ2 H2 => wipe σ2 vs = wipe σ vs ∧ tt σ2 H2 fun b H3 =>
        if b = true then te σ2 H3 fun y H4 => ∃ acc, H4 D = some (.lst acc) ∧ acc.length < sizeLine ∧ Nx (upd H4 D (.lst (acc ++ [y]))) else Nx H3) := by
  refine lc_it w (fun i H => Same H1 H ∧ H D = some (.lst (((List.range i).filter b).map F))) ⟨same_upd_of (fun _ _ e => e) nD, upd_same⟩ (fun i H _ z => Gs H z.1) (fun i x H H' hi z y => ?_) fun H z => hd H z.1 z.2
  obtain ⟨s1, eD⟩ := z
  refine hs i x H H' _ _ hi s1 ⟨_, eD⟩ y (fun H4 hb s4 => ?_) fun H4 hb s4 => ?_
  · have s14 : Same H1 H4 := fun b o e => s4 _ _ (s1 _ _ e)
    refine ⟨_, s4 _ _ eD, ?_, same_upd_of s14 nD, ?_⟩
    · rw [List.length_map]
      have := List.length_filter_le b (List.range i)
      rw [List.length_range] at this
      exact Nat.lt_of_lt_of_le (show _ < 100001 by omega) (by decide)
    · rw [upd_same, List.range_succ, List.filter_append, List.map_append, List.filter_cons_of_pos hb]
      rfl
  · have s14 : Same H1 H4 := fun b o e => s4 _ _ (s1 _ _ e)
    refine ⟨s14, ?_⟩
    rw [List.range_succ, List.filter_append, List.filter_cons_of_neg (by rw [hb]; decide), List.filter_nil, List.append_nil]
    exact s4 _ _ eD
end
end Nc

/-! Own rules: comprehensions that make a new thing for each item. -/
namespace Nc
open PySem PySem.Spec PyProof.Rows L2
section
variable {J : It} {n : Nat} {G : Hp → Prop} {Y : Nat → Hp → V → Hp → Prop} {g : TG} {te : TE} {tt : TT} {vs : List Nat} {σ : L2.St} {H1 : Hp} {D : Addr} {Qd : Hp → Prop}
/-- new things at ks, one for each of L -/
def News (H : Hp) (D : Addr) (ob : Nat → HO) (L : List Nat) (ks : List Addr) : Prop := ks.length = L.length ∧ ∀ (j i : Nat) (k : Addr), L[j]? = some i → ks[j]? = some k → k ≠ D ∧ H k = some (ob i)
theorem News.snoc {H H' : Hp} {D : Addr} {ob : Nat → HO} {L : List Nat} {ks : List Addr} {i : Nat} {k : Addr} (h : News H D ob L ks) (s : ∀ b o, b ≠ D → H b = some o → H' b = some o) (n : k ≠ D) (e : H' k = some (ob i)) : News H' D ob (L ++ [i]) (ks ++ [k]) := by
  refine ⟨by rw [List.length_append, List.length_append, h.1]; rfl, fun j a b ea eb => ?_⟩
  by_cases c : j < ks.length
  · rw [List.getElem?_append_left c] at eb
    rw [List.getElem?_append_left (by rw [← h.1]; exact c)] at ea
    have := h.2 j a b ea eb
    exact ⟨this.1, s _ _ this.1 this.2⟩
  · rw [List.getElem?_append_right (by omega)] at eb
    rw [List.getElem?_append_right (by rw [← h.1]; omega)] at ea
    have hj := (List.getElem?_eq_some_iff.mp eb).1
    simp at hj
    rw [hj] at eb
    rw [← h.1, hj] at ea
    cases Option.some.inj ea
    cases Option.some.inj eb
    exact ⟨n, e⟩
theorem lc_new (w : Walk J n G Y) (nD : H1 D = none) (few : n ≤ 100000) (Gs : ∀ H, Same H1 H → G H) (b : Nat → Bool) (ob : Nat → HO)
    (hs : ∀ i x H H' (Kp : VK) (Kn : Hp → Prop), i < n → Same H1 H → (∃ acc, H D = some (.lst acc)) → Y i H x H' → (∀ t H4, b i = true → Same H H4 → H t = none → H4 t = some (ob i) → Kp (.ref t) H4) → (∀ H4, b i = false → Same H H4 → Kn H4) → g x (wipe σ vs) H' fun σ2 H2 => wipe σ2 vs = wipe σ vs ∧ tt σ2 H2 fun c H3 => if c = true then te σ2 H3 Kp else Kn H3)
    (hd : ∀ H' ks, Same H1 H' → H' D = some (.lst (ks.map V.ref)) → News H' D ob ((List.range n).filter b) ks → Qd H') :
    ∃ W : Nat → Nat → Hp → Prop, (∃ m, W 0 m (upd H1 D (.lst []))) ∧ ∀ i m H, W i m H →
      (J.stop i H ∧ Qd H) ∨ (J.go i H ∧ ∃ Nx : Hp → Prop, (∀ H', Nx H' → ∃ m', m' < m ∧ W (i + 1) m' H') ∧ ∀ x H', J.yld i H x H' → g x (wipe σ vs) H' fun σ2 H2 => wipe σ2 vs = wipe σ vs ∧ tt σ2 H2 fun b H3 =>
        if b = true then te σ2 H3 fun y H4 => ∃ acc, H4 D = some (.lst acc) ∧ acc.length < sizeLine ∧ Nx (upd H4 D (.lst (acc ++ [y]))) else Nx H3) := by
  refine lc_it w (fun i H => Same H1 H ∧ ∃ ks, H D = some (.lst (ks.map V.ref)) ∧ News H D ob ((List.range i).filter b) ks) ⟨same_upd_of (fun _ _ e => e) nD, [], upd_same, rfl, fun _ _ _ e => nomatch e⟩ (fun i H _ z => Gs H z.1) (fun i x H H' hi z y => ?_) fun H z => ?_
  · obtain ⟨s1, ks, eD, nw⟩ := z
    refine hs i x H H' _ _ hi s1 ⟨_, eD⟩ y (fun t H4 hb s4 nt et => ?_) fun H4 hb s4 => ?_
    · have s14 : Same H1 H4 := fun b o e => s4 _ _ (s1 _ _ e)
      have tD : t ≠ D := Ne.symm (ne_of_none eD nt)
      have lift : ∀ a o, a ≠ D → H a = some o → (upd H4 D (.lst (ks.map V.ref ++ [.ref t]))) a = some o := fun a o na e => by rw [upd_ne na]; exact s4 _ _ e
      refine ⟨_, s4 _ _ eD, ?_, same_upd_of s14 nD, ks ++ [t], ?_, ?_⟩
      · rw [List.length_map, nw.1]
        have := List.length_filter_le b (List.range i)
        rw [List.length_range] at this
        exact Nat.lt_of_lt_of_le (show _ < 100001 by omega) (by decide)
      · rw [upd_same, List.map_append]
        rfl
      · rw [List.range_succ, List.filter_append, List.filter_cons_of_pos hb]
        exact nw.snoc lift tD (by rw [upd_ne tD]; exact et)
    · have s14 : Same H1 H4 := fun b o e => s4 _ _ (s1 _ _ e)
      refine ⟨s14, ks, s4 _ _ eD, ?_⟩
      rw [List.range_succ, List.filter_append, List.filter_cons_of_neg (by rw [hb]; decide), List.filter_nil, List.append_nil]
      exact ⟨nw.1, fun j a k ea ek => ⟨(nw.2 j a k ea ek).1, s4 _ _ (nw.2 j a k ea ek).2⟩⟩
  · obtain ⟨s1, ks, eD, nw⟩ := z
    exact hd H ks s1 eD nw
/-- .. without a test -/
theorem lc_newA (w : Walk J n G Y) (nD : H1 D = none) (few : n ≤ 100000) (Gs : ∀ H, Same H1 H → G H) (ob : Nat → HO)
    (hs : ∀ i x H H' (Kp : VK), i < n → Same H1 H → (∃ acc, H D = some (.lst acc)) → Y i H x H' → (∀ t H4, Same H H4 → H t = none → H4 t = some (ob i) → Kp (.ref t) H4) → g x (wipe σ vs) H' fun σ2 H2 => wipe σ2 vs = wipe σ vs ∧ te σ2 H2 Kp)
    (hd : ∀ H' ks, Same H1 H' → H' D = some (.lst (ks.map V.ref)) → News H' D ob (List.range n) ks → Qd H') :
    ∃ W : Nat → Nat → Hp → Prop, (∃ m, W 0 m (upd H1 D (.lst []))) ∧ ∀ i m H, W i m H →
      (J.stop i H ∧ Qd H) ∨ (J.go i H ∧ ∃ Nx : Hp → Prop, (∀ H', Nx H' → ∃ m', m' < m ∧ W (i + 1) m' H') ∧ ∀ x H', J.yld i H x H' → g x (wipe σ vs) H' fun σ2 H2 => wipe σ2 vs = wipe σ vs ∧ tYes σ2 H2 fun b H3 =>
        if b = true then te σ2 H3 fun y H4 => ∃ acc, H4 D = some (.lst acc) ∧ acc.length < sizeLine ∧ Nx (upd H4 D (.lst (acc ++ [y]))) else Nx H3) := by
  refine lc_new w nD few Gs (fun _ => true) ob (fun i x H H' Kp Kn hi s e y fin _ => ?_) fun H' ks s e nw => ?_
  · exact hs i x H H' Kp hi s e y fun t H4 s4 nt et => fin t H4 rfl s4 nt et
  · rw [List.filter_eq_self.mpr fun _ _ => rfl] at nw
    exact hd H' ks s e nw
/-- the pair that stands at an address -/
def hv (H : Hp) (k : Addr) : Int × Int := match H k with
  | some (.tup [.int x, .int y]) => (x, y)
  | _ => (0, 0)
theorem hv_of {H : Hp} {k : Addr} {x y : Int} (h : H k = some (.tup [.int x, .int y])) : hv H k = (x, y) := by
  unfold hv
  rw [h]
theorem News.map {H : Hp} {D : Addr} {p : Nat → Int × Int} {L : List Nat} {ks : List Addr} (h : News H D (fun i => .tup [.int (p i).1, .int (p i).2]) L ks) : ks.map (hv H) = L.map p := by
  apply List.ext_getElem?
  intro j
  rw [List.getElem?_map, List.getElem?_map]
  by_cases c : j < ks.length
  · have c2 : j < L.length := by rw [← h.1]; exact c
    have e := (h.2 j L[j] ks[j] (by simp [c2]) (by simp [c])).2
    rw [List.getElem?_eq_getElem c, List.getElem?_eq_getElem c2, Option.map_some, Option.map_some, hv_of e]
  · rw [List.getElem?_eq_none (show ks.length ≤ j by omega), List.getElem?_eq_none (show L.length ≤ j by rw [← h.1]; omega)]
    rfl
theorem News.at_ {H : Hp} {D : Addr} {p : Nat → Int × Int} {L : List Nat} {ks : List Addr} (h : News H D (fun i => .tup [.int (p i).1, .int (p i).2]) L ks) : ∀ k ∈ ks, k ≠ D ∧ H k = some (.tup [.int (hv H k).1, .int (hv H k).2]) ∧ ∃ i ∈ L, hv H k = p i := by
  intro k m
  obtain ⟨j, hj, rfl⟩ := List.getElem_of_mem m
  have c2 : j < L.length := by rw [← h.1]; exact hj
  have e := h.2 j L[j] ks[j] (by simp [c2]) (by simp [hj])
  have v := hv_of e.2
  rw [v]
  exact ⟨e.1, e.2, L[j], List.getElem_mem c2, rfl⟩
end
end Nc

/-! Own rules: min, max of a list of pairs. -/
namespace Nc
open PySem PySem.Spec PyProof.Rows L2
section
theorem tup_more {X : Cx} {s s2 : Shared} {pins : List (Addr × Obj)} {σ : L2.St} {H : Hp} {a b : Addr} {ns ms : List Int} (I : L2.Inv X pins σ H s) (ha : H a = some (.tup (ns.map V.int))) (hb : H b = some (.tup (ms.map V.int))) (hu : X.A.units + 1 < cLine) (kp : KeepH s.heap s2.heap) :
    Ob.RcOp .Gt X.A.in1 s2 (.ref a) (.ref b) (lexP (fun x y => decide (y < x)) (decide (ms.length < ns.length)) ns ms) := by
  obtain ⟨us, r1, ⟨o1, g1, c1, n1, d1⟩, _⟩ := I.tuple (SqT.of ha)
  obtain ⟨vs, r2, ⟨o2, g2, c2, n2, d2⟩, _⟩ := I.tuple (SqT.of hb)
  have i1 : IntsAre us ns := Vals.ints r1
  have i2 : IntsAre vs ms := Vals.ints r2
  have at1 : ∀ j (h1 : j < us.toArray.size), ∃ t, us.toArray[j] = .int (ns.getD j 0) t := fun j h1 => IntsAre.int_at i1 _ _ (by simp at h1; simp [h1])
  have at2 : ∀ j (h1 : j < vs.toArray.size), ∃ t, vs.toArray[j] = .int (ms.getD j 0) t := fun j h1 => IntsAre.int_at i2 _ _ (by simp at h1; simp [h1])
  have R := Ob.RcOp.tuples_gt (A := X.A.in1) (s := s2) (e := fun j => decide (ns.getD j 0 = ms.getD j 0)) (r := fun j => decide (ms.getD j 0 < ns.getD j 0)) ⟨o1, kp _ _ g1, c1, n1, d1⟩ ⟨o2, kp _ _ g2, c2, n2, d2⟩ hu (fun j h1 h2 => by
    obtain ⟨t, et⟩ := at1 j h1
    obtain ⟨u, eu⟩ := at2 j h2
    rw [et, eu, ← Bool.beq_eq_decide_eq]
    exact SeqAt.EqAt.int_int _ _ _ _) (fun j h1 h2 _ => by
    obtain ⟨t, et⟩ := at1 j h1
    obtain ⟨u, eu⟩ := at2 j h2
    rw [et, eu]
    exact Ob.RcOp.gt_int _ _ _ _)
  rw [List.size_toArray, List.size_toArray, i1.length, i2.length] at R
  exact R
def ngP (p : Int × Int) : Int × Int := (-p.1, -p.2)
theorem lexLe_ng (p q : Int × Int) : lexLe (ngP p) (ngP q) ↔ lexLe q p := by
  unfold lexLe ngP
  omega
theorem lexP_pairG (p q : Int × Int) : lexP (fun x y => decide (y < x)) (decide ((2 : Nat) < 2)) [p.1, p.2] [q.1, q.2] = decide (¬ lexLe p q) := by
  show (if decide (p.1 = q.1) = true then (if decide (p.2 = q.2) = true then decide ((2 : Nat) < 2) else decide (q.2 < p.2)) else decide (q.1 < p.1)) = _
  unfold lexLe
  by_cases a : p.1 = q.1
  · rw [if_pos (decide_eq_true a)]
    by_cases b : p.2 = q.2
    · rw [if_pos (decide_eq_true b), decide_eq_false (by omega), decide_eq_false (by omega)]
    · rw [if_neg (by simpa using b)]
      by_cases c : q.2 < p.2
      · rw [decide_eq_true c, decide_eq_true (by omega)]
      · rw [decide_eq_false c, decide_eq_false (by omega)]
  · rw [if_neg (by simpa using a)]
    by_cases c : q.1 < p.1
    · rw [decide_eq_true c, decide_eq_true (by omega)]
    · rw [decide_eq_false c, decide_eq_false (by omega)]
variable {X : Cx}
def rMinS : List V → Hp → VK → Prop := fun vs H Q => ∃ (a : Addr) (ts : List Addr) (f : Addr → Int × Int), vs = [V.ref a] ∧ H a = some (.lst (ts.map V.ref)) ∧ (∀ t ∈ ts, H t = some (.tup [.int (f t).1, .int (f t).2])) ∧ 0 < ts.length ∧ ∀ t ∈ ts, (∀ u ∈ ts, lexLe (f t) (f u)) → Q (.ref t) H
def rMaxS : List V → Hp → VK → Prop := fun vs H Q => ∃ (a : Addr) (ts : List Addr) (f : Addr → Int × Int), vs = [V.ref a] ∧ H a = some (.lst (ts.map V.ref)) ∧ (∀ t ∈ ts, H t = some (.tup [.int (f t).1, .int (f t).2])) ∧ 0 < ts.length ∧ ∀ t ∈ ts, (∀ u ∈ ts, lexLe (f u) (f t)) → Q (.ref t) H
theorem refs_val {xs : List V} {us : List Value} (r : Vals xs us) {ts : List Addr} (e : xs = ts.map V.ref) {i : Nat} {v : Value} (h : us.toArray[i]? = some v) : ∃ t, ts[i]? = some t ∧ v = .ref t := by
  subst e
  have hi : i < us.length := by
    have := (Array.getElem?_eq_some_iff.mp h).1
    simpa using this
  have hl := r.length
  rw [List.length_map] at hl
  have e1 : (ts.map V.ref)[i]? = some (.ref ts[i]) := by simp [show i < ts.length by omega]
  obtain ⟨u, e2, e3⟩ := Vals.get r e1
  refine ⟨ts[i], by simp, ?_⟩
  cases e3
  have : us[i]? = some v := by simpa using h
  rw [this] at e2
  exact Option.some.inj e2
theorem cr_minS (hc : X.calm = true) (hu : X.A.units + 1 < cLine) : CallR X (.builtin "min") rMinS := by
  intro pins s σ H vs us Q I r h
  obtain ⟨a, ts, f, rfl, ha, hs, h0, q⟩ := h
  rw [Vals.ref1 r]
  obtain ⟨its, rv, hl, _⟩ := I.list (SqL.of ha)
  have hn : its.length = ts.length := by rw [← rv.length, List.length_map]
  have val : ∀ (i : Nat) v, its.toArray[i]? = some v → ∃ t, v = .ref t ∧ t ∈ ts ∧ f (ts.getD i a) = f t := fun i v hv => by
    obtain ⟨t, e, rfl⟩ := refs_val rv rfl hv
    refine ⟨t, rfl, List.mem_of_getElem? e, ?_⟩
    rw [List.getD_eq_getElem?_getD, e]
    rfl
  refine call_min_walkH (PySem.W.iter_listW (A := X.A.in1) (I.ok.hd hc) hl.isList fun s₂ e W st hfp hw hk => ?_)
  refine ⟨_, _, _, _, _, _, _, s.heap, fun i j => decide (¬ lexLe (f (ts.getD j a)) (f (ts.getD i a))), rfl, W, st, hfp, by rw [List.size_toArray, hn]; exact h0, hw, hk, fun i j vi vj s' Q' E' hk' hi hj hq => ?_, fun v s' hP m => ?_⟩
  · obtain ⟨t, rfl, mt, e1⟩ := val i vi hi
    obtain ⟨u, rfl, mu, e2⟩ := val j vj hj
    have z := tup_less (s2 := s') (ns := [(f t).1, (f t).2]) (ms := [(f u).1, (f u).2]) I (hs t mt) (hs u mu) hu hk'
    have e3 : lexP (fun x y => decide (x < y)) (decide ([(f t).1, (f t).2].length < [(f u).1, (f u).2].length)) [(f t).1, (f t).2] [(f u).1, (f u).2] = decide (¬ lexLe (f u) (f t)) := lexP_pair _ _
    rw [e3] at z
    have hq : Q' (.bool (decide (¬ lexLe (f (ts.getD j a)) (f (ts.getD i a))))) s' := hq
    rw [e1, e2] at hq
    exact z X.prog X.w _ _ hq
  · obtain ⟨h', tk, rfl, hk'⟩ := PySem.W.moved_old e rfl m
    obtain ⟨t, rfl, mt, e1⟩ := val _ v hP
    obtain ⟨b1, b2⟩ := argBest_le (fun i => f (ts.getD i a)) (its.toArray.size - 1)
    refine ⟨.ref t, H, I.kept (t' := tk) fun c o e => hk' c o e, rfl, q t mt fun u mu => ?_⟩
    obtain ⟨i, hi, e⟩ := List.mem_iff_getElem.mp mu
    have e2 : f (ts.getD i a) = f u := by rw [List.getD_eq_getElem?_getD, List.getElem?_eq_getElem hi, e]; rfl
    rw [← e1, ← e2]
    exact b2 i (by rw [List.size_toArray]; omega)
theorem cr_maxS (hc : X.calm = true) (hu : X.A.units + 1 < cLine) : CallR X (.builtin "max") rMaxS := by
  intro pins s σ H vs us Q I r h
  obtain ⟨a, ts, f, rfl, ha, hs, h0, q⟩ := h
  rw [Vals.ref1 r]
  obtain ⟨its, rv, hl, _⟩ := I.list (SqL.of ha)
  have hn : its.length = ts.length := by rw [← rv.length, List.length_map]
  have val : ∀ (i : Nat) v, its.toArray[i]? = some v → ∃ t, v = .ref t ∧ t ∈ ts ∧ f (ts.getD i a) = f t := fun i v hv => by
    obtain ⟨t, e, rfl⟩ := refs_val rv rfl hv
    refine ⟨t, rfl, List.mem_of_getElem? e, ?_⟩
    rw [List.getD_eq_getElem?_getD, e]
    rfl
  refine call_max_walkH (PySem.W.iter_listW (A := X.A.in1) (I.ok.hd hc) hl.isList fun s₂ e W st hfp hw hk => ?_)
  refine ⟨_, _, _, _, _, _, _, s.heap, fun i j => decide (¬ lexLe (ngP (f (ts.getD j a))) (ngP (f (ts.getD i a)))), rfl, W, st, hfp, by rw [List.size_toArray, hn]; exact h0, hw, hk, fun i j vi vj s' Q' E' hk' hi hj hq => ?_, fun v s' hP m => ?_⟩
  · obtain ⟨t, rfl, mt, e1⟩ := val i vi hi
    obtain ⟨u, rfl, mu, e2⟩ := val j vj hj
    have z := tup_more (s2 := s') (ns := [(f t).1, (f t).2]) (ms := [(f u).1, (f u).2]) I (hs t mt) (hs u mu) hu hk'
    have e3 : lexP (fun x y => decide (y < x)) (decide ([(f u).1, (f u).2].length < [(f t).1, (f t).2].length)) [(f t).1, (f t).2] [(f u).1, (f u).2] = decide (¬ lexLe (ngP (f u)) (ngP (f t))) := (lexP_pairG _ _).trans (by rw [decide_eq_decide, lexLe_ng])
    rw [e3] at z
    have hq : Q' (.bool (decide (¬ lexLe (ngP (f (ts.getD j a))) (ngP (f (ts.getD i a)))))) s' := hq
    rw [e1, e2] at hq
    exact z X.prog X.w _ _ hq
  · obtain ⟨h', tk, rfl, hk'⟩ := PySem.W.moved_old e rfl m
    obtain ⟨t, rfl, mt, e1⟩ := val _ v hP
    obtain ⟨b1, b2⟩ := argBest_le (fun i => ngP (f (ts.getD i a))) (its.toArray.size - 1)
    refine ⟨.ref t, H, I.kept (t' := tk) fun c o e => hk' c o e, rfl, q t mt fun u mu => ?_⟩
    obtain ⟨i, hi, e⟩ := List.mem_iff_getElem.mp mu
    have e2 : f (ts.getD i a) = f u := by rw [List.getD_eq_getElem?_getD, List.getElem?_eq_getElem hi, e]; rfl
    rw [← e1, ← e2]
    exact (lexLe_ng _ _).mp (b2 i (by rw [List.size_toArray]; omega))
end
end Nc

/-! Own rules: sorted of a list of tuples (n, (x, y)). -/
namespace Nc
open PySem PySem.Spec PyProof.Rows L2
/-- the order of (n, pair) -/
def le3 (n : Int) (p : Int × Int) (m : Int) (q : Int × Int) : Prop := n < m ∨ (n = m ∧ lexLe p q)
instance (n : Int) (p : Int × Int) (m : Int) (q : Int × Int) : Decidable (le3 n p m q) := by unfold le3; infer_instance
def dP2 (p : Int × Int) : PyData := .tuple [.int p.1, .int p.2]
def dP3 (n : Int) (p : Int × Int) : PyData := .tuple [.int n, dP2 p]
theorem al_int (x y : Int) : PySem.W.alike (.int x) (.int y) = true := by simp [PySem.W.alike]
theorem al_2 (p q : Int × Int) : PySem.W.alike (dP2 p) (dP2 q) = true := by simp [dP2, PySem.W.alike, PySem.W.alikeAll]
theorem al_3 (n m : Int) (p q : Int × Int) : PySem.W.alike (dP3 n p) (dP3 m q) = true := by simp [dP3, PySem.W.alike, PySem.W.alikeAll, al_2]
theorem eqv_int2 (x y : Int) : PyData.eqv (.int x) (.int y) = decide (x = y) := by simp [PyData.eqv, Bool.beq_eq_decide_eq]
theorem eqv_2 (p q : Int × Int) : PyData.eqv (dP2 p) (dP2 q) = decide (p = q) := by
  simp only [dP2, PyData.eqv, PyData.eqvAll, Bool.and_true]
  rw [Bool.eq_iff_iff]
  simp only [Bool.and_eq_true, beq_iff_eq, decide_eq_true_eq]
  exact ⟨fun h => Prod.ext h.1 h.2, fun h => by rw [h]; exact ⟨rfl, rfl⟩⟩
theorem lt_2 (p q : Int × Int) : PySem.W.dataLt (dP2 p) (dP2 q) = decide (¬ lexLe q p) := by
  unfold dP2
  rw [PySem.W.dataLt_pair (al_int _ _) (al_int _ _), eqv_int2, eqv_int2, PySem.W.dataLt_int, PySem.W.dataLt_int]
  unfold lexLe
  by_cases a : p.1 = q.1
  · rw [if_pos (decide_eq_true a)]
    by_cases b : p.2 = q.2
    · rw [if_pos (decide_eq_true b), eq_comm, decide_eq_false_iff_not]
      omega
    · rw [if_neg (by simpa using b), decide_eq_decide]
      omega
  · rw [if_neg (by simpa using a), decide_eq_decide]
    omega
theorem lt_3 (n m : Int) (p q : Int × Int) : PySem.W.dataLt (dP3 n p) (dP3 m q) = decide (¬ le3 m q n p) := by
  unfold dP3
  rw [PySem.W.dataLt_pair (al_int _ _) (al_2 _ _), eqv_int2, eqv_2, PySem.W.dataLt_int, lt_2]
  unfold le3
  by_cases a : n = m
  · rw [if_pos (decide_eq_true a)]
    by_cases b : p = q
    · rw [if_pos (decide_eq_true b), eq_comm, decide_eq_false_iff_not]
      have := lexLe.refl q
      rw [b]
      simp [a, this]
    · rw [if_neg (by simpa using b), decide_eq_decide]
      simp [a]
  · rw [if_neg (by simpa using a), decide_eq_decide]
    omega
theorem le3.trans {n m k : Int} {p q r : Int × Int} (a : le3 n p m q) (b : le3 m q k r) : le3 n p k r := by
  unfold le3 at *
  rcases a with a | ⟨a, a2⟩ <;> rcases b with b | ⟨b, b2⟩
  · exact .inl (by omega)
  · exact .inl (by omega)
  · exact .inl (by omega)
  · exact .inr ⟨by omega, a2.trans b2⟩
theorem le3.total (n m : Int) (p q : Int × Int) : le3 n p m q ∨ le3 m q n p := by
  unfold le3
  rcases lexLe.total p q with h | h <;> by_cases c : n < m <;> by_cases d : m < n
  all_goals first
    | exact .inl (.inl c)
    | exact .inr (.inl d)
    | exact .inl (.inr ⟨by omega, h⟩)
    | exact .inr (.inr ⟨by omega, h⟩)
section
variable {X : Cx}
def rSort3 : List V → Hp → VK → Prop := fun vs H Q => ∃ (a : Addr) (ts : List Addr) (w : Addr → Int) (p : Addr → Int × Int), vs = [V.ref a] ∧ H a = some (.lst (ts.map V.ref)) ∧ (∀ t ∈ ts, ∃ u, H t = some (.tup [.int (w t), .ref u]) ∧ H u = some (.tup [.int (p t).1, .int (p t).2])) ∧
  ∀ (us : List Addr) (q : Addr) (H2 : Hp), us.Perm ts → us.Pairwise (fun a b => le3 (w a) (p a) (w b) (p b)) → Same H H2 → H q = none → H2 q = some (.lst (us.map V.ref)) → Q (.ref q) H2
theorem dp3_all {K : PySem.W.Frag} {H : Hp} {w : Addr → Int} {p : Addr → Int × Int} : ∀ {ts : List Addr}, (∀ t ∈ ts, ∃ u, H t = some (.tup [.int (w t), .ref u]) ∧ H u = some (.tup [.int (p t).1, .int (p t).2])) → DpAll K H (ts.map V.ref) (ts.map fun t => dP3 (w t) (p t))
  | [], _ => .nil
  | t :: ts, h => by
    obtain ⟨u, e1, e2⟩ := h t List.mem_cons_self
    exact .cons (.tup (SqT.of e1) (.cons (.int _) (.cons (.tup (SqT.of e2) (.cons (.int _) (.cons (.int _) .nil))) .nil))) (dp3_all fun u m => h u (List.mem_cons_of_mem _ m))
theorem each_refs : ∀ {ts : List Addr} {us : List Value}, Vals (ts.map V.ref) us → PySem.W.EachIs (fun (v : Value) (t : Addr) => v = .ref t) us ts
  | [], _, r => by cases r; exact .nil
  | t :: ts, _, r => by
    cases r with
    | cons h1 h2 => exact .cons (by cases h1; rfl) (each_refs h2)
theorem refs_each : ∀ {ts : List Addr} {us : List Value}, PySem.W.EachIs (fun (v : Value) (t : Addr) => v = .ref t) us ts → Vals (ts.map V.ref) us
  | _, _, .nil => .nil
  | _, _, .cons h t => .cons (by rw [h]; rfl) (refs_each t)
theorem cr_sort3 (hu : X.A.units + 64 < cLine) : CallR X (.builtin "sorted") rSort3 := by
  intro pins s σ H vs us Q I r h
  obtain ⟨a, ts, wt, p, rfl, ha, hs, q⟩ := h
  rw [Vals.ref1 r]
  obtain ⟨its, rv, hl, hz⟩ := I.list (SqL.of ha)
  obtain ⟨as, ra⟩ := Dp.readsAll I _ _ _ (dp3_all hs) rv
  have dep : ∀ t, (dP3 (wt t) (p t)).depth ≤ 10 := fun t => by simp [dP3, dP2, PyData.depth, PyData.depthAll]
  refine PySem.W.sorted_data (β := Addr) (bs := ts) (enc := fun t => dP3 (wt t) (p t)) (R := fun v t => v = .ref t) hl.isList (each_refs rv) (PySem.W.readsAll_each _ ra) (PySem.W.AllAlike.of fun t u => al_3 _ _ _ _) (PySem.W.Sortable.tuples fun t => ⟨_, _, rfl⟩) (by rw [List.length_map] at hz; exact hz) (fun t _ => by have := dep t; omega) fun out hlen hout => ?_
  have eL : PySem.W.dataLe false (fun t => dP3 (wt t) (p t)) = fun x y => decide (le3 (wt x) (p x) (wt y) (p y)) := by
    rw [PySem.W.dataLe_eq]
    funext x y
    show (!PySem.W.dataLt _ _) = _
    rw [lt_3]
    simp
  rw [eL] at hout
  have pm := List.mergeSort_perm ts fun x y => decide (le3 (wt x) (p x) (wt y) (p y))
  have so := List.pairwise_mergeSort (le := fun x y => decide (le3 (wt x) (p x) (wt y) (p y))) (fun x y z h1 h2 => by
    rw [decide_eq_true_eq] at *
    exact h1.trans h2) (fun x y => by
    rw [Bool.or_eq_true, decide_eq_true_eq, decide_eq_true_eq]
    exact le3.total _ _ _ _) ts
  obtain ⟨n, hn⟩ := sortedAll_at s.heap its (List.toArray out)
  have vo := refs_each hout
  refine ⟨.ref (s.heap.objs.size + 1), upd H (s.heap.objs.size + 1) (.lst ((ts.mergeSort fun x y => decide (le3 (wt x) (p x) (wt y) (p y))).map V.ref)), I.laid (t' := s.toks) (fun b o e => sortedAll_old e) (Nat.le_succ _) ⟨?_, out, n, vo, hn⟩, rfl, q _ _ _ pm (so.imp fun h => of_decide_eq_true h) (Same.upd (I.hok.fresh (Nat.le_succ _))) (I.hok.fresh (Nat.le_succ _)) upd_same⟩
  rw [List.length_map, pm.length_eq]
  rw [List.length_map] at hz
  exact hz
end
end Nc

/-! Own rules: a def of one parameter, called by its keyword. -/
namespace Nc
open PySem PySem.Spec PyProof.Rows L2
def gRev {α : Type} (us ws : List α) : List α := match us with
  | [] => ws.reverse
  | _ :: _ => []
theorem Vals.rev : ∀ {xs : List V} {us : List Value}, Vals xs us → Vals xs.reverse us.reverse
  | _, _, .nil => .nil
  | _, _, .cons r t => by
    rw [List.reverse_cons, List.reverse_cons]
    exact Vals.append (Vals.rev t) (.cons r .nil)
theorem kb_rev {K : PySem.W.Frag} {x q : Str} {st : Stmt} {f : Addr} {fd : FuncData} {ps ks : List Str} (F : Fun K x q st f fd) (h0 : 0 < ps.length)
    (h : ∀ (kV doc pm : Value) (an : Option Addr) (cdv ct : Value) (ws : List Value), ws.length = ps.length → bindArgs (PySem.W.fnOf x q (defArgs st) (defBody st) (defScope st) .none kV doc pm an cdv ct) ⟨[], ks.zip ws⟩ = (pure (ps.zip ws.reverse) : Sem (List (Str × Value)))) :
    KBinds K fd ps ks gRev gRev := by
  obtain ⟨oc, od, kV, doc, pm, an, cdv, ct, osl, rfl, lk, hcd⟩ := F.ex
  refine ⟨fun s us ws _ hl => ?_, fun {vs us zs ws} r rz => ?_⟩
  · cases us with
    | nil =>
      have hl : ws.reverse.length = ps.length := hl
      rw [List.length_reverse] at hl
      exact .of_eq (h kV doc pm an cdv ct ws hl)
    | cons a r =>
      have hl : 0 = ps.length := hl
      omega
  · cases r with
    | nil => exact Vals.rev rz
    | cons _ _ => exact .nil
/-- the def x of one parameter keeps its promise when it is called by keyword -/
structure Ck (P : Program) (w : World) (K : PySem.W.Frag) (mg : Str → Option Value) (base : Heap) (CX : CXT) (x : Str) (k : Nat) (y : Str) (sp : Sp) : Prop where
  ex : ∃ (f : Addr) (fd : FuncData), FnOk P w K mg base CX k f fd [y] sp ∧ mg x = some (.ref f) ∧ PySem.W.keepIn K (.ref f) = true ∧ KBinds K fd [y] [y] gRev gRev
theorem Df.ck {P : Program} {w : World} {K : PySem.W.Frag} {mg : Str → Option Value} {base : Heap} {CX : CXT} {x y : Str} {k : Nat} {sp : Sp} {st : Stmt} (D : Df K mg x st [y]) (h : ∀ f fd, Fun K x x st f fd → FnOk P w K mg base CX k f fd [y] sp)
    (b : ∀ (kV doc pm : Value) (an : Option Addr) (cdv ct : Value) (ws : List Value), ws.length = 1 → bindArgs (PySem.W.fnOf x x (defArgs st) (defBody st) (defScope st) .none kV doc pm an cdv ct) ⟨[], [y].zip ws⟩ = (pure ([y].zip ws.reverse) : Sem (List (Str × Value)))) : Ck P w K mg base CX x k y sp := by
  obtain ⟨f, fd, F, g, kk, _⟩ := D.ex
  exact ⟨f, fd, h f fd F, g, kk, kb_rev (ps := [y]) (ks := [y]) F Nat.one_pos b⟩
section
variable {X : Cx} {CX : CXT} {k : Nat} {y : Str} {sp : Sp} {E : XK} {x : Str} {p pos kpos : Pos} {e : Expr} {te : TE}
theorem pe_ck (C : Ck X.prog X.w X.K X.mg X.base CX x k y sp) (hr : Room k X.A) (hg : Gl X x) (hx : Passes CX X E) (he : PE X e te) (hall : (backToKw pos (keywordEach [⟨some y, e, kpos⟩] X.env)).all (·.1.isSome) = true := by rfl) (hks : (backToKw pos (keywordEach [⟨some y, e, kpos⟩] X.env)).filterMap (·.1) = [y] := by rfl)
    (hdb : (x == ("__debug__" : Str)) = false := by decide) (hpl : ((backTo pos (starEach [] X.env)).any (·.1) || (backToKw pos (keywordEach [⟨some y, e, kpos⟩] X.env)).any (·.1.isNone)) = false := by rfl) :
    PE X (.Call (.Name x p) [] [⟨some y, e, kpos⟩] pos) (fun σ H Q => te σ H fun v H2 => sp [v] H2 Q E) := by
  obtain ⟨f, fd, F, g, kk, b⟩ := C.ex
  exact peOf (pe_callKw F hr hg g kk b hx (pk_cons he pk_nil) hall hks hdb hpl) fun σ H Q h => h
end
end Nc

/-! Own rules: large sets of tuples -/
namespace Nc
open PySem PySem.Spec PyProof.Rows L2
def log511 : Array Nat := #[0, 1, 326, 495, 412, 365, 2, 379, 376, 281, 254, 327, 404, 261, 58, 339, 496, 305, 438, 415, 140, 413, 370, 43, 360, 73, 366, 247, 132, 309, 426, 3, 480, 97, 38, 335, 380, 461, 226, 219, 344, 377, 478, 167, 372, 357, 282, 179, 464, 401, 150, 255, 108, 509, 82, 395, 328, 169, 78, 87, 100, 405, 138, 355, 448, 193, 262, 175, 348, 45, 450, 59, 312, 473, 190, 7, 340, 453, 506, 19, 432, 497, 374, 95, 76, 93, 306, 235, 296, 265, 302, 439, 68, 501, 362, 195, 416, 289, 486, 15, 316, 141, 162, 411, 280, 57, 414, 359, 308, 37, 218, 371, 400, 81, 86, 447, 44, 189, 18, 75, 264, 361, 14, 279, 36, 85, 74, 35, 384, 385, 198, 367, 284, 237, 386, 251, 248, 153, 126, 199, 276, 133, 442, 211, 368, 177, 310, 287, 12, 285, 242, 427, 232, 457, 238, 119, 4, 181, 298, 387, 352, 481, 422, 207, 252, 333, 98, 91, 216, 249, 350, 39, 244, 229, 154, 51, 336, 273, 22, 127, 492, 381, 466, 267, 200, 41, 462, 471, 484, 277, 10, 227, 320, 65, 134, 47, 220, 429, 322, 443, 184, 345, 62, 391, 212, 325, 378, 403, 304, 369, 246, 479, 460, 477, 178, 107, 168, 137, 174, 311, 452, 373, 234, 67, 288, 161, 358, 399, 188, 13, 34, 283, 152, 441, 286, 231, 180, 421, 90, 243, 272, 465, 470, 319, 428, 61, 402, 459, 136, 233, 398, 151, 420, 469, 458, 419, 256, 257, 70, 239, 156, 109, 258, 123, 120, 25, 510, 71, 148, 5, 314, 83, 240, 49, 182, 159, 396, 157, 114, 299, 104, 329, 110, 503, 388, 53, 170, 259, 224, 353, 294, 79, 124, 205, 482, 475, 88, 121, 222, 423, 116, 101, 26, 435, 208, 145, 406, 511, 364, 253, 338, 139, 72, 425, 334, 343, 356, 149, 394, 99, 192, 449, 6, 431, 92, 301, 194, 315, 56, 217, 446, 263, 84, 197, 250, 275, 176, 241, 118, 351, 332, 349, 50, 491, 40, 9, 46, 183, 324, 245, 106, 451, 160, 33, 230, 271, 60, 397, 418, 155, 24, 313, 158, 103, 52, 293, 474, 115, 144, 337, 342, 191, 300, 445, 274, 331, 8, 105, 270, 23, 292, 341, 330, 291, 128, 129, 454, 111, 28, 493, 130, 507, 504, 409, 382, 455, 20, 389, 186, 467, 112, 433, 54, 31, 268, 29, 498, 171, 488, 201, 494, 375, 260, 437, 42, 131, 96, 225, 166, 463, 508, 77, 354, 347, 472, 505, 94, 295, 500, 485, 410, 307, 80, 17, 278, 383, 236, 125, 210, 11, 456, 297, 206, 215, 228, 21, 266, 483, 64, 321, 390, 303, 476, 173, 66, 187, 440, 89, 318, 135, 468, 69, 122, 147, 48, 113, 502, 223, 204, 221, 434, 363, 424, 393, 430, 55, 196, 117, 490, 323, 32, 417, 102, 143, 444, 269, 290, 27, 408, 185, 30, 487, 436, 165, 346, 499, 16, 209, 214, 63, 172, 317, 146, 203, 392, 489, 142, 407, 164, 213, 202, 163]
theorem log511_ok : ∀ j : Fin 512, lcgN 511 (log511.getD j.1 0) = j.1 ∧ log511.getD j.1 0 < 512 := by decide +kernel
theorem lcg511_end : lcgN 511 512 = 0 := by decide +kernel
theorem lcg511_again : ∀ k, lcgN 511 (512 + k) = lcgN 511 k
  | 0 => lcg511_end
  | k + 1 => by
    show (lcgN 511 (512 + k) * 5 + 1) % (511 + 1) = (lcgN 511 k * 5 + 1) % (511 + 1)
    rw [lcg511_again k]
/-- from every slot every other one is reached in time -/
theorem lcg511_all {i j : Nat} (hi : i < 512) (hj : j < 512) : ∃ k, k < 512 ∧ lcgI 511 i k = j := by
  obtain ⟨ei, bi⟩ := log511_ok ⟨i, hi⟩
  obtain ⟨ej, bj⟩ := log511_ok ⟨j, hj⟩
  dsimp only at ei bi ej bj
  have go : ∀ k, lcgI 511 i k = lcgN 511 (log511.getD i 0 + k) := fun k => by
    have z := lcgN_add 511 (log511.getD i 0) k
    rwa [ei] at z
  rcases Nat.lt_or_ge (log511.getD j 0) (log511.getD i 0) with c | c
  · refine ⟨512 + log511.getD j 0 - log511.getD i 0, by omega, ?_⟩
    rw [go, show log511.getD i 0 + (512 + log511.getD j 0 - log511.getD i 0) = 512 + log511.getD j 0 by omega, lcg511_again]
    exact ej
  · refine ⟨log511.getD j 0 - log511.getD i 0, by omega, ?_⟩
    rw [go, show log511.getD i 0 + (log511.getD j 0 - log511.getD i 0) = log511.getD j 0 by omega]
    exact ej
/-- every slot of a table with this mask begins a run of every hash, early enough -/
def Runs (m : Nat) : Prop := ∀ (h : Int) (j : Nat), j ≤ m → ∃ n, n < SetTable.turns m ∧ runI m (SetTable.bits h) n = j
/-- and so is met on its way -/
def Meets (m : Nat) : Prop := ∀ (h : Int) (j : Nat), j ≤ m → ∃ k, k < 10 * SetTable.turns m ∧ way m h k = j
theorem Runs.meets {m : Nat} (R : Runs m) : Meets m := fun h j hj => by
  obtain ⟨n, hn, e⟩ := R h j hj
  obtain ⟨k, hk, e2⟩ := run_nth m (SetTable.bits h) n
  refine ⟨k, by omega, ?_⟩
  show (nth m (runAt m (SetTable.bits h % (m + 1)) (SetTable.bits h)) k).j = j
  rw [e2]
  exact e
theorem runs_lib {m : Nat} (hm : MaskOk m) : Runs m := fun h _ hj => by
  obtain ⟨n, hn, e⟩ := run_meets hm h hj
  exact ⟨n, by unfold SetTable.turns; omega, e⟩
theorem runs_511 : Runs 511 := fun h j hj => by
  obtain ⟨c, hc, e⟩ := lcg511_all (Nat.lt_succ_of_le (runI_le 511 (SetTable.bits h) 12)) (Nat.lt_succ_of_le hj)
  exact ⟨12 + c, by show 12 + c < 511 + 15; omega, (runI_tail (bits_lt h) c).trans e⟩
/-- the masks of sets of up to 300 -/
def Sized (m : Nat) : Prop := MaskOk m ∨ m = 511
theorem Sized.runs {m : Nat} (h : Sized m) : Runs m := h.elim runs_lib fun e => e ▸ runs_511
theorem Sized.le {m : Nat} (h : Sized m) : m ≤ 511 := by
  rcases h with (e | e | e) | e <;> omega
theorem Sized.odd {m : Nat} (h : Sized m) : m % 2 = 1 := by
  rcases h with (e | e | e) | e <;> subst e <;> rfl
theorem grown_308 : SetTable.sizeAbove (SetTable.grown 77) = 512 := by decide +kernel
/-- where a probe may stand: never behind the table's end -/
theorem way_bound (m : Nat) (h : Int) (k : Nat) : way m h k ≤ m := by
  have b0 : SetTable.bits h % (m + 1) ≤ m := Nat.le_of_lt_succ (Nat.mod_lt _ (Nat.succ_pos _))
  have b1 := (runEnd_bd b0).1
  have b2 := (runEnd_bd b0).2.1
  have z := nth_in (m := m) k (runAt m (SetTable.bits h % (m + 1)) (SetTable.bits h)) (by show SetTable.bits h % (m + 1) + (SetTable.runEnd m (SetTable.bits h % (m + 1)) - SetTable.bits h % (m + 1)) ≤ m; omega)
  exact Nat.le_trans (Nat.le_add_right _ _) z
/-- a table in order: each one's slot is the first on its way that was not taken -/
structure Lay (t : SetTable) (hs : List Int) : Prop where
  up : Ris t.place.toList
  clean : t.dummies = #[]
  many : t.place.toList.length = hs.length
  within : ∀ x ∈ t.place.toList, x ≤ t.mask
  road : ∀ (i : Nat) (h : Int) (j : Nat), hs[i]? = some h → t.place.toList[i]? = some j → ∃ k, way t.mask h k = j ∧ ∀ c, c < k → way t.mask h c ∈ t.place.toList
theorem Lay.of_lib {t : SetTable} {hs : List Int} (T : TabOk t hs) : Lay t hs := ⟨T.ris, T.dm, by rw [Array.length_toList]; exact T.sz, T.bd, T.reach⟩
/-- the first slot on a way that is not taken -/
theorem Lay.gap {t : SetTable} {hs : List Int} (T : Lay t hs) (M : Meets t.mask) (room : hs.length ≤ t.mask) (h : Int) : ∃ K, K < 10 * SetTable.turns t.mask ∧ way t.mask h K ∉ t.place.toList ∧ ∀ c, c < K → way t.mask h c ∈ t.place.toList := by
  obtain ⟨j, hj, out⟩ := st_missing t.place.toList (t.mask + 1) (by rw [T.many]; exact Nat.lt_succ_of_le room)
  obtain ⟨k, hk, e⟩ := M h j (Nat.le_of_lt_succ hj)
  obtain ⟨K, a, b, c⟩ := st_least (p := fun k => way t.mask h k ∉ t.place.toList) k (by rw [e]; exact out)
  exact ⟨K, Nat.lt_of_le_of_lt a hk, b, fun d hd => Classical.not_not.mp (c d hd)⟩
/-- one with the same hash is met ahead of the gap -/
theorem Lay.ahead {t : SetTable} {hs : List Int} (T : Lay t hs) {h : Int} {K i j : Nat} (out : way t.mask h K ∉ t.place.toList) (hi : hs[i]? = some h) (hj : t.place.toList[i]? = some j) : ∃ k, k < K ∧ way t.mask h k = j := by
  obtain ⟨k, e, full⟩ := T.road i h j hi hj
  refine ⟨k, Nat.lt_of_not_le fun le => ?_, e⟩
  rcases Nat.lt_or_eq_of_le le with lt | eq
  · exact out (full K lt)
  · rw [eq, e] at out
    exact out (List.mem_of_getElem? hj)
/-- a new one in the gap: the table is in order again -/
theorem Lay.put {t : SetTable} {hs : List Int} (T : Lay t hs) {h : Int} {K j : Nat} (ej : way t.mask h K = j) (out : j ∉ t.place.toList) (full : ∀ c, c < K → way t.mask h c ∈ t.place.toList) :
    SetTable.below t.place j ≤ hs.length ∧ Lay (t.put j).1 (hs.take (SetTable.below t.place j) ++ h :: hs.drop (SetTable.below t.place j)) ∧ (t.put j).1.fill = hs.length + 1 := by
  have cut : SetTable.below t.place j ≤ t.place.toList.length := by
    rw [Array.length_toList]
    exact (below_cut T.up j).1
  have cutH : SetTable.below t.place j ≤ hs.length := T.many ▸ cut
  have pl := put_place t j
  have more : ∀ x, x ∈ t.place.toList → x ∈ (t.put j).1.place.toList := fun x hx => by rw [pl]; exact mem_ins.2 (.inr hx)
  have many : (t.put j).1.place.toList.length = hs.length + 1 := by rw [pl, len_ins _ cut, T.many]
  refine ⟨cutH, ⟨ris_insert T.up fun e => out (List.mem_of_getElem? (by rw [Array.getElem?_toList]; exact e)), put_dm T.clean j, by rw [many, len_ins _ cutH], fun x hx => ?_, fun i g x hi hx => ?_⟩, ?_⟩
  · rcases mem_ins.1 (pl ▸ hx) with e | m
    · show x ≤ t.mask
      rw [e, ← ej]
      exact way_bound t.mask h K
    · exact T.within x m
  · rw [tins_get hs cutH] at hi
    rw [pl, tins_get _ cut] at hx
    rcases Nat.lt_trichotomy i (SetTable.below t.place j) with lt | eq | gt
    · rw [if_pos lt] at hi hx
      obtain ⟨k, e, f⟩ := T.road i g x hi hx
      exact ⟨k, e, fun c hc => more _ (f c hc)⟩
    · rw [if_neg (by omega), if_pos eq] at hi hx
      cases hi
      cases hx
      exact ⟨K, ej, fun c hc => more _ (full c hc)⟩
    · rw [if_neg (by omega), if_neg (by omega)] at hi hx
      obtain ⟨k, e, f⟩ := T.road (i - 1) g x hi hx
      exact ⟨k, e, fun c hc => more _ (f c hc)⟩
  · show (t.put j).1.place.size + (t.put j).1.dummies.size = hs.length + 1
    rw [put_dm T.clean j, ← Array.length_toList, many]
    rfl
/-! ### laid anew -/
theorem free_at {m : Nat} (R : Runs m) (owner : Array (Option Nat)) (h : Int) {j : Nat} (hj : j ≤ m) (e : oAt owner j = none) :
    ∃ K, SetTable.layClean.free m owner (SetTable.turns m) (SetTable.bits h % (m + 1)) (SetTable.bits h) = some (way m h K) ∧ oAt owner (way m h K) = none ∧ ∀ c, c < K → oAt owner (way m h c) ≠ none := by
  obtain ⟨n, hn, er⟩ := R h j hj
  have there : way m h (off m (SetTable.bits h % (m + 1)) (SetTable.bits h) n) = j := by
    show (nth m (runAt m (SetTable.bits h % (m + 1)) (SetTable.bits h)) (off m (SetTable.bits h % (m + 1)) (SetTable.bits h) n)).j = j
    rw [nth_off, itL_run]
    exact er
  obtain ⟨K, le, gap, least⟩ := st_least (p := fun k => oAt owner (way m h k) = none) _ (show oAt owner (way m h _) = none from there.symm ▸ e)
  refine ⟨K, free_spec m owner _ n _ _ K hn le (fun c hc => ?_) (Option.isNone_iff_eq_none.mpr gap), gap, least⟩
  exact Option.isNone_eq_false_iff.mpr (Option.isSome_iff_ne_none.mpr (least c hc))
/-- as many slots are taken as there are hashes, so one is free; there the next one goes -/
theorem own_next {m : Nat} (R : Runs m) {done : List Int} {owner : Array (Option Nat)} (W : Own m done owner) (room : done.length ≤ m) (h : Int) :
    ∃ j, SetTable.layClean.free m owner (SetTable.turns m) (SetTable.bits h % (m + 1)) (SetTable.bits h) = some j ∧ Own m (done ++ [h]) (owner.setIfInBounds j (some done.length)) := by
  obtain ⟨taken, lt, ht⟩ := W.ps
  obtain ⟨x, hx, nx⟩ := st_missing taken (m + 1) (by rw [lt]; exact Nat.lt_succ_of_le room)
  have free0 : oAt owner x = none := Classical.byContradiction fun z => nx (ht x (Nat.le_of_lt_succ hx) z)
  obtain ⟨K, ef, gap, least⟩ := free_at R owner h (Nat.le_of_lt_succ hx) free0
  have inside : way m h K < owner.size := W.sz ▸ Nat.lt_succ_of_le (way_bound m h K)
  refine ⟨way m h K, ef, ?_⟩
  generalize hy : way m h K = y at gap inside ef
  have here : oAt (owner.setIfInBounds y (some done.length)) y = some done.length := oAt_set_self _ inside
  have other : ∀ i, i ≠ y → oAt (owner.setIfInBounds y (some done.length)) i = oAt owner i := fun i hi => oAt_set_ne _ hi
  have still : ∀ i, oAt owner i ≠ none → oAt (owner.setIfInBounds y (some done.length)) i ≠ none := fun i hi => by
    rcases Nat.decEq i y with n | e
    · rw [other i n]
      exact hi
    · rw [e, here]
      exact Option.some_ne_none _
  have len1 : (done ++ [h]).length = done.length + 1 := List.length_append
  refine ⟨Array.size_setIfInBounds.trans W.sz, fun i k hi e => ?_, fun k hk => ?_, y :: taken, by rw [len1, List.length_cons, lt], fun i hi e => ?_⟩
  · rcases Nat.decEq i y with n | eq
    · rw [other i n] at e
      obtain ⟨g, c, a1, a2, a3⟩ := W.at_ i k hi e
      exact ⟨g, c, by rw [List.getElem?_append_left (List.getElem?_eq_some_iff.mp a1).1]; exact a1, a2, fun d hd => still _ (a3 d hd)⟩
    · rw [eq, here] at e
      cases e
      exact ⟨h, K, by rw [List.getElem?_append_right (Nat.le_refl _), Nat.sub_self]; rfl, hy.trans eq.symm, fun d hd => still _ (least d hd)⟩
  · rcases Nat.lt_or_ge k done.length with lt2 | ge
    · obtain ⟨i, hi, e⟩ := W.all k lt2
      refine ⟨i, hi, (other i fun q => ?_).trans e⟩
      rw [q, gap] at e
      cases e
    · have ek : done.length = k := by omega
      exact ⟨y, hy ▸ way_bound m h K, ek ▸ here⟩
  · rcases Nat.decEq i y with n | eq
    · rw [other i n] at e
      exact List.mem_cons_of_mem _ (ht i hi e)
    · rw [eq]
      exact List.mem_cons_self
/-- all of them, one after another -/
theorem own_rest {m : Nat} (R : Runs m) : ∀ (rest done : List Int) (owner : Array (Option Nat)), Own m done owner → (done ++ rest).length ≤ m →
    ∃ o2, rest.foldl (stepF m) (some (owner, done.length)) = some (o2, (done ++ rest).length) ∧ Own m (done ++ rest) o2
  | [], done, owner, W, _ => ⟨owner, by simp, by simpa using W⟩
  | h :: rest, done, owner, W, room => by
    obtain ⟨j, e, W1⟩ := own_next R W (by simp at room; omega) h
    have asc : (done ++ [h]) ++ rest = done ++ h :: rest := by simp
    obtain ⟨o2, e2, W2⟩ := own_rest R rest (done ++ [h]) _ W1 (by rw [asc]; exact room)
    rw [asc] at e2 W2
    have len1 : (done ++ [h]).length = done.length + 1 := List.length_append
    rw [len1] at e2
    exact ⟨o2, by rw [List.foldl_cons, stepF_some e]; exact e2, W2⟩
theorem clean_all {m : Nat} (R : Runs m) {hs : Array Int} (room : hs.size ≤ m) : ∃ owner, SetTable.layClean m hs = some owner ∧ Own m hs.toList owner := by
  obtain ⟨owner, e, W⟩ := own_rest R hs.toList [] _ (Own.init m) (by rw [List.nil_append, Array.length_toList]; exact room)
  refine ⟨owner, ?_, W⟩
  rw [layClean_eq]
  exact congrArg (Option.map Prod.fst) e
/-- a table laid anew is in order, and its order is one of all -/
theorem laid_anew (t : SetTable) {hs : Array Int} {wanted M : Nat} (hw : SetTable.sizeAbove wanted - 1 = M) (R : Runs M) (room : hs.size ≤ M) :
    ∃ t' order, t.relaid hs wanted = some (t', order) ∧ order.toList.Perm (List.range hs.size) ∧ Lay t' (order.toList.map fun i => hs.getD i 0) ∧ t'.mask = M ∧ t'.led = t.led ∧ t'.plain = t.plain := by
  obtain ⟨owner, e, W⟩ := clean_all R room
  have live := fun j k => mem_live W.sz (j := j) (k := k)
  obtain ⟨up, inR⟩ := ris_live (fun j => owner.getD j none) (List.range (M + 1)) List.pairwise_lt_range
  have up' : Ris ((liveOf M owner).map (·.1)) := up
  have nd : ((liveOf M owner).map (·.1)).Nodup := List.Pairwise.imp (fun h => Nat.ne_of_lt h) up'
  have len : (liveOf M owner).length = hs.size := by
    obtain ⟨taken, lt, ht⟩ := W.ps
    refine Nat.le_antisymm ?_ ?_
    · have a := nat_nodup_len ((liveOf M owner).map (·.1)) taken nd fun x hx => by
        obtain ⟨⟨y, k⟩, m, rfl⟩ := List.mem_map.mp hx
        obtain ⟨b1, b2⟩ := (live _ _).1 m
        exact ht y b1 (by rw [b2]; exact Option.some_ne_none _)
      rwa [List.length_map, lt, Array.length_toList] at a
    · have a := nat_nodup_len (List.range hs.size) ((liveOf M owner).map (·.2)) List.nodup_range fun k hk => by
        obtain ⟨j, b1, b2⟩ := W.all k (by rw [Array.length_toList]; exact List.mem_range.mp hk)
        exact List.mem_map.mpr ⟨(j, k), (live _ _).2 ⟨b1, b2⟩, rfl⟩
      rwa [List.length_map, List.length_range] at a
  refine ⟨tabOf t M owner, ((liveOf M owner).map (·.2)).toArray, by rw [relaid_eq, hw, e]; rfl, perm_range _ _ ?_ fun k hk => ?_, ⟨up', rfl, ?_, fun x hx => Nat.le_of_lt_succ (List.mem_range.mp (inR x hx)), fun i h j hi hj => ?_⟩, rfl, rfl, rfl⟩
  · show ((liveOf M owner).map (·.2)).length = hs.size
    rw [List.length_map, len]
  · obtain ⟨j, b1, b2⟩ := W.all k (by rw [Array.length_toList]; exact hk)
    exact List.mem_map.mpr ⟨(j, k), (live _ _).2 ⟨b1, b2⟩, rfl⟩
  · show ((liveOf M owner).map (·.1)).length = (((liveOf M owner).map (·.2)).map fun i => hs.getD i 0).length
    simp only [List.length_map]
  · replace hi : (((liveOf M owner).map (·.2)).map fun i => hs.getD i 0)[i]? = some h := hi
    replace hj : ((liveOf M owner).map (·.1))[i]? = some j := hj
    simp only [List.getElem?_map, Option.map_eq_some_iff] at hi hj
    obtain ⟨⟨y, k⟩, eq, rfl⟩ := hj
    obtain ⟨_, ⟨q, eq2, rfl⟩, rfl⟩ := hi
    rw [eq] at eq2
    cases eq2
    obtain ⟨b1, b2⟩ := (live _ _).1 (List.mem_of_getElem? eq)
    obtain ⟨g, c, a1, a2, a3⟩ := W.at_ y k b1 b2
    have eg : hs.getD k 0 = g := by
      rw [Array.getD_eq_getD_getElem?, ← Array.getElem?_toList, a1]
      rfl
    rw [eg]
    refine ⟨c, a2, fun d hd => ?_⟩
    cases z : oAt owner (way M g d) with
    | none => exact absurd z (a3 d hd)
    | some k2 => exact List.mem_map.mpr ⟨(way M g d, k2), (live _ _).2 ⟨way_bound M g d, z⟩, rfl⟩
end Nc

/-! Own rules: large sets of tuples, looked at and added to -/
namespace Nc
open PySem PySem.Spec PyProof.Rows L2
/-- the set of tuples at a, of up to 300 -/
structure BigS (P : Program) (w : World) (h : Heap) (a : Addr) (L : List (Addr × List Int)) (es : Array (Int × Value)) (ep : Nat) (t : SetTable) : Prop where
  obj : ∃ o, h.get? a = some o ∧ o.ExactSet ∧ o.data = .set es ep t
  ent : es.toList = rowsOf P w L
  lay : Lay t (L.map fun p => thash P w p.2)
  size : Sized t.mask
  uniq : (L.map (·.2)).Nodup
  tups : ∀ p ∈ L, IsT P w h p.2 p.1
  plain : t.plain = true
  led : w.params.followText "set-order" = true ∨ t.led = true
  free : L.length * 5 < t.mask * 3
  few : L.length < 300
section
variable {P : Program} {w : World} {A : Around} {E : Value → Shared → Prop} {s : Shared} {a : Addr} {L : List (Addr × List Int)} {es : Array (Int × Value)} {ep : Nat} {t : SetTable}
theorem rows_len {es : Array (Int × Value)} (e : es.toList = rowsOf P w L) : es.size = L.length := by
  have z := congrArg List.length e
  rwa [Array.length_toList, rowsOf, List.length_map] at z
theorem lay_fits {hs : List Int} {n : Nat} (T : Lay t hs) (e : hs.length = n) (le : n ≤ t.mask) : t.fits n = true := by
  have z := T.many
  rw [Array.length_toList, e] at z
  simp [SetTable.fits, SetTable.fill, T.clean, z, le]
theorem BigS.fits (R : BigS P w s.heap a L es ep t) : t.fits es.size = true := by
  have r := R.free
  exact lay_fits R.lay (by rw [List.length_map, rows_len R.ent]) (by rw [rows_len R.ent]; omega)
theorem BigS.at_ (R : BigS P w s.heap a L es ep t) {i : Nat} {p : Addr × List Int} (e : L[i]? = some p) : es[i]? = some (thash P w p.2, Value.ref p.1) := by
  rw [← Array.getElem?_toList, R.ent, rowsOf, List.getElem?_map, e]
  rfl
theorem BigS.stays (R : BigS P w s.heap a L es ep t) : ¬ t.gaveWay = true := by
  rw [SetTable.gaveWay, R.size.odd]
  decide
theorem no_dummy {m : Nat} : ∀ (n : Nat) (p : SetTable.Probe), p.dummy = none → (nth m p n).dummy = none
  | 0, _, h => h
  | n + 1, p, h => no_dummy n (adv m p) (by unfold adv; split <;> exact h)
/-- the way of a hash, step by step -/
abbrev stp (m : Nat) (h : Int) (c : Nat) : SetTable.Probe := nth m (runAt m (SetTable.bits h % (m + 1)) (SetTable.bits h)) c
theorem stp_add (m : Nat) (h : Int) (c q : Nat) : nth m (stp m h c) q = stp m h (c + q) := (nth_add m c _ q).symm
theorem stp_way (m : Nat) (h : Int) (c q : Nat) : (nth m (stp m h c) q).j = way m h (c + q) := congrArg SetTable.Probe.j (stp_add m h c q)
/-- looked for from the c-th step on: it is met among the live ones, or the gap is -/
theorem BigS.look (R : BigS P w s.heap a L es ep t) {x : Addr} {k : List Int} (hx : IsT P w s.heap k x) (hu : A.units < cLine) {K : Nat} (lim : K < 10 * SetTable.turns t.mask)
    (gap : way t.mask (thash P w k) K ∉ t.place.toList) (full : ∀ c, c < K → way t.mask (thash P w k) c ∈ t.place.toList) {Q : SetFound → Shared → Prop}
    (old : k ∈ L.map (·.2) → Q (.there none) s) (new : k ∉ L.map (·.2) → Q (.free (way t.mask (thash P w k) K) false) s) (f : Nat) :
    ∀ (c : Nat) (stand : Option SetTable.Probe), c ≤ K → K < f + c → stand.getD (t.probeStart (thash P w k)) = stp t.mask (thash P w k) c →
      (∀ (i : Nat) p, L[i]? = some p → p.2 = k → ∃ d, c ≤ d ∧ d < K ∧ t.place.toList[i]? = some (way t.mask (thash P w k) d)) →
      wpAny (model P w) A (setSearchFrom a (.ref x) (thash P w k) true f stand) Q E s := by
  obtain ⟨o, ho, hex, hd⟩ := R.obj
  have len : t.place.toList.length = L.length := by rw [R.lay.many, List.length_map]
  have hashes : ∀ (i : Nat) p, L[i]? = some p → (fun i => (es[i]?.map (·.1)).getD 0) i = thash P w p.2 := fun i p e => by
    show (es[i]?.map (·.1)).getD 0 = _
    rw [R.at_ e]
    rfl
  induction f with
  | zero => intro c _ a1 a2; omega
  | succ f ih =>
    intro c stand ck fuel at_c ahead
    rw [setSearchFrom_succ]
    refine wpAny_bind (wpAny_setState_of ho hd R.fits ?_)
    dsimp only
    refine wp_if_neg R.stays ?_
    try refine wpAny_bind (wpAny_pure ?_)
    rcases go_spec t R.lay.up R.lay.clean (fun i => (es[i]?.map (·.1)).getD 0) (thash P w k) (10 * SetTable.turns t.mask) (K - c) (stp t.mask (thash P w k) c) (no_dummy c _ rfl) (by omega)
      (fun q hq => by rw [stp_way]; exact full _ (by omega)) (by rw [stp_way, Nat.add_sub_cancel' ck]; exact gap) with ⟨q, i, q1, live, same, others, met⟩ | ⟨others, met⟩
    · -- one with the same hash
      rw [stp_way] at live met
      rw [stp_add] at met
      have il : i < L.length := len ▸ (List.getElem?_eq_some_iff.mp live).1
      obtain ⟨p, hp⟩ : ∃ p, L[i]? = some p := ⟨_, List.getElem?_eq_getElem il⟩
      have hm := List.mem_of_getElem? hp
      have e1 : t.probe (fun i => (es[i]?.map (·.1)).getD 0) (thash P w k) (stand.getD (t.probeStart (thash P w k))) = _ := (congrArg _ at_c).trans met
      rw [e1]
      dsimp only
      have judged : wpAny (model P w) A (searchRest a (.ref x) (thash P w k) true f es t (way t.mask (thash P w k) (c + q)) i (stp t.mask (thash P w k) (c + (q + 1)))) Q E s := by
        unfold searchRest
        rw [R.at_ hp]
        dsimp only
        refine wpAny_bind (wpAny_holding (wpAny_eqBool_tuple hu (R.tups p hm) hx ?_))
        refine wpAny_bind (wpAny_setState_of ho hd R.fits ?_)
        dsimp only
        rcases Classical.em (p.2 = k) with eq | ne
        · exact wp_if_pos (by simp [eq]) (wpAny_pure (old (List.mem_map.mpr ⟨p, hm, eq⟩)))
        · refine wp_if_neg (by simp [ne]) ?_
          try refine wpAny_bind (wpAny_pure ?_)
          rw [sameMem]
          dsimp only
          have sl := slot_live R.lay.up live
          simp only [if_true, sl, R.at_ hp]
          refine wpAny_bind (wpAny_isSame_ref_self (wpAny_bind (wpAny_pure ?_)))
          simp only [if_true]
          refine wp_if_neg (by simp [ne]) ?_
          refine ih (c + (q + 1)) _ (by omega) (by omega) rfl fun i2 p2 h2 k2 => ?_
          obtain ⟨d, d1, d2, d3⟩ := ahead i2 p2 h2 k2
          refine ⟨d, ?_, d2, d3⟩
          have far : ¬ d < c + q := fun lt => others (d - c) i2 (by omega) (by rw [stp_way, Nat.add_sub_cancel' d1]; exact d3) ((hashes i2 p2 h2).trans (by rw [k2]))
          have off_ : d ≠ c + q := fun eq => by
            rw [eq] at d3
            have z := sl.symm.trans (slot_live R.lay.up d3)
            injection z with z
            rw [← z, hp] at h2
            cases h2
            exact ne k2
          omega
      rcases Bool.eq_false_or_eq_true t.led with on | no
      · refine wp_if_neg (by simp [on]) ?_
        try refine wpAny_bind (wpAny_pure ?_)
        exact judged
      · refine wp_if_pos (by simp [no]) ?_
        refine wpAny_bind (seen_tup hx (fun y hy => ?_) ?_)
        · obtain ⟨e, he, rfl⟩ := List.mem_map.mp hy
          have he2 : e ∈ es.toList := by
            have z : e ∈ es ∧ e.1 = thash P w k := by simpa using he
            simpa using z.1
          rw [R.ent] at he2
          obtain ⟨p2, m2, rfl⟩ := List.mem_map.mp he2
          exact ⟨p2.2, p2.1, rfl, R.tups p2 m2⟩
        · refine wp_if_neg (by decide) ?_
          try refine wpAny_bind (wpAny_pure ?_)
          exact judged
    · -- the gap
      rw [stp_way, Nat.add_sub_cancel' ck] at met
      have e1 : t.probe (fun i => (es[i]?.map (·.1)).getD 0) (thash P w k) (stand.getD (t.probeStart (thash P w k))) = _ := (congrArg _ at_c).trans met
      rw [e1]
      dsimp only
      refine wpAny_pure (new fun m => ?_)
      obtain ⟨p2, m2, k2⟩ := List.mem_map.mp m
      obtain ⟨i2, h2⟩ := List.mem_iff_getElem?.mp m2
      obtain ⟨d, d1, d2, d3⟩ := ahead i2 p2 h2 k2
      exact others (d - c) i2 (by omega) (by rw [stp_way, Nat.add_sub_cancel' d1]; exact d3) ((hashes i2 p2 h2).trans (by rw [k2]))
/-- looked for from the begin on -/
theorem BigS.find (R : BigS P w s.heap a L es ep t) {x : Addr} {k : List Int} (hx : IsT P w s.heap k x) (hu : A.units < cLine) {Q : SetFound → Shared → Prop}
    (old : k ∈ L.map (·.2) → Q (.there none) s)
    (new : ∀ K, k ∉ L.map (·.2) → way t.mask (thash P w k) K ∉ t.place.toList → (∀ c, c < K → way t.mask (thash P w k) c ∈ t.place.toList) → Q (.free (way t.mask (thash P w k) K) false) s) :
    wpAny (model P w) A (setSearch a (.ref x) (thash P w k) true) Q E s := by
  have r := R.free
  have le := R.size.le
  obtain ⟨K, lim, gap, full⟩ := R.lay.gap R.size.runs.meets (by rw [List.length_map]; omega) (thash P w k)
  unfold SetTable.turns at lim
  unfold setSearch
  refine R.look hx hu lim gap full old (fun n => new K n gap full) 100000 0 none (Nat.zero_le _) (by omega) rfl fun i p hp hk => ?_
  have il : i < t.place.toList.length := by
    rw [R.lay.many, List.length_map]
    exact (List.getElem?_eq_some_iff.mp hp).1
  obtain ⟨d, lt, e⟩ := R.lay.ahead gap (show (L.map fun p => thash P w p.2)[i]? = some (thash P w k) by rw [List.getElem?_map, hp, ← hk]; rfl) (List.getElem?_eq_getElem il)
  exact ⟨d, Nat.zero_le _, lt, by rw [List.getElem?_eq_getElem il, e]⟩
end
end Nc

/-! Own rules: large sets of tuples, added to -/
namespace Nc
open PySem PySem.Spec PyProof.Rows L2
section
variable {P : Program} {w : World} {A : Around} {E : Value → Shared → Prop} {s : Shared} {a : Addr} {L : List (Addr × List Int)} {es : Array (Int × Value)} {ep : Nat} {t : SetTable}
/-- a set whose table is full gets a larger one -/
theorem big_relay {o : Obj} (ho : s.heap.get? a = some o) (hex : o.ExactSet) (hd : o.data = .set es ep t) (ent : es.toList = rowsOf P w L) (T : Lay t (L.map fun p => thash P w p.2)) (inn : L.length ≤ t.mask)
    (uniq : (L.map (·.2)).Nodup) (tups : ∀ p ∈ L, IsT P w s.heap p.2 p.1) (plain : t.plain = true) (led : w.params.followText "set-order" = true ∨ t.led = true) (few : L.length < 300) {wanted M : Nat}
    (hw : SetTable.sizeAbove wanted = M + 1) (hM : Sized M) (free : L.length * 5 < M * 3) {Q : Unit → Shared → Prop}
    (hQ : ∀ h' L' es' ep' t', Heap.SameBut a s.heap h' → BigS P w h' a L' es' ep' t' → L'.Perm L → Q () { s with heap := h' }) : wpAny (model P w) A (setRelay a wanted) Q E s := by
  have n := rows_len ent
  have le := hM.le
  obtain ⟨t2, order, e, pm, T2, m2, l2, p2⟩ := laid_anew t (hs := es.map (·.1)) (wanted := wanted) (M := M) (by omega) hM.runs (by rw [Array.size_map, n]; omega)
  rw [Array.size_map, n] at pm
  obtain ⟨L2, r1, r2, r3⟩ := order_rows L es order ent pm
  rw [← r3] at T2
  have n2 : (order.filterMap (es[·]?)).size = es.size := by rw [rows_len r1, r2.length_eq, n]
  rw [setRelay_eq]
  refine wpAny_bind (wpAny_setState_of ho hd (lay_fits T (by rw [List.length_map, n]) (by omega)) ?_)
  dsimp only
  refine wp_if_neg (by rw [sizeLine_eq, hw]; omega) ?_
  try refine wpAny_bind (wpAny_pure ?_)
  rw [e]
  dsimp only
  refine wpAny_bind (wp_if_neg (by rw [n2]; simp) ?_)
  try refine wpAny_bind (wpAny_pure ?_)
  refine wpAny_pure ?_
  dsimp only
  have sb : Heap.SameBut a s.heap (s.heap.update a (Obj.putSet (order.filterMap (es[·]?)) t2)) := Heap.SameBut.update ..
  refine wpAny_storeSet_of ho hd ?_ (by rw [n2, n, sizeLine_eq]; omega)
  refine hQ _ L2 (order.filterMap (es[·]?)) (ep + 1) t2 sb ?_ r2
  exact ⟨⟨_, store_at ho hd, ⟨hex.1, hex.2.1, hex.2.2⟩, rfl⟩, r1, T2, m2 ▸ hM, (r2.map (·.2)).nodup_iff.mpr uniq, fun p hp => isT_same (tups p (r2.mem_iff.mp hp)) ho hd sb, p2.trans plain, by rw [l2]; exact led, by rw [r2.length_eq, m2]; exact free, by rw [r2.length_eq]; exact few⟩
/-- when a table is full, and how large the next one is -/
theorem grows {m n : Nat} (hm : Sized m) (free : n * 5 < m * 3) (full : (n + 1) * 5 ≥ m * 3) (few : n + 1 < 300) : n + 1 ≤ m ∧ ∃ M, SetTable.sizeAbove (SetTable.grown (n + 1)) = M + 1 ∧ Sized M ∧ (n + 1) * 5 < M * 3 := by
  rcases hm with (e | e | e) | e <;> subst e
  · obtain rfl : n = 4 := by omega
    exact ⟨by decide, 31, size_20, .inl (.inr (.inl rfl)), by decide⟩
  · obtain rfl : n = 18 := by omega
    exact ⟨by decide, 127, size_76, .inl (.inr (.inr rfl)), by decide⟩
  · obtain rfl : n = 76 := by omega
    exact ⟨by decide, 511, grown_308, .inr rfl, by decide⟩
  · omega
/-- one is added -/
theorem BigS.add (R : BigS P w s.heap a L es ep t) {x : Addr} {k : List Int} (hx : IsT P w s.heap k x) (hu : A.units < cLine) (few : L.length + 1 < 300) {Q : Bool → Shared → Prop}
    (hQ : ∀ b h' L' es' ep' t', Heap.SameBut a s.heap h' → BigS P w h' a L' es' ep' t' → (k ∈ L.map (·.2) → L' = L) → (k ∉ L.map (·.2) → L'.Perm ((x, k) :: L)) → Q b { s with heap := h' }) :
    wpAny (model P w) A (setAddHashed a (.ref x) (thash P w k)) Q E s := by
  obtain ⟨o, ho, hex, hd⟩ := R.obj
  have n := rows_len R.ent
  have fr := R.free
  have le := R.size.le
  unfold setAddHashed
  refine wpAny_holding ?_
  rw [show (100000 : Nat) = 99999 + 1 from rfl, setAddHashedIn_succ]
  refine wpAny_bind (wpAny_setState_of ho hd R.fits ?_)
  dsimp only
  refine wp_if_neg (by simp [byScan, Value.scannable]) ?_
  try refine wpAny_bind (wpAny_pure ?_)
  refine wpAny_bind (R.find hx hu (fun there => ?_) fun K out gap full => ?_)
  · dsimp only
    exact wpAny_pure (hQ false _ L es ep t (Heap.SameBut.refl a s.heap) R (fun _ => rfl) fun z => absurd there z)
  · dsimp only
    refine wpAny_bind (wpAny_setState_of ho hd R.fits ?_)
    dsimp only
    obtain ⟨cut, T1, fill⟩ := R.lay.put rfl gap full
    generalize way t.mask (thash P w k) K = j at cut T1 fill gap ⊢
    have pl1 : (t.put j).1.plain = true := R.plain
    first
      | (refine wpAny_bind ?_; refine wp_if_pos pl1 ?_; refine hashBy_tup hx ?_)
      | refine wp_if_pos pl1 (wpAny_bind (hashBy_tup hx ?_))
    simp only [if_true]
    show wpAny _ A (do
      storeSet a (SetTable.insertAt es (SetTable.below t.place j) (thash P w k, Value.ref x)) (t.put j).1
      if (!false && (t.put j).1.tooFull) = true then do
          setRelay a (SetTable.grown (es.size + 1))
          pure true
        else pure true) Q E s
    have ent1 : (SetTable.insertAt es (SetTable.below t.place j) (thash P w k, Value.ref x)).toList = rowsOf P w (L.take (SetTable.below t.place j) ++ (x, k) :: L.drop (SetTable.below t.place j)) := by
      rw [SetTable.toList_insertAt, rows_put, R.ent]
    have pm := put_perm L (SetTable.below t.place j) (x, k)
    have T2 : Lay (t.put j).1 ((L.take (SetTable.below t.place j) ++ (x, k) :: L.drop (SetTable.below t.place j)).map fun p => thash P w p.2) := by
      rw [List.map_append, List.map_cons, List.map_take, List.map_drop]
      exact T1
    generalize L.take (SetTable.below t.place j) ++ (x, k) :: L.drop (SetTable.below t.place j) = L1 at ent1 pm T2
    generalize SetTable.insertAt es (SetTable.below t.place j) (thash P w k, Value.ref x) = es1 at ent1 ⊢
    have n1 : L1.length = L.length + 1 := pm.length_eq
    have ne1 := rows_len ent1
    rw [List.length_map] at fill
    have mk : (t.put j).1.mask = t.mask := rfl
    have le1 : (t.put j).1.led = t.led := rfl
    generalize (t.put j).1 = t1 at T2 pl1 fill mk le1 ⊢
    have full1 : t1.tooFull = true ↔ (L.length + 1) * 5 ≥ t.mask * 3 := by rw [SetTable.tooFull, decide_eq_true_eq, fill, mk]
    have uniq1 : (L1.map (·.2)).Nodup := by
      refine (pm.map (·.2)).nodup_iff.mpr ?_
      rw [List.map_cons]
      exact List.nodup_cons.mpr ⟨out, R.uniq⟩
    have led1 : w.params.followText "set-order" = true ∨ t1.led = true := by rw [le1]; exact R.led
    have sb : Heap.SameBut a s.heap (s.heap.update a (Obj.putSet es1 t1)) := Heap.SameBut.update ..
    have ho1 := store_at (es' := es1) (t' := t1) ho hd
    have tups1 : ∀ p ∈ L1, IsT P w (s.heap.update a (Obj.putSet es1 t1)) p.2 p.1 := fun p hp => by
      rcases List.mem_cons.mp (pm.mem_iff.mp hp) with e | m
      · rw [e]
        exact isT_same hx ho hd sb
      · exact isT_same (R.tups p m) ho hd sb
    refine wpAny_bind (wpAny_storeSet_of ho hd ?_ (by rw [ne1, n1, sizeLine_eq]; omega))
    generalize s.heap.update a (Obj.putSet es1 t1) = h1 at sb ho1 tups1 ⊢
    rcases Nat.lt_or_ge ((L.length + 1) * 5) (t.mask * 3) with lt | ge
    · have nf : ¬ t1.tooFull = true := fun z => by
        have := full1.mp z
        omega
      refine wp_if_neg (by simp [nf]) ?_
      exact wpAny_pure (hQ true h1 L1 es1 (ep + 1) t1 sb ⟨⟨_, ho1, ⟨hex.1, hex.2.1, hex.2.2⟩, rfl⟩, ent1, T2, mk ▸ R.size, uniq1, tups1, pl1, led1, by rw [n1, mk]; exact lt, by rw [n1]; exact few⟩ (fun z => absurd z out) fun _ => pm)
    · refine wp_if_pos (by simp [full1.mpr ge]) ?_
      obtain ⟨inn, M, eM, hM, fM⟩ := grows R.size fr ge few
      rw [n]
      refine wpAny_bind (big_relay (s := { s with heap := h1 }) ho1 ⟨hex.1, hex.2.1, hex.2.2⟩ rfl ent1 T2 (by rw [n1, mk]; exact inn) uniq1 tups1 pl1 led1 (by rw [n1]; exact few) eM hM (by rw [n1]; exact fM) ?_)
      intro h2 L2 es2 ep2 t2 sb2 R2 pm2
      exact wpAny_pure (hQ true h2 L2 es2 ep2 t2 (sb.trans sb2) R2 (fun z => absurd z out) fun _ => pm2.trans pm)
end
end Nc

/-! Own rules: how many unlike ones a list of up to 299 tuples has -/
namespace Nc
open PySem PySem.Spec PyProof.Rows L2
section
variable {P : Program} {w : World} {A : Around} {E : Value → Shared → Prop} {s : Shared}
theorem BigS.keep {h h' : Heap} {a : Addr} {L : List (Addr × List Int)} {es : Array (Int × Value)} {ep : Nat} {t : SetTable} (R : BigS P w h a L es ep t) (ha : ∀ o, h.get? a = some o → h'.get? a = some o) (ht : ∀ p ∈ L, IsT P w h' p.2 p.1) : BigS P w h' a L es ep t :=
  let ⟨o, ho, r⟩ := R.obj
  ⟨⟨o, ha o ho, r⟩, R.ent, R.lay, R.size, R.uniq, ht, R.plain, R.led, R.free, R.few⟩
theorem big_fresh {h : Heap} {a : Addr} (ho : h.get? a = some { cls := .type "set", dict := none, data := .set #[] 0 (.fresh 0 0 (!w.params.followText "set-order")) }) : BigS P w h a [] #[] 0 (.fresh 0 0 (!w.params.followText "set-order")) where
  obj := ⟨_, ho, ⟨rfl, rfl, rfl⟩, rfl⟩
  ent := rfl
  lay := ⟨.nil, rfl, rfl, fun _ hx => absurd hx List.not_mem_nil, fun i h j hi => absurd hi (by simp)⟩
  size := .inl (.inl rfl)
  uniq := .nil
  tups := fun _ hp => absurd hp List.not_mem_nil
  plain := rfl
  led := by
    show _ ∨ (!w.params.followText "set-order") = true
    cases w.params.followText "set-order" <;> simp
  free := by
    show 0 * 5 < 7 * 3
    decide
  few := by
    show 0 < 300
    decide
/-- the items go in one after another -/
theorem big_update {I : Addr} {fp wr : List Addr} {G : Array GenState → Array GenState → Prop} {n : Nat} {Pv : Nat → Value → Prop} {St : Nat → Shared → Prop} {R : Result → Shared → Prop}
    (W : WalksS P w A.in1 I fp wr G n Pv St) (S : Addr) (out : S ∉ fp) (ks : List (Addr × List Int)) (hn : n = ks.length) (few : ks.length < 300) (hval : ∀ i v, Pv i v → ∃ p, ks[i]? = some p ∧ v = .ref p.1)
    (h0 : Heap) (hk : ∀ p ∈ ks, IsT P w h0 p.2 p.1) (hS0 : h0.get? S = none) (hw0 : ∀ b ∈ wr, h0.get? b = none) (hu : A.in1.units < cLine) (d : Nat) :
    ∀ (i : Nat) (s : Shared), i + d = n → St i s → (∀ b o, h0.get? b = some o → s.heap.get? b = some o) → (∃ L es ep t, BigS P w s.heap S L es ep t ∧ Got ks i L) →
      (∀ s' L es ep t, Moved (S :: wr) G s s' → BigS P w s'.heap S L es ep t → Got ks n L → (∀ b o, h0.get? b = some o → s'.heap.get? b = some o) → R (.ok (.ret .none)) s') →
      codeAny (model P w) A (.builtin "set.update.loop" ⟨[.ref S, .ref I], []⟩) R s := by
  have outW : S ∉ wr := fun m => out (W.sub _ m)
  have wider : ∀ b ∈ wr, b ∈ S :: wr := fun b hb => List.mem_cons_of_mem _ hb
  have stands : ∀ {u v : Shared}, Moved wr G u v → (∀ b o, h0.get? b = some o → u.heap.get? b = some o) → ∀ b o, h0.get? b = some o → v.heap.get? b = some o := fun mv old b o e =>
    mv.heap b o (fun hb => by
      rw [hw0 b hb] at e
      cases e) (old b o e)
  induction d with
  | zero =>
    intro i s at_n hst old ⟨L, es, ep, t, hS, g⟩ fin
    obtain rfl : i = n := at_n
    refine codeAny_builtin F.entry_set_update_loop ?_
    rw [Around.under_plainId F.plain_set_update_loop _]
    show wpAny _ A.in1 (pyNext (.ref I) >>= _) _ _ s
    refine wpAny_bind (W.done s _ _ hst fun s' mv => ?_)
    show wpAny _ A.in1 (ret Value.none) _ _ s'
    exact wpAny_pure (fin s' L es ep t (mv.mono wider) (hS.keep (fun o e => mv.heap S o outW e) fun p hp => isT_keep (hk p (List.mem_of_mem_take (g.sub p hp))) (stands mv old)) g (stands mv old))
  | succ d ih =>
    intro i s at_n hst old ⟨L, es, ep, t, hS, g⟩ fin
    refine codeAny_builtin F.entry_set_update_loop ?_
    rw [Around.under_plainId F.plain_set_update_loop _]
    show wpAny _ A.in1 (pyNext (.ref I) >>= _) _ _ s
    refine wpAny_bind (W.item i s _ _ (by omega) hst fun v s1 hP hst1 mv => ?_)
    obtain ⟨p, hp, rfl⟩ := hval i v hP
    have old1 := stands mv old
    have hx : IsT P w s1.heap p.2 p.1 := isT_keep (hk p (List.mem_of_getElem? hp)) old1
    have hS1 : BigS P w s1.heap S L es ep t := hS.keep (fun o e => mv.heap S o outW e) fun q hq => isT_keep (hk q (List.mem_of_mem_take (g.sub q hq))) old1
    have il : i < ks.length := hn ▸ (by omega : i < n)
    show wpAny _ A.in1 (holding [Value.ref p.1] (setAdd S (.ref p.1)) >>= _) _ _ s1
    refine wpAny_bind (wpAny_holding ?_)
    unfold setAdd
    refine wpAny_holding (wpAny_bind (wpAny_pyHash_tuple hu hx ?_))
    refine BigS.add (s := { s1 with toks := s1.toks + (p.2.length + 1) }) hS1 hx hu (by have := g.len; omega) fun b h2 L2 es2 ep2 t2 sb hS2 c1 c2 => ?_
    have g2 : Got ks (i + 1) L2 := by
      rcases Classical.em (p.2 ∈ L.map (·.2)) with c | c
      · rw [c1 c]
        exact g.same hp c
      · exact g.more hp (c2 c)
    have old2 : ∀ b o, h0.get? b = some o → h2.get? b = some o := fun b o e => (sb.2 b fun z => by
      rw [z, hS0] at e
      cases e).trans (old1 b o e)
    refine wpAny_pure ⟨plainId_quiet F.plain_set_update_loop _, ih (i + 1) _ (by omega) (W.frame _ s1 _ _ hst1 (Nat.le_add_right _ _) fun b hb o e => ?_) old2 ⟨L2, es2, ep2, t2, hS2, g2⟩ fun s3 L3 es3 ep3 t3 mv3 hS3 g3 old3 => ?_⟩
    · exact (sb.2 b fun (z : b = S) => out (z ▸ hb)).trans e
    · exact fin s3 L3 es3 ep3 t3 (Moved.trans W.gtrans ((mv.mono wider).then_heap (Nat.le_add_right _ _) fun b o hb e => (sb.2 b fun (z : b = S) => hb (z ▸ List.mem_cons_self)).trans e) mv3) hS3 g3 old3
end
end Nc

/-! Own rules: len(set(xs)) of up to 299 tuples, no two alike or some -/
namespace Nc
open PySem PySem.Spec PyProof.Rows L2
section
variable {P : Program} {w : World} {A : Around} {E : Value → Shared → Prop} {s : Shared}
abbrev newSet (w : World) : Obj := { cls := .type "set", dict := none, data := .set #[] 0 (.fresh 0 0 (!w.params.followText "set-order")) }
theorem not_there {h : Heap} {b : Addr} (le : h.objs.size ≤ b) : h.get? b = none := by
  cases e : h.get? b with
  | none => rfl
  | some o => exact absurd (Nat.lt_of_lt_of_le (Heap.lt_size e) le) (Nat.lt_irrefl _)
set_option maxHeartbeats 8000000 in
theorem call_set_big {l : Addr} {items : Array Value} (ks : List (Addr × List Int)) {Q : Value → Shared → Prop} (hh : A.handled = none) (hl : s.heap.IsList l items) (hit : items.toList = ks.map fun p => Value.ref p.1)
    (hk : ∀ p ∈ ks, IsT P w s.heap p.2 p.1) (few : ks.length < 300) (hu : A.units + 3 < cLine)
    (h : ∀ (h' : Heap) (tk : Nat) L es ep t, BigS P w h' s.heap.objs.size L es ep t → Got ks ks.length L → (∀ b o, s.heap.get? b = some o → h'.get? b = some o) → Q (.ref s.heap.objs.size) { s with heap := h', toks := tk }) :
    wpAny (model P w) A (call (.type "set") [.ref l]) Q E s := by
  have many : items.size = ks.length := by rw [← Array.length_toList, hit, List.length_map]
  obtain ⟨c, tl, hmro⟩ := F.called_set.mro
  have hmade := F.called_set.made
  have hsub := F.called_set.sub
  refine wpAny_call (codeAny_of_tree ?_)
  show wpAny _ _ (callAny (.type "set") _) _ _ _
  refine wpAny_pure ⟨Code.quiet_builtin _ (by decide +kernel), codeAny_builtin F.entry_type_call ?_⟩
  rw [Around.under_plain (weight_type_call_type "set" [.ref l] []) rfl]
  have h1 := F.called_set.notType
  have h2 := F.called_set.canCreate
  have hct := F.typeCall_set_1 (.ref l)
  repeat (any_goals (first | assumption | wp_step))
  refine codeAny_mono (code_set_led1 (.ref l) (E := E) (Q₁ := fun obj s1 => obj = .ref s.heap.objs.size ∧ s1 = { s with heap := s.heap.push (newSet w) }) ⟨rfl, rfl⟩) fun r s1 hr => ?_
  match r, hr with
  | .ok (.ret obj), hr =>
    obtain ⟨rfl, rfl⟩ := hr
    have hS : (s.heap.push (newSet w)).get? s.heap.objs.size = some (newSet w) := Heap.get?_push_size _ rfl
    have hT : Shared.TypeIs { s with heap := s.heap.push (newSet w) } (.ref s.heap.objs.size) "set" := ⟨_, hS, rfl⟩
    have hli := F.called_set.init.lookup
    have hbi := F.called_set.init.bind (.ref s.heap.objs.size)
    dsimp only
    repeat (any_goals (first | assumption | wp_step))
    refine codeAny_mono (codeAny_call_builtin (R := wants (fun v s2 => v = .none ∧ ∃ h' tk L es ep t, s2 = { s with heap := h', toks := tk } ∧ BigS P w h' s.heap.objs.size L es ep t ∧ Got ks ks.length L ∧ (∀ b o, s.heap.get? b = some o → h'.get? b = some o)) E)
      F.called_set.init.plain F.entry_set_init (check_set_init_1 hT ?_)) fun r2 s2 hr2 => ?_
    · obtain ⟨⟨ocls, odict, odata, oslots⟩, hol, hcl, nl, hdl⟩ := hl
      dsimp only at hcl hdl
      subst hcl
      subst hdl
      have later : ∀ b o, s.heap.get? b = some o → (s.heap.push (newSet w)).get? b = some o := fun b o e => Heap.get?_push_of_some _ e
      have hl1 : (s.heap.push (newSet w)).IsList l items := ⟨_, later l _ hol, rfl, nl, rfl⟩
      have hol' : (s.heap.push (newSet w)).get? l = some { cls := .type "list", dict := odict, data := .seq items nl, slots := oslots } := later l _ hol
      have hsls := F.sub_list_set
      have hslf := F.sub_list_frozenset
      have hne : (Value.type "list" == Value.type "dict") = false := by decide
      unfold Builtin.«set.__init__» noKeywords Builtin.Frozenset.updateFrom
      generalize hPI : pyIter = PI
      wp_walk
      subst hPI
      have sz : (s.heap.push (newSet w)).objs.size = s.heap.objs.size + 1 := Heap.size_push ..
      have lS : l < s.heap.objs.size := Heap.lt_size hol
      have hA : A.in1.in1.in1.handled = none := by simp [hh]
      have away : l ≠ (s.heap.push (newSet w)).objs.size := by
        rw [sz]
        exact Nat.ne_of_lt (Nat.lt_succ_of_lt lS)
      have apart : s.heap.objs.size ∉ [(s.heap.push (newSet w)).objs.size, l] := fun m => by
        rw [sz] at m
        rcases List.mem_cons.mp m with e | m
        · exact absurd e (Nat.ne_of_lt (Nat.lt_succ_self _))
        · exact absurd (List.mem_singleton.mp m) (Nat.ne_of_gt lS)
      refine wpAny_pyIter_list hl1 (wpAny_bind (wpAny_runValue ?_))
      refine big_update ((Walks.list hA _ l away items).toS) s.heap.objs.size apart ks many few (fun i v hv => ?_) s.heap hk (not_there (Nat.le_refl _)) (fun b hb => not_there (by rw [List.mem_singleton.mp hb, sz]; exact Nat.le_succ _)) hu items.size 0 _
        (Nat.zero_add _) ⟨⟨_, Heap.get?_push_size _ rfl, rfl, rfl⟩, hl1.push _⟩ (fun b o e => Heap.get?_push_of_some _ (later b o e)) ⟨[], #[], 0, _, big_fresh (Heap.get?_push_of_some _ hS), Got.zero ks⟩ fun s3 L es ep t mv hS3 g old => ?_
      · have q : items.toList[i]? = some v := by rw [Array.getElem?_toList]; exact hv
        rw [hit, List.getElem?_map, Option.map_eq_some_iff] at q
        obtain ⟨p, e1, e2⟩ := q
        exact ⟨p, e1, e2.symm⟩
      · obtain ⟨h', g3, d3, tk, os3⟩ := s3
        obtain rfl : g3 = s.gens := mv.gens
        obtain rfl : d3 = s.drawn := mv.drawn
        obtain rfl : os3 = s.os := mv.os
        show wpAny _ _ _ _ _ _
        refine wpAny_pure ?_
        show wpAny _ _ (ret Value.none) _ _ _
        rw [many] at g
        exact wpAny_pure ⟨rfl, h', tk, L, es, ep, t, rfl, hS3, g, old⟩
    · match r2, hr2 with
      | .ok (.ret v), hr2 =>
        obtain ⟨rfl, h', tk, L, es, ep, t, rfl, hS2, g, old⟩ := hr2
        dsimp only
        repeat (any_goals (first | assumption | wp_step))
        exact h _ _ _ _ _ _ hS2 g old
      | .error e, hr2 => exact hr2
  | .error e, hr => exact hr
end
end Nc

/-! Own rules: len(set(xs)) in an expression -/
namespace Nc
open PySem PySem.Spec PyProof.Rows L2
/-- unlike ones among others: no more than these -/
theorem sub_len {α : Type} [BEq α] [LawfulBEq α] : ∀ {l m : List α}, l.Nodup → (∀ x ∈ l, x ∈ m) → l.length ≤ m.length
  | [], _, _, _ => Nat.zero_le _
  | x :: l, m, n, h => by
    obtain ⟨n1, n2⟩ := List.nodup_cons.mp n
    have mx := h x List.mem_cons_self
    have z := sub_len (l := l) (m := m.erase x) n2 fun y hy => (List.mem_erase_of_ne (fun (e : y = x) => n1 (by rw [← e]; exact hy))).mpr (h y (List.mem_cons_of_mem _ hy))
    have pos := List.length_pos_of_mem mx
    rw [List.length_erase_of_mem mx] at z
    rw [List.length_cons]
    omega
/-- as many as these: these are unlike, too -/
theorem sub_full {α : Type} [BEq α] [LawfulBEq α] : ∀ {l m : List α}, l.Nodup → (∀ x ∈ l, x ∈ m) → m.length ≤ l.length → m.Nodup
  | [], m, _, _, le => by
    rw [List.eq_nil_of_length_eq_zero (Nat.le_zero.mp le)]
    exact .nil
  | x :: l, m, n, h, le => by
    obtain ⟨n1, n2⟩ := List.nodup_cons.mp n
    have mx := h x List.mem_cons_self
    have pos := List.length_pos_of_mem mx
    have sub : ∀ y ∈ l, y ∈ m.erase x := fun y hy => (List.mem_erase_of_ne (fun (e : y = x) => n1 (by rw [← e]; exact hy))).mpr (h y (List.mem_cons_of_mem _ hy))
    have len := List.length_erase_of_mem mx
    rw [List.length_cons] at le
    have n3 := sub_full n2 sub (by omega)
    refine (List.perm_cons_erase mx).nodup_iff.mpr (List.nodup_cons.mpr ⟨fun again => ?_, n3⟩)
    have z := sub_len n fun y hy => (List.mem_cons.mp hy).elim (fun e => e ▸ again) (sub y)
    rw [List.length_cons] at z
    omega
section
variable {X : Cx}
/-- len(set(xs)), xs a list of fewer than 300 tuples of ints: as many as there are unlike ones -/
def tLenSetB (K : PySem.W.Frag) (ta : TE) : TE := fun σ H Q => ta σ H fun x H1 => ∃ (l : Addr) (ks : List (Addr × List Int)), x = V.ref l ∧ SqL K H1 l (ks.map fun p => V.ref p.1) ∧ (∀ p ∈ ks, SqT K H1 p.1 (p.2.map V.int)) ∧ ks.length < 300 ∧
  ∀ n : Nat, n ≤ ks.length → (n = ks.length ↔ (ks.map (·.2)).Nodup) → Q (.int n) H1
/-- unlike ones among all: all if and only if no two are alike -/
theorem got_len {ks L : List (Addr × List Int)} (g : Got ks ks.length L) (u : (L.map (·.2)).Nodup) : L.length ≤ ks.length ∧ (L.length = ks.length ↔ (ks.map (·.2)).Nodup) := by
  refine ⟨g.len, fun e => ?_, fun n => ?_⟩
  · have sub : ∀ x ∈ L.map (·.2), x ∈ ks.map (·.2) := fun x hx => by
      obtain ⟨p, hp, rfl⟩ := List.mem_map.mp hx
      exact List.mem_map.mpr ⟨p, List.mem_of_mem_take (g.sub p hp), rfl⟩
    exact sub_full u sub (by rw [List.length_map, List.length_map]; omega)
  · refine Nat.le_antisymm g.len ?_
    have sub : ∀ x ∈ ks.map (·.2), x ∈ L.map (·.2) := fun x hx => by
      obtain ⟨p, hp, rfl⟩ := List.mem_map.mp hx
      exact g.all p (by rw [List.take_length]; exact hp)
    have z := sub_len n sub
    rwa [List.length_map, List.length_map] at z
theorem pe_lenSetB {a : Expr} {ta : TE} {p p2 q pos : Pos} (hc : X.calm = true) (hu5 : X.A.units + 64 < cLine) (hg : Gl X "len") (hm : X.mg "len" = none) (hg2 : Gl X "set") (hm2 : X.mg "set" = none) (ha : PE X a ta)
    (na : starEach [a] X.env = (false, eval a X.env) :: starEach [] X.env := by rfl) : PE X (.Call (.Name "len" p) [.Call (.Name "set" p2) [a] [] q] [] pos) (tLenSetB X.K ta) := by
  refine ⟨fun pins s σ H Q I h => ?_⟩
  refine Call_ (ld_blt I hg hm PySem.boot_len ?_)
  refine PyProof.Rows.callWith_builtin1 (PyProof.Rows.args_cons ?_ rfl) rfl rfl
  refine Call_ (ld_blt I hg2 hm2 PyProof.Rows.boot_set ?_)
  refine PyProof.Rows.callWith_type1 (PyProof.Rows.args_cons (thn (ha.run pins s σ H _ I h) fun v s1 ⟨x, H1, I1, r1, q1⟩ => PyProof.Rows.args_nil ?_) na) na rfl
  obtain ⟨l, ks, rfl, hq, hts, few, q1⟩ := q1
  cases r1
  obtain ⟨its, r, pl, hz⟩ := I1.list hq
  refine call_set_big (P := X.prog) (w := X.w) ks (I1.ok.hd hc) pl.isList (by simpa using refs_of_vals r) (fun p hp => I1.isT (hts p hp)) few (by omega) fun h' tk L es ep t R g old => ?_
  refine PyProof.Rows.args_nil ?_
  obtain ⟨o, ho, hex, hd⟩ := R.obj
  have n := rows_len R.ent
  obtain ⟨le, iff⟩ := got_len g R.uniq
  have I2 : Inv X pins σ H1 { s1 with heap := h', toks := tk } := I1.kept old
  have ff : t.fits es.size = true := R.fits (s := { s1 with heap := h', toks := tk })
  refine call_len_set ho hex hd ff (by rw [n]; omega) ⟨.int L.length, H1, I2.tok _, ⟨_, by rw [n]⟩, q1 _ le iff⟩
end
end Nc

/-! Own rules: a dict comprehension whose keys are tuples -/
namespace Nc
open PySem PySem.Spec PyProof.Rows L2
/-- d[t] = v, t a tuple -/
theorem dT_set {X : Cx} {pins : List (Addr × Obj)} {σ : L2.St} {H : Hp} {s : Shared} {A : Around} {E : Value → Shared → Prop} {D b : Addr} {kvs : List (List L2.Key × V)} {ks : List L2.Key} {v : V} {u r : Value} {Q : Unit → Shared → Prop} (hu : A.units < cLine) (I : L2.Inv X pins σ H s)
    (hD : H D = some (.dT kvs)) (hb : H b = some (.tup (ks.map kV))) (room : kvs.length < sizeLine) (ru : RelV (.ref b) u) (rv : RelV v r) (h : ∀ s', L2.Inv X pins σ (upd H D (.dT (putK kvs ks v))) s' → Q () s') : wpAny (model X.prog X.w) A (dictSet D u r) Q E s := by
  cases ru
  obtain ⟨len, sys, xs, rel, dd⟩ := dt_of I.hok hD
  have lx : xs.length ≤ sizeLine := by rw [← Paired.length rel]; exact len
  refine wpAny_dictSet_heap (hsz := lx) (knd := tupleKind (mixKind X.prog X.w)) hu (key_of I.hok hb) dd fun h' dd' hs => h _ ?_
  have l2 : (putK kvs ks v).length ≤ sizeLine := Nat.le_trans (length_putK kvs _ _) (by omega)
  obtain ⟨o, ds, ep, ho, c1, c2, c3, _, c4⟩ := dd'
  exact d_write I (by rw [hD]; exact True.intro) hs ⟨o, ho⟩ ⟨l2, sys, _, (rel.put ks hb rv).keeps fun c ys ec => (by rw [upd_ne (ne_of ec hD (fun z => nomatch z))]; exact ec), o, ds, ep, ho, c1, c2, c3, c4⟩
end Nc

/-! Own rules: a dict comprehension whose keys are tuples, with its block told in pieces -/
namespace Nc
open PySem PySem.Spec PyProof.Rows L2
section
variable {Y : Cx} {fp : List Addr} {tn : Nat → Heap → Prop} {τ : L2.St} {W : Nat → Nat → Hp → Prop}
/-- a block stands ahead of a turn, n is what is left of its measure -/
def BkAt (Y : Cx) (fp : List Addr) (tn : Nat → Heap → Prop) (τ : L2.St) (W : Nat → Nat → Hp → Prop) (n : Nat) (s : Shared) : Prop := ∃ i G, L2.Inv Y [] τ G s ∧ tn i s.heap ∧ (∀ a ∈ fp, G a = none) ∧ W i n G
theorem bk_own {σ : L2.St} {G : Hp} {s : Shared} (ex : Y.ex = fp) (pn : Y.pn = []) (I : L2.Inv Y [] σ G s) (fr : ∀ a ∈ fp, G a = none) : ∀ a ∈ fp, FpOk Y [] G a := by
  subst ex
  intro a m
  have z := I.ok.exf a m
  exact ⟨fr a m, z.1, I.ok.exfs a m, .inl m, z.2, by rw [pn]; intro p hp; cases hp⟩
theorem bk_back {tg : Expr} {J : It} {it : Addr} (T : Turn Y.prog Y.w Y.K tg J fp it tn) {vs : List Nat} {i k : Nat} {h : Heap} (st : tn i h) {σ : L2.St} (wi : wipe σ vs = τ) {s : Shared} {G : Hp} (I : L2.Inv Y ([] ++ pinsAt fp h) σ G s) (w : W i k G) : BkAt Y fp tn τ W k s := by
  have pin : ∀ a ∈ fp, ∀ o, h.get? a = some o → s.heap.get? a = some o ∧ G a = none := fun a m o e => by
    have z := I.pin (a, o) (List.mem_append_right _ (List.mem_append_right _ (mem_pinsAt m e)))
    exact ⟨z.1, z.2.1⟩
  subst wi
  refine ⟨i, G, I.unpinned.weak (wipe_length σ vs) fun j v e => (wipe_some e).1, T.keep i h s.heap st fun a m o e => (pin a m o e).1, fun a m => ?_, w⟩
  obtain ⟨o, e, _⟩ := T.obj i h st a m
  exact (pin a m o e).2
theorem bk_turn {tg kx vx : Expr} {ifs : List Expr} {J : It} {it D : Addr} {g : TG} {tt : TT} {tk tv : TE} {σ : L2.St} {vs : List Nat} {Qd : Hp → Prop} {R : Shared → Prop} {E : Value → Shared → Prop} (hc : Y.calm = true) (hu : Y.A.units < cLine) (ex : Y.ex = fp) (pn : Y.pn = []) (xe : Y.xe = fun _ _ => False) (T : Turn Y.prog Y.w Y.K tg J fp it tn) (pg : PG Y tg g) (pt : PTs Y ifs tt) (pk : PE Y kx tk) (pw : PE Y vx tv)
    (step : ∀ i m G, W i m G → (J.stop i G ∧ Qd G) ∨ (J.go i G ∧ ∃ Nx : Hp → Prop, (∀ G', Nx G' → ∃ k, k < m ∧ W (i + 1) k G') ∧ ∀ x G', J.yld i G x G' → g x (wipe σ vs) G' fun σ2 G2 => wipe σ2 vs = wipe σ vs ∧ tt σ2 G2 fun c G3 =>
      if c = true then tk σ2 G3 fun y G4 => tv σ2 G4 fun z G5 => ∃ (kvs : List (List L2.Key × V)) (ks : List L2.Key) (b : Addr), y = .ref b ∧ G5 b = some (.tup (ks.map kV)) ∧ G5 D = some (.dT kvs) ∧ kvs.length < sizeLine ∧ Nx (upd G5 D (.dT (putK kvs ks z))) else Nx G3))
    (fin : ∀ G s', L2.Inv Y [] (wipe σ vs) G s' → Qd G → R s') (n : Nat) (s : Shared) (B : BkAt Y fp tn (wipe σ vs) W n s) :
    wpAny (model Y.prog Y.w) Y.A (pyNext (.ref it)) (fun r s1 => match r with
      | none => R s1
      | some v => wpAny (model Y.prog Y.w) Y.A (letOwnedTupleGo tg (.ref it) v) (fun _ s2 => wpAny (model Y.prog Y.w) Y.A (assign tg Y.env v) (fun _ s3 =>
          wpAny (model Y.prog Y.w) Y.A (forIn ifs true fun c r => if r = true then do let ok ← isTrue c Y.env (eval c Y.env); pure (ForInStep.yield ok) else pure (ForInStep.yield r)) (fun ok s4 =>
            if ok = true then wpAny (model Y.prog Y.w) Y.A (eval kx Y.env) (fun u s5 => wpAny (model Y.prog Y.w) Y.A (eval vx Y.env) (fun r s6 =>
              wpAny (model Y.prog Y.w) Y.A (dictSet D u r) (fun _ s7 => ∃ m, m < n ∧ BkAt Y fp tn (wipe σ vs) W m s7) E s6) E s5) E s4
            else ∃ m, m < n ∧ BkAt Y fp tn (wipe σ vs) W m s4) E s3) E s2) E s1) E s := by
  obtain ⟨i, G, I, st, fr, w⟩ := B
  have toE : ∀ a s, Y.xe a s → False := fun a s z => by rw [xe] at z; exact z
  have weak : ∀ {α : Type} {t : Sem α} {Q1 Q2 : α → Shared → Prop} {s : Shared}, wpAny (model Y.prog Y.w) Y.A t Q1 Y.xe s → (∀ a s, Q1 a s → Q2 a s) → wpAny (model Y.prog Y.w) Y.A t Q2 E s := fun h k => wpAny_mono h k fun a s z => (toE a s z).elim
  rcases step i n G w with ⟨stop, q⟩ | ⟨go, Nx, less, more⟩
  · refine weak (T.done Y rfl rfl rfl hc i [] s _ G Y.xe I (bk_own ex pn I fr) st stop) fun r s1 h => ?_
    obtain ⟨rfl, I1⟩ := h
    exact fin G s1 I1 q
  · refine weak (T.item Y rfl rfl rfl hc i [] s _ G Y.xe I (bk_own ex pn I fr) st go) fun r s1 h => ?_
    obtain ⟨u, rfl, h1⟩ := h
    refine weak h1 fun _ s2 h2 => ?_
    obtain ⟨x, G2, I2, rx, yx, st2, fr2⟩ := h2
    have I3 := I2.pinned (bk_own ex pn I2 fr2) (T.obj _ _ st2)
    refine weak (pg.run _ s2 _ G2 x u _ I3 rx (more x G2 yx)) fun _ s3 h3 => ?_
    obtain ⟨σ3, G3, I4, w3, h3⟩ := h3
    refine weak (pt.run _ s3 σ3 G3 _ I4 h3) fun c s4 h4 => ?_
    obtain ⟨G4, I5, h4⟩ := h4
    have close : ∀ {s' : Shared} {G' : Hp}, L2.Inv Y ([] ++ pinsAt fp s2.heap) σ3 G' s' → Nx G' → ∃ m, m < n ∧ BkAt Y fp tn (wipe σ vs) W m s' := fun I' nx => by
      obtain ⟨m, lt, wm⟩ := less _ nx
      exact ⟨m, lt, bk_back T st2 w3 I' wm⟩
    cases c
    · exact close I5 h4
    · refine weak (pk.run _ s4 σ3 G4 _ I5 h4) fun y s5 h5 => ?_
      obtain ⟨yk, G5, I6, ry, h5⟩ := h5
      refine weak (pw.run _ s5 σ3 G5 _ I6 h5) fun z s6 h6 => ?_
      obtain ⟨zv, G6, I7, rz, kvs, ks, b, rfl, eb, eD, room, nx⟩ := h6
      exact dT_set hu I7 eD eb room ry rz fun s7 I8 => close I8 nx
end
/-- {t: v for target in iter if ..}, t a tuple: D the new dict -/
def tDcT (wi : TI) (g : TG) (tt : TT) (tk tv : TE) (vs : List Nat) : TE := fun σ H Q => wi σ H fun J H1 => ∀ D, H1 D = none → ∃ W : Nat → Nat → Hp → Prop, (∃ m, W 0 m (upd H1 D (.dT []))) ∧ ∀ i m G, W i m G →
  (J.stop i G ∧ Q (.ref D) G) ∨ (J.go i G ∧ ∃ Nx : Hp → Prop, (∀ G', Nx G' → ∃ k, k < m ∧ W (i + 1) k G') ∧ ∀ x G', J.yld i G x G' → g x (wipe σ vs) G' fun σ2 G2 => wipe σ2 vs = wipe σ vs ∧ tt σ2 G2 fun c G3 =>
    if c = true then tk σ2 G3 fun y G4 => tv σ2 G4 fun z G5 => ∃ (kvs : List (List L2.Key × V)) (ks : List L2.Key) (b : Addr), y = .ref b ∧ G5 b = some (.tup (ks.map kV)) ∧ G5 D = some (.dT kvs) ∧ kvs.length < sizeLine ∧ Nx (upd G5 D (.dT (putK kvs ks z))) else Nx G3)
section
variable {X : Cx}
theorem pe_dcT {kx vx tg iter : Expr} {ifs : List Expr} {scope : Scope} {own : List (Str × Nat)} {pos : Pos} {wi : TI} {g : TG} {tt : TT} {tk tv : TE} (hc : X.calm = true) (hu : X.A.units < cLine) (hN : X.N.Nodup) (hi : PI X tg iter wi) (ok : BlkOk X.N X.env.scope scope own)
    (hg : ∀ s H C cl fp, PG (X.blk s H scope (compEnvC scope cl C X.env) fp) tg g) (ht : ∀ s H C cl fp, PTs (X.blk s H scope (compEnvC scope cl C X.env) fp) ifs tt) (hk : ∀ s H C cl fp, PE (X.blk s H scope (compEnvC scope cl C X.env) fp) kx tk) (hv : ∀ s H C cl fp, PE (X.blk s H scope (compEnvC scope cl C X.env) fp) vx tv)
    (hs : ∀ x, foldedSetIterable iter X.env x = pure x := by intro _; rfl) : PE X (.DictComp kx vx [⟨tg, iter, ifs, 0⟩] scope pos) (tDcT wi g tt tk tv (own.map (·.2))) := by
  refine ⟨fun pins s σ H Q I h => ?_⟩
  rw [arm_eval_DictComp]
  have free : ∀ n ∈ scope.names, n.2 = .free → ∃ c, X.env.cells.lookup n.1 = some c := fun n m e => I.ok.has _ (by rcases ok.free n m e with z | z; exact .inl z; exact .inr z)
  refine wpAny_comprehension_free rfl hs (closure_ok free) ok.kind (fun n m e => (ok.uniq n m).trans (congrArg some e)) (thn (hi.run pins s σ H _ I h) fun v s1 h1 => thn h1 fun w s2 h2 => ?_)
  obtain ⟨it, fp, tn, J, H2, rfl, I2, T, st2, f2, q⟩ := h2
  refine wpAny_newObj_type (newEnv_comp ?_)
  obtain ⟨W, ⟨m0, w0⟩, step⟩ := q s2.heap.objs.size (I2.hok.fresh (Nat.le_refl _))
  have nD : H2 s2.heap.objs.size = none := I2.hok.fresh (Nat.le_refl _)
  -- the new dict
  have I3 := I2.laid (a := s2.heap.objs.size) (o := .dT []) (h' := s2.heap.push { cls := .type "dict", data := .dict #[] }) (t' := s2.toks) (fun _ _ e => Heap.get?_push_of_some _ e) (Nat.le_refl _) (dt_empty s2.heap I2.big)
  have small : ∀ a ∈ fp, a < s2.heap.objs.size := fun a m => by
    obtain ⟨_, e, _⟩ := T.obj 0 _ st2 a m
    exact Heap.lt_size e
  generalize hS : ({ s2 with heap := s2.heap.push { cls := .type "dict", data := .dict #[] } } : Shared) = S at I3 ⊢
  have eS : S.heap = s2.heap.push { cls := .type "dict", data := .dict #[] } := by rw [← hS]
  have f3 : ∀ a ∈ fp, FpOk X pins (upd H2 s2.heap.objs.size (.dT [])) a ∧ a < S.heap.objs.size := fun a m => by
    have lt := small a m
    exact ⟨⟨by rw [upd_ne (Nat.ne_of_lt lt)]; exact (f2 a m).1, (f2 a m).2⟩, by rw [eS, Heap.size_push]; exact Nat.lt_succ_of_lt lt⟩
  generalize hD : s2.heap.objs.size = D at nD I3 step w0 f3 ⊢
  have I4 := block_start I3 ok hN f3
  have stS : tn 0 S.heap := T.keep 0 _ _ st2 fun a _ o e => by rw [eS]; exact Heap.get?_push_of_some _ e
  generalize hG : upd H2 D (.dT []) = G at I3 I4 w0 f3
  generalize hcl : cellsFrom (S.heap.objs.size + 1) scope.names (cloFrom X.env.cells scope.names []) = cl at I4
  have pg := hg S G S.heap.objs.size cl fp
  have pt := ht S G S.heap.objs.size cl fp
  have pk := hk S G S.heap.objs.size cl fp
  have pw := hv S G S.heap.objs.size cl fp
  show codeAny _ _ (.compStart (.DictComp kx vx [⟨tg, iter, ifs, 0⟩] scope pos) 0 (.ref it) (.ref D) (compEnvC scope cl S.heap.objs.size X.env)) _ { S with heap := pushCells (S.heap.push { cls := .type "dict", data := .dict #[] }) scope.names }
  generalize hS4 : ({ S with heap := pushCells (S.heap.push { cls := .type "dict", data := .dict #[] }) scope.names } : Shared) = S4 at I4 ⊢
  have st4 : tn 0 S4.heap := T.keep 0 _ _ stS fun a _ o e => by rw [← hS4]; exact pushCells_keeps _ _ _ _ (Heap.get?_push_of_some _ e)
  refine (fun z => codeAny_compStart_dict z (T.self X.A 0 S4 _ _ st4 z)) ?_
  refine compLoop_anyD (BkAt (X.blk S G scope (compEnvC scope cl S.heap.objs.size X.env) fp) fp tn (wipe σ (own.map (·.2))) W) (fun n s5 B => ?_) m0 ⟨0, G, I4, st4, fun a m => (f3 a m).1.1, w0⟩
  refine bk_turn (Y := X.blk S G scope (compEnvC scope cl S.heap.objs.size X.env) fp) (J := J) (g := g) (tt := tt) (tk := tk) (tv := tv) (σ := σ) (Qd := fun G' => Q (.ref D) G') hc hu rfl rfl rfl T pg pt pk pw step (fun G' s6 I6 q6 => ?_) n s5 B
  -- back in the def
  have I7 : L2.Inv X pins σ G' s6 := I3.call' (ch := fp) I6.os I6.base I6.hok I6.bare fun a m => by
    obtain ⟨_, z1, z2, z3, z4, z5⟩ := (f3 a m).1
    exact ⟨z3, z1, z4, z5⟩
  obtain ⟨m, hn, _⟩ := I6.loc
  have nC : G' S.heap.objs.size = none := I6.free
  obtain ⟨z0, z1, z2, z3, z4, z5⟩ := I3.fpOk (Nat.le_refl _) nC
  exact ⟨m, hn, fun h' sb => ⟨.ref D, G', I7.turned (t' := s6.toks) (fun a o na e => (sb.2 a na).trans e) z0 z1 z3 z4 z5, rfl, q6⟩⟩
end
end Nc

/-! Own rules: dict comprehensions with tuples as keys, told item by item. -/
namespace Nc
open PySem PySem.Spec PyProof.Rows L2
/-- what the first n items have put -/
def dOf (kf : Nat → List L2.Key) (zf : Nat → V) (n : Nat) : List (List L2.Key × V) := (List.range n).foldl (fun acc i => putK acc (kf i) (zf i)) []
theorem dOf_succ (kf : Nat → List L2.Key) (zf : Nat → V) (n : Nat) : dOf kf zf (n + 1) = putK (dOf kf zf n) (kf n) (zf n) := by
  unfold dOf
  rw [List.range_succ, List.foldl_append]
  rfl
theorem dOf_len (kf : Nat → List L2.Key) (zf : Nat → V) : ∀ n, (dOf kf zf n).length ≤ n
  | 0 => Nat.le_refl _
  | n + 1 => by
    rw [dOf_succ]
    exact Nat.le_trans (length_putK _ _ _) (Nat.succ_le_succ (dOf_len kf zf n))
theorem dOf_has (kf : Nat → List L2.Key) (zf : Nat → V) (k : List L2.Key) : ∀ n, (valV (dOf kf zf n) k).isSome = true ↔ ∃ i, i < n ∧ kf i = k
  | 0 => ⟨fun h => (by cases h), fun ⟨i, h, _⟩ => absurd h (Nat.not_lt_zero i)⟩
  | n + 1 => by
    rw [dOf_succ, valV_put]
    by_cases c : k = kf n
    · rw [if_pos c]
      exact ⟨fun _ => ⟨n, Nat.lt_succ_self n, c.symm⟩, fun _ => rfl⟩
    · rw [if_neg c, dOf_has kf zf k n]
      constructor
      · rintro ⟨i, h, e⟩
        exact ⟨i, Nat.lt_succ_of_lt h, e⟩
      · rintro ⟨i, h, e⟩
        refine ⟨i, Nat.lt_of_le_of_ne (Nat.le_of_lt_succ h) fun z => c (by rw [← e, z]), e⟩
section
variable {J : It} {n : Nat} {G : Hp → Prop} {Y : Nat → Hp → V → Hp → Prop} {g : TG} {tk tv : TE} {tt : TT} {vs : List Nat} {σ : L2.St} {H1 : Hp} {D : Addr} {Qd : Hp → Prop}
theorem dct_of (w : Walk J n G Y) (nD : H1 D = none) (few : n ≤ 100000) (Gs : ∀ H, Same H1 H → G H) (kf : Nat → List L2.Key) (zf : Nat → V)
    (hs : ∀ i x H H' (Kp : V → V → Hp → Prop) (Kn : Hp → Prop), i < n → Same H1 H → Y i H x H' → (∀ b H4, Same H H4 → H4 b = some (.tup ((kf i).map kV)) → Kp (.ref b) (zf i) H4) → g x (wipe σ vs) H' fun σ2 H2 => wipe σ2 vs = wipe σ vs ∧ tt σ2 H2 fun c H3 => if c = true then tk σ2 H3 fun y H4 => tv σ2 H4 fun z H5 => Kp y z H5 else Kn H3)
    (hd : ∀ H', Same H1 H' → H' D = some (.dT (dOf kf zf n)) → Qd H') :
    ∃ W : Nat → Nat → Hp → Prop, (∃ m, W 0 m (upd H1 D (.dT []))) ∧ ∀ i m H, W i m H →
      (J.stop i H ∧ Qd H) ∨ (J.go i H ∧ ∃ Nx : Hp → Prop, (∀ H', Nx H' → ∃ m', m' < m ∧ W (i + 1) m' H') ∧ ∀ x H', J.yld i H x H' → g x (wipe σ vs) H' fun σ2 H2 => wipe σ2 vs = wipe σ vs ∧ tt σ2 H2 fun c H3 =>
        if c = true then tk σ2 H3 fun y H4 => tv σ2 H4 fun z H5 => ∃ (kvs : List (List L2.Key × V)) (ks : List L2.Key) (b : Addr), y = .ref b ∧ H5 b = some (.tup (ks.map kV)) ∧ H5 D = some (.dT kvs) ∧ kvs.length < sizeLine ∧ Nx (upd H5 D (.dT (putK kvs ks z))) else Nx H3) := by
  refine ⟨fun i m H => m + i = n ∧ Same H1 H ∧ H D = some (.dT (dOf kf zf i)), ⟨n, rfl, same_upd_of (fun _ _ e => e) nD, upd_same⟩, fun i m H z => ?_⟩
  obtain ⟨hm, s1, eD⟩ := z
  by_cases lt : i < n
  · refine .inr ⟨w.goes i H lt (Gs H s1), fun H' => Same H1 H' ∧ H' D = some (.dT (dOf kf zf (i + 1))), fun H' p => ⟨m - 1, by omega, by omega, p⟩, fun x H' y => hs i x H H' _ _ lt s1 (w.yields i H x H' lt (Gs H s1) y) fun b H4 s4 e4 => ?_⟩
    have e := s4 _ _ eD
    have few2 : (dOf kf zf i).length < sizeLine := Nat.lt_of_le_of_lt (dOf_len kf zf i) (Nat.lt_of_lt_of_le (show i < 100001 by omega) (by decide))
    refine ⟨dOf kf zf i, kf i, b, rfl, e4, e, few2, same_upd_of (fun a o h => s4 _ _ (s1 _ _ h)) nD, ?_⟩
    rw [upd_same, dOf_succ]
  · have e : i = n := by omega
    subst e
    exact .inl ⟨w.stops H (Gs H s1), hd H s1 eD⟩
end
end Nc

/-! Own rules: list(zip(xs, ys)). -/
namespace Nc
open PySem PySem.Spec PyProof.Rows L2
section
variable {prog : Program} {w : World} {A : Around} {E : Value → Shared → Prop} {s : Shared} {z TI TO i1 i2 l1 l2 T : Addr} {b : Bool} {oT : Obj} {k : Nat} {xs ys : Array Value}
/-- a zip that has handed out the tuple at T, which is alive -/
def ZOut (h : Heap) (z TI TO T : Addr) (b : Bool) : Prop := h.get? z = some { cls := .type "zip", dict := none, data := .fields #[rawInt T, .bool b, .bool false, .ref TI, .ref TO], slots := #[] }
/-- its tuple isn't free -/
theorem zip_held (hz : ZOut s.heap z TI TO T b) (hT : s.heap.get? T = some oT) {R : Bool → Shared → Prop} (hR : ∀ h', ZOut h' z TI TO T true → Heap.SameBut z s.heap h' → R false { s with heap := h' }) : wpAny (model prog w) A (Builtin.SmallTypes.ownedTupleIsFree (.ref z)) R E s := by
  unfold Builtin.SmallTypes.ownedTupleIsFree
  refine wpAny_bind (wpAny_field hz rfl (x := rawInt T) rfl ?_)
  show wpAny _ _ (loadIfAlive ((T : Int).toNat) >>= fun _ => _) _ _ _
  rw [Int.toNat_natCast]
  refine wpAny_bind (PySem.W.kdx_alive hT ?_)
  simp only [Option.isNone_some, Bool.false_eq_true, if_false]
  refine wpAny_bind (wpAny_field hz rfl (x := .bool b) rfl ?_)
  cases b
  · rw [if_pos (by rfl)]
    exact wpAny_bind (wpAny_setField_rec hz (by simp) fun h' e sb => wpAny_pure (hR h' e sb))
  · rw [if_neg (by exact Bool.false_ne_true)]
    exact wpAny_pure (hR s.heap hz (Heap.SameBut.refl _ _))
theorem zip_again {x y : Value} {Q : Value → Shared → Prop} (D : ZipApart z TI TO i1 i2 l1 l2) (hz : ZOut s.heap z TI TO T b) (hT : s.heap.get? T = some oT)
    (hTI : IsPair s.heap TI (.ref i1) (.ref i2)) (h1 : s.heap.IsListIter i1 l1 k) (h2 : s.heap.IsListIter i2 l2 k) (hl1 : s.heap.IsList l1 xs) (hl2 : s.heap.IsList l2 ys) (hx : xs[k]? = some x) (hy : ys[k]? = some y)
    (hQ : ∀ h', ZOut h' z TI TO T true → h'.IsListIter i1 l1 (k + 1) → h'.IsListIter i2 l2 (k + 1) → IsPair h' s.heap.objs.size x y → h'.objs.size = s.heap.objs.size + 1 → (∀ c o, c ≠ z → c ≠ i1 → c ≠ i2 → s.heap.get? c = some o → h'.get? c = some o) → Q (.ref s.heap.objs.size) { s with heap := h' }) :
    wpAny (model prog w) A (Builtin.«zip.__next__» ⟨[.ref z], []⟩) (fun fin s' => ∃ v, fin = .done (.ret v) ∧ Q v s') E s := by
  show wpAny _ _ (field (.ref z) 2 >>= fun _ => _) _ _ _
  refine wpAny_bind (wpAny_field hz rfl (x := .bool false) rfl (wpAny_bind (wpAny_field hz rfl (x := .ref TI) rfl (wpAny_bind (wpAny_seqItems hTI rfl (wpAny_bind (zip_held hz hT fun h₁ hz₁ sb₁ => ?_)))))))
  simp only [Bool.false_eq_true, if_false]
  have ext₁ : Heap.ExtBut z s.heap h₁ := sb₁.extBut
  rw [List.forIn_toArray, List.forIn_cons]
  refine wpAny_bind (wpAny_bind (wpAny_bind (wpAny_holding ?_)))
  show wpAny _ _ (Builtin.SmallTypes.nextOf (.ref i1) >>= fun _ => _) _ _ _
  refine wpAny_bind (wpAny_nextOf_list_item (h1.extBut ext₁ D.i1z) (hl1.extBut ext₁ D.l1z) hx fun h₂ g1 sb₂ => wpAny_pure (wpAny_pure ?_))
  dsimp only
  rw [List.forIn_cons]
  refine wpAny_bind (wpAny_bind (wpAny_holding ?_))
  show wpAny _ _ (Builtin.SmallTypes.nextOf (.ref i2) >>= fun _ => _) _ _ _
  have g2 := (h2.extBut ext₁ D.i2z).extBut sb₂.extBut D.i12.symm
  have gl := (hl2.extBut ext₁ D.l2z).extBut sb₂.extBut D.l2i1
  refine wpAny_bind (wpAny_nextOf_list_item g2 gl hy fun h₃ g3 sb₃ => wpAny_pure (wpAny_pure ?_))
  dsimp only
  rw [List.forIn_nil]
  refine wpAny_pure (wpAny_bind (wpAny_newTuple (hsz := by show 2 ≤ sizeLine; decide) (wpAny_pure ⟨_, rfl, ?_⟩)))
  have size : h₃.objs.size = s.heap.objs.size := by rw [sb₃.1, sb₂.1, sb₁.1]
  have up : ∀ c o, c ≠ z → c ≠ i1 → c ≠ i2 → s.heap.get? c = some o → h₃.get? c = some o := fun c o n1 n2 n3 e => sb₃.extBut _ _ n3 (sb₂.extBut _ _ n2 (ext₁ _ _ n1 e))
  have zz : ZOut h₃ z TI TO T true := sb₃.extBut _ _ D.i2z.symm (sb₂.extBut _ _ D.i1z.symm hz₁)
  have pr : IsPair (h₃.push { cls := .type "tuple", data := .seq #[x, y] }) s.heap.objs.size x y := by
    rw [← size]
    exact Heap.get?_push_size _ rfl
  show Q (.ref h₃.objs.size) _
  rw [size]
  exact hQ _ (Heap.get?_push_of_some _ zz) ((g1.extBut sb₃.extBut D.i12).at fun o e => Heap.get?_push_of_some _ e) (g3.at fun o e => Heap.get?_push_of_some _ e) pr (by rw [Heap.size_push, size]) fun c o n1 n2 n3 e => Heap.get?_push_of_some _ (up c o n1 n2 n3 e)
theorem zip_over {Q : Fin → Shared → Prop} (hh : A.handled = none) (D : ZipApart z TI TO i1 i2 l1 l2) (hz : ZOut s.heap z TI TO T b) (hT : s.heap.get? T = some oT)
    (hTI : IsPair s.heap TI (.ref i1) (.ref i2)) (h1 : s.heap.IsListIter i1 l1 k) (h2 : s.heap.IsListIter i2 l2 k) (hl1 : s.heap.IsList l1 xs) (hl2 : s.heap.IsList l2 ys) (hend : xs[k]? = none ∨ ys[k]? = none)
    (hE : ∀ h' e, (∀ c o, c ≠ z → c ≠ i1 → c ≠ i2 → s.heap.get? c = some o → h'.get? c = some o) → (∃ o, h'.get? e = some o ∧ o.cls = .type "StopIteration") → E (.ref e) { s with heap := h' }) :
    wpAny (model prog w) A (Builtin.«zip.__next__» ⟨[.ref z], []⟩) Q E s := by
  show wpAny _ _ (field (.ref z) 2 >>= fun _ => _) _ _ _
  refine wpAny_bind (wpAny_field hz rfl (x := .bool false) rfl (wpAny_bind (wpAny_field hz rfl (x := .ref TI) rfl (wpAny_bind (wpAny_seqItems hTI rfl (wpAny_bind (zip_held hz hT fun h₁ hz₁ sb₁ => ?_)))))))
  simp only [Bool.false_eq_true, if_false]
  have ext₁ : Heap.ExtBut z s.heap h₁ := sb₁.extBut
  rw [List.forIn_toArray, List.forIn_cons]
  refine wpAny_bind (wpAny_bind (wpAny_bind (wpAny_holding ?_)))
  show wpAny _ _ (Builtin.SmallTypes.nextOf (.ref i1) >>= fun _ => _) _ _ _
  cases hx : xs[k]? with
  | none => exact wpAny_bind (wpAny_nextOf_list_end hh (h1.extBut ext₁ D.i1z) (hl1.extBut ext₁ D.l1z) hx fun h₂ e sb₂ he => hE h₂ e (fun c o n1 n2 n3 x => sb₂ _ _ n2 (ext₁ _ _ n1 x)) he)
  | some x =>
    have hy : ys[k]? = none := hend.resolve_left (by rw [hx]; exact fun e => by cases e)
    refine wpAny_bind (wpAny_nextOf_list_item (h1.extBut ext₁ D.i1z) (hl1.extBut ext₁ D.l1z) hx fun h₂ g1 sb₂ => wpAny_pure (wpAny_pure ?_))
    dsimp only
    rw [List.forIn_cons]
    refine wpAny_bind (wpAny_bind (wpAny_holding ?_))
    show wpAny _ _ (Builtin.SmallTypes.nextOf (.ref i2) >>= fun _ => _) _ _ _
    have g2 := (h2.extBut ext₁ D.i2z).extBut sb₂.extBut D.i12.symm
    have gl := (hl2.extBut ext₁ D.l2z).extBut sb₂.extBut D.l2i1
    exact wpAny_bind (wpAny_nextOf_list_end hh g2 gl hy fun h₃ e sb₃ he => hE h₃ e (fun c o n1 n2 n3 x => sb₃ _ _ n3 (sb₂.extBut _ _ n2 (ext₁ _ _ n1 x))) he)
/-- a zip, with the tuples it has handed out, the first one kept by it -/
structure ZSt (h : Heap) (z TI TO i1 i2 l1 l2 : Addr) (xs ys : Array Value) (ts : List Addr) : Prop where
  zip : (ts = [] ∧ IsZip h z TI TO .none) ∨ ∃ T r b, ts = T :: r ∧ ZOut h z TI TO T b
  ti : IsPair h TI (.ref i1) (.ref i2)
  to : ∃ a b, IsPair h TO a b
  f1 : h.IsListIter i1 l1 ts.length
  f2 : h.IsListIter i2 l2 ts.length
  g1 : h.IsList l1 xs
  g2 : h.IsList l2 ys
  nod : ts.Nodup
  tup : ∀ (j : Nat) (T : Addr), ts[j]? = some T → (T ≠ z ∧ T ≠ TI ∧ T ≠ TO ∧ T ≠ i1 ∧ T ≠ i2 ∧ T ≠ l1 ∧ T ≠ l2) ∧ ∃ x y, xs[j]? = some x ∧ ys[j]? = some y ∧ IsPair h T x y
theorem ZSt.keep {h h' : Heap} {ts : List Addr} (Z : ZSt h z TI TO i1 i2 l1 l2 xs ys ts) {S : Addr} (nS : S ≠ z ∧ S ≠ TI ∧ S ≠ TO ∧ S ≠ i1 ∧ S ≠ i2 ∧ S ≠ l1 ∧ S ≠ l2) (nt : S ∉ ts) (k : ∀ c o, c ≠ S → h.get? c = some o → h'.get? c = some o) : ZSt h' z TI TO i1 i2 l1 l2 xs ys ts := by
  obtain ⟨n1, n2, n3, n4, n5, n6, n7⟩ := nS
  refine ⟨?_, k _ _ n2.symm Z.ti, ?_, Z.f1.at fun o e => k _ _ n4.symm e, Z.f2.at fun o e => k _ _ n5.symm e, Z.g1.at fun o e => k _ _ n6.symm e, Z.g2.at fun o e => k _ _ n7.symm e, Z.nod, fun j T e => ?_⟩
  · rcases Z.zip with ⟨e, q⟩ | ⟨T, r, b, e, q⟩
    · exact .inl ⟨e, k _ _ n1.symm q⟩
    · exact .inr ⟨T, r, b, e, k _ _ n1.symm q⟩
  · obtain ⟨a, b, q⟩ := Z.to
    exact ⟨a, b, k _ _ n3.symm q⟩
  · obtain ⟨a, x, y, e1, e2, q⟩ := Z.tup j T e
    exact ⟨a, x, y, e1, e2, k _ _ (fun c => nt (c ▸ List.mem_of_getElem? e)) q⟩
/-- the next one -/
theorem ZSt.next {ts : List Addr} {x y : Value} {Q : Option Value → Shared → Prop} (D : ZipApart z TI TO i1 i2 l1 l2) (Z : ZSt s.heap z TI TO i1 i2 l1 l2 xs ys ts) (hx : xs[ts.length]? = some x) (hy : ys[ts.length]? = some y)
    (hQ : ∀ h', ZSt h' z TI TO i1 i2 l1 l2 xs ys (ts ++ [s.heap.objs.size]) → h'.objs.size = s.heap.objs.size + 1 → (∀ c o, c ≠ z → c ≠ TO → c ≠ i1 → c ≠ i2 → s.heap.get? c = some o → h'.get? c = some o) → Q (some (.ref s.heap.objs.size)) { s with heap := h' }) :
    wpAny (model prog w) A (pyNext (.ref z)) Q E s := by
  obtain ⟨a, b, hTO⟩ := Z.to
  have lt : ∀ {c o}, s.heap.get? c = some o → s.heap.objs.size ≠ c := fun e => Nat.ne_of_gt (Heap.lt_size e)
  have zlt : s.heap.objs.size ≠ z := by
    rcases Z.zip with ⟨_, q⟩ | ⟨_, _, _, _, q⟩
    · exact lt q
    · exact lt q
  have apart : s.heap.objs.size ≠ z ∧ s.heap.objs.size ≠ TI ∧ s.heap.objs.size ≠ TO ∧ s.heap.objs.size ≠ i1 ∧ s.heap.objs.size ≠ i2 ∧ s.heap.objs.size ≠ l1 ∧ s.heap.objs.size ≠ l2 := by
    obtain ⟨_, e1, _⟩ := Z.f1
    obtain ⟨_, e2, _⟩ := Z.f2
    obtain ⟨_, e3, _⟩ := Z.g1
    obtain ⟨_, e4, _⟩ := Z.g2
    exact ⟨zlt, lt Z.ti, lt hTO, lt e1, lt e2, lt e3, lt e4⟩
  have fresh : (ts ++ [s.heap.objs.size]).Nodup := List.nodup_append.mpr ⟨Z.nod, by simp, fun a ma b mb e => by
    obtain ⟨j, hj, rfl⟩ := List.getElem_of_mem ma
    obtain ⟨_, _, _, _, _, q⟩ := Z.tup j _ (List.getElem?_eq_getElem hj)
    rw [List.mem_singleton.mp mb] at e
    exact lt q e.symm⟩
  have done : ∀ h', ((ts = [] ∧ ZOut h' z TI TO s.heap.objs.size false) ∨ ∃ T r, ts = T :: r ∧ ZOut h' z TI TO T true) → (∃ a b, IsPair h' TO a b) → h'.IsListIter i1 l1 (ts.length + 1) → h'.IsListIter i2 l2 (ts.length + 1) → IsPair h' s.heap.objs.size x y → h'.objs.size = s.heap.objs.size + 1 → (∀ c o, c ≠ z → c ≠ TO → c ≠ i1 → c ≠ i2 → s.heap.get? c = some o → h'.get? c = some o) → Q (some (.ref s.heap.objs.size)) { s with heap := h' } := fun h' hz to f1 f2 pr sz k => by
    refine hQ h' ⟨?_, k _ _ D.TIz D.TITO D.TIi1 D.TIi2 Z.ti, to, by rw [List.length_append]; exact f1, by rw [List.length_append]; exact f2, Z.g1.at fun o e => k _ _ D.l1z D.l1TO D.l1i1 D.l1i2 e, Z.g2.at fun o e => k _ _ D.l2z D.l2TO D.l2i1 D.l2i2 e, fresh, fun j T e => ?_⟩ sz k
    · rcases hz with ⟨e, q⟩ | ⟨T, r, e, q⟩
      · exact .inr ⟨_, [], _, by rw [e]; rfl, q⟩
      · exact .inr ⟨T, r ++ [s.heap.objs.size], _, by rw [e]; rfl, q⟩
    · by_cases c : j < ts.length
      · rw [List.getElem?_append_left c] at e
        obtain ⟨ap, x', y', e1, e2, q⟩ := Z.tup j T e
        exact ⟨ap, x', y', e1, e2, k _ _ ap.1 ap.2.2.1 ap.2.2.2.1 ap.2.2.2.2.1 q⟩
      · rw [List.getElem?_append_right (by omega)] at e
        have hj : j = ts.length := by
          have := (List.getElem?_eq_some_iff.mp e).1
          simp at this
          omega
        subst hj
        rw [Nat.sub_self] at e
        cases Option.some.inj e
        exact ⟨apart, x, y, hx, hy, pr⟩
  rcases Z.zip with ⟨rfl, hz⟩ | ⟨T, r, b, rfl, hz⟩
  · exact wpAny_pyNext_zip_item D hz Z.ti hTO Z.f1 Z.f2 Z.g1 Z.g2 hx hy fun h' q1 q2 q3 q4 q5 q6 q7 => done h' (.inl ⟨rfl, q1⟩) ⟨_, _, q2⟩ q3 q4 q5 q6 q7
  · have hT : s.TypeIs (.ref z) "zip" := ⟨_, hz, rfl⟩
    obtain ⟨_, _, _, _, _, al⟩ := Z.tup 0 T rfl
    unfold pyNext
    exact wpAny_bind (wpAny_attempt (wpAny_callSpecial?_slot (name := Str.ofString "__next__") hT F.slot_zip_next (wpAny_call_entry F.slot_zip_next hT F.entry_zip_next (zip_again D hz al Z.ti Z.f1 Z.f2 Z.g1 Z.g2 hx hy fun h' q1 q2 q3 q4 q5 q6 =>
      wpAny_pure (done h' (.inr ⟨T, r, rfl, q1⟩) ⟨_, _, q6 _ _ D.TOz D.TOi1 D.TOi2 hTO⟩ q2 q3 q4 q5 fun c o n1 _ n3 n4 e => q6 c o n1 n3 n4 e)) (F.args_zip_next_1 _))))
/-- none is left -/
theorem ZSt.last {ts : List Addr} {Q : Option Value → Shared → Prop} (hh : A.handled = none) (D : ZipApart z TI TO i1 i2 l1 l2) (Z : ZSt s.heap z TI TO i1 i2 l1 l2 xs ys ts) (hend : xs[ts.length]? = none ∨ ys[ts.length]? = none)
    (hQ : ∀ h', (∀ c o, c ≠ z → c ≠ TO → c ≠ i1 → c ≠ i2 → s.heap.get? c = some o → h'.get? c = some o) → Q none { s with heap := h' }) : wpAny (model prog w) A (pyNext (.ref z)) Q E s := by
  obtain ⟨a, b, hTO⟩ := Z.to
  rcases Z.zip with ⟨rfl, hz⟩ | ⟨T, r, b, rfl, hz⟩
  · exact wpAny_pyNext_zip_end hh D hz Z.ti hTO Z.f1 Z.f2 Z.g1 Z.g2 hend hQ
  · have hT : s.TypeIs (.ref z) "zip" := ⟨_, hz, rfl⟩
    obtain ⟨_, _, _, _, _, al⟩ := Z.tup 0 T rfl
    unfold pyNext
    refine wpAny_bind (wpAny_attempt (wpAny_callSpecial?_slot (name := Str.ofString "__next__") hT F.slot_zip_next (wpAny_call_entry F.slot_zip_next hT F.entry_zip_next (zip_over hh D hz al Z.ti Z.f1 Z.f2 Z.g1 Z.g2 hend fun h' e k he => ?_) (F.args_zip_next_1 _))))
    obtain ⟨o, ho, hc⟩ := he
    exact wpAny_bind (wpAny_isInstance (T := "StopIteration") (b := true) ⟨o, ho, hc⟩ isSubtype_stop (wpAny_pure (hQ _ fun c o n1 _ n3 n4 e => k c o n1 n3 n4 e)))
end
end Nc

/-! Own rules: list(zip(xs, ys)): the collecting, the call. -/
namespace Nc
open PySem PySem.Spec PyProof.Rows L2
abbrev LstAt (h : Heap) (S : Addr) (acc : Array Value) (c : Nat) : Prop := h.get? S = some { cls := .type "list", dict := none, data := .seq acc c, slots := #[] }
section
variable {prog : Program} {w : World} {A : Around} {E : Value → Shared → Prop} {s : Shared} {z TI TO i1 i2 l1 l2 S : Addr} {xs ys : Array Value}
/-- the new tuples -/
def ZTup (h : Heap) (xs ys : Array Value) (ts : List Addr) : Prop := ts.length = min xs.size ys.size ∧ ts.Nodup ∧ ∀ (j : Nat) (T : Addr), ts[j]? = some T → ∃ x y, xs[j]? = some x ∧ ys[j]? = some y ∧ IsPair h T x y
theorem zip_fill {R : Result → Shared → Prop} (hh : A.handled = none) (D : ZipApart z TI TO i1 i2 l1 l2) (nS : S ≠ z ∧ S ≠ TI ∧ S ≠ TO ∧ S ≠ i1 ∧ S ≠ i2 ∧ S ≠ l1 ∧ S ≠ l2) (small : min xs.size ys.size ≤ sizeLine) (res : Value) (base : Nat) :
    ∀ (n : Nat) (ts : List Addr) (s : Shared) (c : Nat), min xs.size ys.size - ts.length = n → ts.length ≤ min xs.size ys.size → ZSt s.heap z TI TO i1 i2 l1 l2 xs ys ts → LstAt s.heap S (ts.map Value.ref).toArray c → base ≤ s.heap.objs.size → (∀ T ∈ ts, base ≤ T ∧ T ≠ S) →
    (∀ h' ts' c', ZTup h' xs ys ts' → LstAt h' S (ts'.map Value.ref).toArray c' → (∀ T ∈ ts', base ≤ T ∧ T ≠ S) → (∀ c o, c ≠ z → c ≠ TO → c ≠ i1 → c ≠ i2 → c ≠ S → s.heap.get? c = some o → h'.get? c = some o) → R (.ok (.ret res)) { s with heap := h' }) →
    codeAny (model prog w) A (.builtin "list.extend.loop" ⟨[.ref S, .ref z, res], []⟩) R s := by
  obtain ⟨n1, n2, n3, n4, n5, n6, n7⟩ := nS
  intro n
  induction n with
  | zero =>
    intro ts s c hn le Z eS hb hT fin
    have full : ts.length = min xs.size ys.size := by omega
    refine codeAny_builtin F.entry_extend_loop ?_
    rw [Around.under_plainId F.plain_extend_loop _]
    have ends : xs[ts.length]? = none ∨ ys[ts.length]? = none := by
      rcases Nat.le_total xs.size ys.size with h | h
      · exact .inl (Array.getElem?_eq_none (by omega))
      · exact .inr (Array.getElem?_eq_none (by omega))
    show wpAny _ A.in1 (pyNext (.ref z) >>= fun _ => _) _ _ s
    refine wpAny_bind (Z.last hh D ends fun h' k => wpAny_pure (fin h' ts c ⟨full, Z.nod, fun j T e => ?_⟩ (k _ _ n1 n3 n4 n5 eS) hT fun c o m1 m2 m3 m4 _ e => k c o m1 m2 m3 m4 e))
    obtain ⟨ap, x, y, e1, e2, q⟩ := Z.tup j T e
    exact ⟨x, y, e1, e2, k _ _ ap.1 ap.2.2.1 ap.2.2.2.1 ap.2.2.2.2.1 q⟩
  | succ n ih =>
    intro ts s c hn le Z eS hb hT fin
    have lx : ts.length < xs.size := by omega
    have ly : ts.length < ys.size := by omega
    refine codeAny_builtin F.entry_extend_loop ?_
    rw [Around.under_plainId F.plain_extend_loop _]
    show wpAny _ A.in1 (pyNext (.ref z) >>= fun _ => _) _ _ s
    refine wpAny_bind (Z.next D (Array.getElem?_eq_getElem lx) (Array.getElem?_eq_getElem ly) fun h' Z' sz k => ?_)
    have eS' : LstAt h' S (ts.map Value.ref).toArray c := k _ _ n1 n3 n4 n5 eS
    have Sold : S < s.heap.objs.size := Heap.lt_size eS
    show wpAny _ A.in1 (updateSeq S (·.push (.ref s.heap.objs.size)) >>= fun _ => _) _ _ _
    refine wpAny_bind (wpAny_updateSeq eS' rfl (wpAny_pure ⟨plainId_quiet F.plain_extend_loop _, ?_⟩) (by simp; omega) (by simp; omega))
    have nt : S ∉ ts ++ [s.heap.objs.size] := fun m => by
      rcases List.mem_append.mp m with m | m
      · exact (hT S m).2 rfl
      · exact Nat.ne_of_lt Sold (List.mem_singleton.mp m)
    have other : ∀ c o, c ≠ S → h'.get? c = some o → (h'.update S (Obj.mapSeq (·.push (.ref s.heap.objs.size)))).get? c = some o := fun c o nc e => (Heap.get?_update_other _ _ (Ne.symm nc)).trans e
    have now := Heap.get?_update_self (Obj.mapSeq (·.push (Value.ref s.heap.objs.size))) eS' rfl
    have seq : (((ts ++ [s.heap.objs.size]).map Value.ref).toArray) = (ts.map Value.ref).toArray.push (.ref s.heap.objs.size) := by simp
    refine ih (ts ++ [s.heap.objs.size]) _ _ (by rw [List.length_append, List.length_singleton]; omega) (by rw [List.length_append, List.length_singleton]; omega) (Z'.keep ⟨n1, n2, n3, n4, n5, n6, n7⟩ nt other) (by rw [seq]; exact now) ?_ (fun T m => ?_) fun h'' ts' c' q1 q2 q3 q4 => ?_
    · show base ≤ (h'.update S _).objs.size
      rw [Heap.size_update]
      omega
    · rcases List.mem_append.mp m with m | m
      · exact hT T m
      · rw [List.mem_singleton.mp m]
        exact ⟨hb, Nat.ne_of_gt Sold⟩
    · exact fin h'' ts' c' q1 q2 q3 fun c o m1 m2 m3 m4 m5 e => q4 c o m1 m2 m3 m4 m5 (other c o m5 (k c o m1 m2 m3 m4 e))
theorem zip_no_len : typeLookup (.type "zip") "__len__" = pure none := by rw [typeLookup_type, builtinLookup_eq_fast]; kernel_rfl
theorem zip_no_hint : typeLookup (.type "zip") "__length_hint__" = pure none := by rw [typeLookup_type, builtinLookup_eq_fast]; kernel_rfl
theorem zip_room {s : Shared} {Q : Bool → Shared → Prop} (hT : s.TypeIs (.ref z) "zip") (h : Q true s) : wpAny (model prog w) A (Builtin.List.listLengthHint (.ref z)) Q E s := by
  unfold Builtin.List.listLengthHint
  refine wpAny_bind (wpAny_specialOf hT zip_no_len ?_)
  show wpAny _ _ (specialOf (Value.ref z) (Str.ofString "__length_hint__") >>= fun _ => _) _ _ _
  exact wpAny_bind (wpAny_specialOf hT zip_no_hint (wpAny_pure h))
/-- list(z), z a zip that has handed out nothing -/
theorem call_list_zip {Q : Value → Shared → Prop} (hh : A.handled = none) (D : ZipApart z TI TO i1 i2 l1 l2) (small : min xs.size ys.size ≤ sizeLine) (Z : ZSt s.heap z TI TO i1 i2 l1 l2 xs ys [])
    (hQ : ∀ h' ts c, ZTup h' xs ys ts → LstAt h' s.heap.objs.size (ts.map Value.ref).toArray c → (∀ T ∈ ts, s.heap.objs.size ≤ T ∧ T ≠ s.heap.objs.size) → (∀ c o, c ≠ z → c ≠ TO → c ≠ i1 → c ≠ i2 → s.heap.get? c = some o → h'.get? c = some o) → Q (.ref s.heap.objs.size) { s with heap := h' }) :
    wpAny (model prog w) A (call (.type "list") [.ref z]) Q E s := by
  refine callType_codes (Q₁ := fun obj s₁ => obj = .ref s.heap.objs.size ∧ s₁ = { s with heap := s.heap.push { cls := .type "list", data := .seq #[] } }) PySem.F.called_list (PySem.F.typeCall_list_1 _) PySem.F.entry_list_init (code_list_new _ ⟨rfl, rfl⟩) ?_
  rintro _ _ ⟨rfl, rfl⟩
  have eS : (s.heap.push { cls := .type "list", data := .seq #[] }).get? s.heap.objs.size = some { cls := .type "list", data := .seq #[] } := Heap.get?_push_size _ rfl
  have lt : ∀ {c o}, s.heap.get? c = some o → s.heap.objs.size ≠ c := fun e => Nat.ne_of_gt (Heap.lt_size e)
  obtain ⟨a0, b0, hTO⟩ := Z.to
  have hz : IsZip s.heap z TI TO .none := by
    rcases Z.zip with ⟨_, q⟩ | ⟨_, _, _, e, _⟩
    · exact q
    · cases e
  have apart : s.heap.objs.size ≠ z ∧ s.heap.objs.size ≠ TI ∧ s.heap.objs.size ≠ TO ∧ s.heap.objs.size ≠ i1 ∧ s.heap.objs.size ≠ i2 ∧ s.heap.objs.size ≠ l1 ∧ s.heap.objs.size ≠ l2 := by
    obtain ⟨_, e1, _⟩ := Z.f1
    obtain ⟨_, e2, _⟩ := Z.f2
    obtain ⟨_, e3, _⟩ := Z.g1
    obtain ⟨_, e4, _⟩ := Z.g2
    exact ⟨lt hz, lt Z.ti, lt hTO, lt e1, lt e2, lt e3, lt e4⟩
  refine ⟨⟨_, eS, rfl⟩, PySem.F.args_list_init_2 _ _, ?_⟩
  show wpAny _ _ (do let old ← Builtin.List.listItems (.ref s.heap.objs.size); Builtin.List.listUpdate (.ref s.heap.objs.size) (fun _ => #[]); letGo old.toList.reverse; Builtin.List.listExtendWith (.ref s.heap.objs.size) (.ref z) .none) _ _ _
  refine wpAny_bind ?_
  unfold Builtin.List.listItems
  refine wpAny_bind (wpAny_seqItems eS rfl (wpAny_pure ?_))
  show wpAny _ _ (updateSeq s.heap.objs.size (fun _ => #[]) >>= fun _ => letGo (#[] : Array Value).toList.reverse >>= fun _ => Builtin.List.listExtendWith (.ref s.heap.objs.size) (.ref z) .none) _ _ _
  refine wpAny_bind (wpAny_updateSeq eS rfl (wpAny_bind (wpAny_letGo ?_)))
  have e2 := Heap.get?_update_self (Obj.mapSeq (fun _ => (#[] : Array Value))) eS rfl
  have k2 : ∀ c o, c ≠ s.heap.objs.size → s.heap.get? c = some o → ((s.heap.push { cls := .type "list", data := .seq #[] }).update s.heap.objs.size (Obj.mapSeq (fun _ => (#[] : Array Value)))).get? c = some o := fun c o nc e => (Heap.get?_update_other _ _ (Ne.symm nc)).trans (Heap.get?_push_of_some _ e)
  have sz2 : ((s.heap.push { cls := .type "list", data := .seq #[] }).update s.heap.objs.size (Obj.mapSeq (fun _ => (#[] : Array Value)))).objs.size = s.heap.objs.size + 1 := by rw [Heap.size_update, Heap.size_push]
  generalize hh2 : (s.heap.push { cls := .type "list", data := .seq #[] }).update s.heap.objs.size (Obj.mapSeq (fun _ => (#[] : Array Value))) = h2 at e2 k2 sz2
  have Z2 := Z.keep apart List.not_mem_nil k2
  have hz2 := k2 _ _ apart.1.symm hz
  have T2 : Shared.TypeIs { s with heap := h2 } (.ref z) "zip" := ⟨_, hz2, rfl⟩
  unfold Builtin.List.listExtendWith
  refine wpAny_bind (wpAny_typeOf T2 ?_)
  have c1 : Builtin.List.listSameRef (.ref s.heap.objs.size) (.ref z) = false := by simp [Builtin.List.listSameRef, apart.1]
  simp only [c1, show (Value.type "zip" == Value.type "list") = false by decide, show (Value.type "zip" == Value.type "tuple") = false by decide, Bool.or_false, Bool.false_eq_true, if_false]
  refine wpAny_bind (wpAny_pyIter_zip hz2 (wpAny_bind (wpAny_holding (zip_room T2 ?_))))
  simp only [Bool.true_or, if_true]
  refine wpAny_bind (wpAny_rule (wpAny_bind ?_))
  show wpAny _ _ (updateSeq s.heap.objs.size (·.push .none) >>= fun _ => updateSeq s.heap.objs.size (·.pop)) _ _ _
  refine wpAny_bind (wpAny_updateSeq e2 rfl ?_)
  have e3 := Heap.get?_update_self (Obj.mapSeq (·.push Value.none)) e2 rfl
  refine wpAny_updateSeq (hz := by seq_fits) e3 rfl (wpAny_pure ⟨plainId_quiet PySem.F.plain_extend_loop _, ?_⟩)
  have e4 := Heap.get?_update_self (Obj.mapSeq (·.pop)) e3 rfl
  have k4 : ∀ c o, c ≠ s.heap.objs.size → h2.get? c = some o → ((h2.update s.heap.objs.size (Obj.mapSeq (·.push Value.none))).update s.heap.objs.size (Obj.mapSeq (·.pop))).get? c = some o := fun c o nc e => (Heap.get?_update_other _ _ (Ne.symm nc)).trans ((Heap.get?_update_other _ _ (Ne.symm nc)).trans e)
  refine zip_fill (A := A.in1) hh D apart small .none (s.heap.objs.size + 1) _ [] _ _ rfl (Nat.zero_le _) (Z2.keep apart List.not_mem_nil k4) e4 ?_ (fun T m => absurd m List.not_mem_nil) fun h' ts c q1 q2 q3 q4 => ⟨rfl, hQ h' ts c q1 q2 (fun T m => ⟨Nat.le_of_succ_le (q3 T m).1, (q3 T m).2⟩) fun c o m1 m2 m3 m4 e => ?_⟩
  · show s.heap.objs.size + 1 ≤ ((h2.update _ _).update _ _).objs.size
    rw [Heap.size_update, Heap.size_update, sz2]
    exact Nat.le_refl _
  · have nc : c ≠ s.heap.objs.size := Ne.symm (lt e)
    exact q4 c o m1 m2 m3 m4 nc (k4 c o nc (k2 c o nc e))
end
end Nc

/-! Own rules: list(zip(xs, ys)) in an expression. -/
namespace Nc
open PySem PySem.Spec PyProof.Rows L2
/-- many new objects at once -/
theorem lay_many {X : Cx} {pins : List (Addr × Obj)} {σ : L2.St} {H H' : Hp} {s : Shared} {h' : Heap} {t' : Nat} (I : L2.Inv X pins σ H s) (k : ∀ b u, s.heap.get? b = some u → h'.get? b = some u) (old : ∀ b, b < s.heap.objs.size → H' b = H b)
    (new : ∀ b o, s.heap.objs.size ≤ b → H' b = some o → ObjOk X.prog X.w H' h' b o) : L2.Inv X pins σ H' { s with heap := h', toks := t' } := by
  have same : ∀ b o, H b = some o → H' b = some o := fun b o e => by rw [old b (I.hok.lt e)]; exact e
  refine I.un ⟨fun b o e _ _ _ => k b o e, fun b o e _ _ _ => ⟨o.slots, k b o e⟩, fun b o e n _ => by rw [old b (Heap.lt_size e)]; exact n, fun b o e _ => ⟨o, k b o e⟩, fun b xs e => same b _ e, fun b o u e => same b _ e, fun b ps e => ⟨#[], by rw [same b _ e]; simp⟩⟩ fun b o e => ?_
  rcases Nat.lt_or_ge b s.heap.objs.size with lt | ge
  · rw [old b lt] at e
    exact (I.hok b o e).stay (fun c u _ q => k c u q) (fun c q => same c _ q) fun c xs q => same c _ q
  · exact new b o ge e
/-- the new list at D and the new tuples at ts -/
def zipH (H : Hp) (D : Addr) (ts : List Addr) (ps : List (V × V)) : Hp := fun b => if b = D then some (.lst (ts.map V.ref)) else match (ts.zip ps).lookup b with
  | some p => some (.tup [p.1, p.2])
  | none => H b
theorem zip_look : ∀ {ts : List Addr} {ps : List (V × V)} {j : Nat} {T : Addr} {p : V × V}, ts.Nodup → ts[j]? = some T → ps[j]? = some p → (ts.zip ps).lookup T = some p
  | [], _, _, _, _, _, h, _ => by cases h
  | _ :: _, [], _, _, _, _, _, h => by cases h
  | t :: ts, q :: ps, 0, T, p, _, h, k => by
    cases h
    cases k
    rw [List.zip_cons_cons, List.lookup_cons, beq_self_eq_true]
  | t :: ts, q :: ps, j + 1, T, p, n, h, k => by
    obtain ⟨n1, n2⟩ := List.nodup_cons.mp n
    have m : T ∈ ts := List.mem_of_getElem? h
    have ne : (T == t) = false := beq_eq_false_iff_ne.mpr fun e => n1 (e ▸ m)
    rw [List.zip_cons_cons, List.lookup_cons, ne]
    exact zip_look n2 h k
theorem zip_miss : ∀ {ts : List Addr} {ps : List (V × V)} {b : Addr}, b ∉ ts → (ts.zip ps).lookup b = none
  | [], _, _, _ => rfl
  | _ :: _, [], _, _ => rfl
  | t :: ts, q :: ps, b, n => by
    have ne : (b == t) = false := beq_eq_false_iff_ne.mpr fun e => n (e ▸ List.mem_cons_self)
    rw [List.zip_cons_cons, List.lookup_cons, ne]
    exact zip_miss fun m => n (List.mem_cons_of_mem _ m)
/-- list(zip(xs, ys)) -/
def tLZip (K : PySem.W.Frag) (ta : TA) : TE := fun σ H Q => ta σ H fun vs H1 => ∃ (a b : Addr) (xs ys : List V), vs = [.ref a, .ref b] ∧ SqL K H1 a xs ∧ SqL K H1 b ys ∧
  ∀ (D : Addr) (ts : List Addr) (H2 : Hp), Same H1 H2 → H1 D = none → H2 D = some (.lst (ts.map V.ref)) → ts.length = min xs.length ys.length → ts.Nodup → (∀ (j : Nat) (T : Addr), ts[j]? = some T → H1 T = none ∧ T ≠ D ∧ ∃ x y, xs[j]? = some x ∧ ys[j]? = some y ∧ H2 T = some (.tup [x, y])) → Q (.ref D) H2
theorem pe_lzip {X : Cx} {e e2 : Expr} {ta : TA} {p p2 q pos : Pos} (hc : X.calm = true) (hg : Gl X "list") (hm : X.mg "list" = none) (hg2 : Gl X "zip") (hm2 : X.mg "zip" = none) (ha : PA X [e, e2] ta)
    (hs : starEach [e, e2] X.env = (false, eval e X.env) :: starEach [e2] X.env := by rfl) (hpl : (backTo q (starEach [e2] X.env)).any (·.1) = false := by rfl)
    (na : starEach [Expr.Call (.Name "zip" p2) [e, e2] [] q] X.env = (false, eval (Expr.Call (.Name "zip" p2) [e, e2] [] q) X.env) :: starEach [] X.env := by rfl) :
    PE X (.Call (.Name "list" p) [.Call (.Name "zip" p2) [e, e2] [] q] [] pos) (tLZip X.K ta) := by
  refine ⟨fun pins s σ H Q I h => ?_⟩
  refine Call_ (ld_blt I hg hm PyProof.Rows.boot_list ?_)
  refine PyProof.Rows.callWith_type1 (PyProof.Rows.args_cons ?_ na) na rfl
  refine Call_ (ld_blt I hg2 hm2 PyProof.Rows.boot_zip (PyProof.Rows.callWith_type1 (thn (ha.run q pins s σ H _ I h) fun us s1 ⟨vs, H1, I1, r1, q1⟩ => ?_) hs hpl))
  obtain ⟨a, b, xs, ys, rfl, hqx, hqy, q1⟩ := q1
  cases r1 with
  | cons ra rr =>
  cases rr with
  | cons rb rr =>
  cases rr
  cases ra
  cases rb
  obtain ⟨its, rv, pl, hz⟩ := I1.list hqx
  obtain ⟨its2, rv2, pl2, hz2⟩ := I1.list hqy
  have len1 := rv.length
  have len2 := rv2.length
  refine call_zip_2 pl.isList pl2.isList fun h' hzip hTI hTO f1 f2 hsz hk => PyProof.Rows.args_nil ?_
  have Z : ZSt h' (s1.heap.objs.size + 4) (s1.heap.objs.size + 2) (s1.heap.objs.size + 3) s1.heap.objs.size (s1.heap.objs.size + 1) a b its.toArray its2.toArray [] :=
    ⟨.inl ⟨rfl, hzip⟩, hTI, ⟨_, _, hTO⟩, f1, f2, pl.isList.at fun o e => hk _ _ e, pl2.isList.at fun o e => hk _ _ e, .nil, fun j T e => by cases e⟩
  have small : min its.toArray.size its2.toArray.size ≤ sizeLine := by
    rw [List.size_toArray]
    omega
  refine call_list_zip (s := { s1 with heap := h' }) (I1.ok.hd hc) (PySem.W.ktu_apart s1.heap.objs.size a b pl.lt pl2.lt) small Z fun h'' ts c zt eD far keep => ?_
  obtain ⟨tl, nod, tup⟩ := zt
  have sz : s1.heap.objs.size ≤ h'.objs.size := by rw [hsz]; omega
  have sz' : ({ s1 with heap := h' } : Shared).heap.objs.size = h'.objs.size := rfl
  have keep2 : ∀ c o, s1.heap.get? c = some o → h''.get? c = some o := fun c o e => by
    have lt := Heap.lt_size e
    exact keep c o (Nat.ne_of_lt (Nat.lt_add_right _ lt)) (Nat.ne_of_lt (Nat.lt_add_right _ lt)) (Nat.ne_of_lt lt) (Nat.ne_of_lt (Nat.lt_add_right _ lt)) (hk c o e)
  have dnt : h'.objs.size ∉ ts := fun m => (far _ m).2 rfl
  have tl2 : ts.length = min xs.length ys.length := by
    rw [tl, List.size_toArray, List.size_toArray, len1, len2]
  have pick : ∀ (j : Nat) (T : Addr), ts[j]? = some T → ∃ x y u v, xs[j]? = some x ∧ ys[j]? = some y ∧ its[j]? = some u ∧ its2[j]? = some v ∧ RelV x u ∧ RelV y v ∧ IsPair h'' T u v := fun j T e => by
    obtain ⟨u, v, e1, e2, pr⟩ := tup j T e
    have lj := (List.getElem?_eq_some_iff.mp e).1
    have lx : j < xs.length := by omega
    have ly : j < ys.length := by omega
    obtain ⟨u', hu, ru⟩ := rv.get (List.getElem?_eq_getElem lx)
    obtain ⟨v', hv, rw'⟩ := rv2.get (List.getElem?_eq_getElem ly)
    rw [List.getElem?_toArray, hu] at e1
    rw [List.getElem?_toArray, hv] at e2
    cases e1
    cases e2
    exact ⟨_, _, _, _, List.getElem?_eq_getElem lx, List.getElem?_eq_getElem ly, hu, hv, ru, rw', pr⟩
  have at_ : ∀ (j : Nat) (T : Addr) x y, ts[j]? = some T → xs[j]? = some x → ys[j]? = some y → zipH H1 h'.objs.size ts (xs.zip ys) T = some (.tup [x, y]) := fun j T x y e e1 e2 => by
    have nT : T ≠ h'.objs.size := fun z => dnt (z ▸ List.mem_of_getElem? e)
    unfold zipH
    rw [if_neg nT, zip_look nod e (p := (x, y)) (by rw [List.getElem?_zip_eq_some]; exact ⟨e1, e2⟩)]
  have own : zipH H1 h'.objs.size ts (xs.zip ys) h'.objs.size = some (.lst (ts.map V.ref)) := if_pos rfl
  have out : ∀ c, c ≠ h'.objs.size → c ∉ ts → zipH H1 h'.objs.size ts (xs.zip ys) c = H1 c := fun c n1 n2 => by
    unfold zipH
    rw [if_neg n1, zip_miss n2]
  have old : ∀ c, c < s1.heap.objs.size → zipH H1 h'.objs.size ts (xs.zip ys) c = H1 c := fun c lt => out c (by omega) fun m => by
    have := (far c m).1
    omega
  have I2 : L2.Inv X pins σ (zipH H1 h'.objs.size ts (xs.zip ys)) { s1 with heap := h'' } := lay_many (t' := s1.toks) I1 keep2 old fun c o ge e => by
    by_cases n1 : c = h'.objs.size
    · subst n1
      rw [own] at e
      cases e
      refine ⟨by rw [List.length_map]; omega, ts.map Value.ref, _, ?_, eD⟩
      exact vals_refs ts
    · by_cases n2 : c ∈ ts
      · obtain ⟨j, hj, rfl⟩ := List.getElem_of_mem n2
        have ej : ts[j]? = some ts[j] := List.getElem?_eq_getElem hj
        obtain ⟨x, y, u, v, e1, e2, _, _, ru, rw', pr⟩ := pick j _ ej
        rw [at_ j _ x y ej e1 e2] at e
        cases e
        exact ⟨by show 2 ≤ sizeLine; decide, [u, v], .cons ru (.cons rw' .nil), ⟨_, pr, rfl, _, rfl⟩⟩
      · rw [out c n1 n2, I1.hok.fresh ge] at e
        cases e
  refine ⟨.ref h'.objs.size, _, I2, rfl, q1 _ ts _ (fun c o e => ?_) (I1.hok.fresh sz) own tl2 nod fun j T e => ?_⟩
  · rw [old c (I1.hok.lt e)]
    exact e
  · obtain ⟨x, y, u, v, e1, e2, _⟩ := pick j T e
    have m := List.mem_of_getElem? e
    exact ⟨I1.hok.fresh (Nat.le_trans sz (far T m).1), (far T m).2, x, y, e1, e2, at_ j T x y e e1 e2⟩
end Nc
namespace NcK
open PySem PySem.Spec PyProof.Rows L2 Nc
def topS (i : Nat) : Stmt := PySem.Challenge.pw_nearcells_k07_whole_layers_and_sides_tha.main.body.getD i (.Pass ⟨0, 0, 0, 0⟩)
/-! words of this text: bits, what stands in the heap, one step of a reading -/
local macro_rules | `(tactic| array_mem_dec) => `(tactic| first
  | (refine nbu (by assumption) (by decide); done)
  | (refine nbu (j := 21) (by omega) (by decide); done)
  | (refine nbm ?_ ?_ <;> array_mem_dec)
  | (refine nba (by decide) ?_ ?_ <;> array_mem_dec)
  | (refine nbs (by decide) ?_ ?_ <;> array_mem_dec)
  | (refine nbn ?_; array_mem_dec)
  | (refine nbu (j := 64) (by decide) (by decide); done))
local macro_rules | `(tactic| sizeOf_list_dec) => `(tactic| first
  | assumption
  | exact upd_same
  | (refine (by assumption : Same _ _) _ _ ?_; sizeOf_list_dec))
local macro_rules | `(tactic| array_get_dec) => `(tactic| first
  | refine ⟨_, rfl, ?_⟩
  | refine ⟨_, _, rfl, rfl, ?_⟩
  | refine ⟨_, _, _, _, rfl, rfl, SqT.of (by sizeOf_list_dec), by rfl, ?_⟩
  | refine ⟨_, _, _, _, rfl, rfl, SqL.of (by sizeOf_list_dec), by rfl, ?_⟩
  | refine ⟨_, _, rfl, SqT.of (by sizeOf_list_dec), by rfl, ?_⟩
  | refine ⟨_, _, _, _, _, rfl, .ty _, .base (.int _), kit_ty (r := true) (by decide +kernel), ?_⟩
  | refine ⟨_, _, _, _, _, rfl, .ty _, .base (.tup (by sizeOf_list_dec)), kit_ty (r := true) (by decide +kernel), ?_⟩
  | refine ⟨_, _, _, _, _, rfl, .ty _, .base (.lst (by sizeOf_list_dec)), kit_ty (r := true) (by decide +kernel), ?_⟩
  | refine ⟨_, _, _, _, _, rfl, .ty _, .base (.int _), kit_ty (r := false) (by decide +kernel), ?_⟩
  | refine ⟨_, _, rfl, .inr (SqT.of (by sizeOf_list_dec)), ?_⟩
  | refine ⟨_, _, rfl, .inl (SqL.of (by sizeOf_list_dec)), ?_⟩
  | refine w_itf (by omega) ?_
  | refine w_itt (by omega) ?_
  | refine w_ntt (by omega) ?_
  | refine w_ntf (by omega) ?_
  | refine w_itt (congrArg V.int (by omega)) ?_
  | refine w_itf (fun e => absurd (V.int.inj e) (by omega)) ?_
  | refine w_ntt (congrArg V.int (by omega)) ?_
  | refine w_ntf (fun e => absurd (V.int.inj e) (by omega)) ?_
  | refine ⟨_, _, rfl, ?_⟩
  | refine ⟨(by refine cmw ?_ ?_ <;> array_mem_dec : CMulW _ _), ?_⟩
  | refine ⟨⟨by decide, by decide, by decide⟩, ?_⟩
  | refine ⟨Nat.le_trans (m := 64) (by simp) (by decide), ?_⟩
  | refine ⟨rfl, ?_⟩
  | refine ⟨_, _, _, rfl, ?_⟩
  | refine Or.inl ⟨_, rfl, ?_⟩
  | refine Or.inr ⟨_, rfl, ?_⟩)
/-! ### hulls: chains of sorted sites -/
abbrev Pt := Int × Int
def crs (u v : Pt) : Int := u.1 * v.2 - u.2 * v.1
def vec (a b : Pt) : Pt := (b.1 - a.1, b.2 - a.2)
/-- the double area, above 0 for a turn to the left -/
def tn (a b c : Pt) : Int := (b.1 - a.1) * (c.2 - a.2) - (b.2 - a.2) * (c.1 - a.1)
/-- to the right, or straight up -/
def fwd (u : Pt) : Prop := 0 < u.1 ∨ (u.1 = 0 ∧ 0 < u.2)
def lt2 (a b : Pt) : Prop := a.1 < b.1 ∨ (a.1 = b.1 ∧ a.2 < b.2)
theorem fwd_vec {a b : Pt} : fwd (vec a b) ↔ lt2 a b := by
  unfold fwd vec lt2
  simp only
  omega
theorem lt2_tr {a b c : Pt} (h : lt2 a b) (k : lt2 b c) : lt2 a c := by
  unfold lt2 at *
  omega
theorem lt2_irr {a : Pt} : ¬ lt2 a a := by
  unfold lt2
  omega
theorem lt2_tri {a b : Pt} (h : a ≠ b) : lt2 a b ∨ lt2 b a := by
  unfold lt2
  have : a.1 ≠ b.1 ∨ a.2 ≠ b.2 := by
    by_cases c : a.1 = b.1
    · exact .inr fun d => h (Prod.ext c d)
    · exact .inl c
  omega
theorem ltge (a b : Int) : a < b ∨ b ≤ a := by omega
theorem mul_nn {a b : Int} (h : 0 ≤ a) (k : 0 ≤ b) : 0 ≤ a * b := Int.mul_nonneg h k
theorem of_mul_nn {a b : Int} (h : 0 ≤ a * b) (k : 0 < b) : 0 ≤ a := by
  rcases ltge a 0 with z | z
  · have := Int.mul_neg_of_neg_of_pos z k
    omega
  · exact z
theorem of_mul_pos {a b : Int} (h : 0 < a * b) (k : 0 < b) : 0 < a := by
  rcases ltge 0 a with z | z
  · exact z
  · have := Int.mul_nonpos_of_nonpos_of_nonneg z (Int.le_of_lt k)
    omega
/-- what goes forward is ordered by its slope -/
theorem crs_tr {u v w : Pt} (fu : fwd u) (fv : fwd v) (fw : fwd w) (h : 0 ≤ crs u v) (k : 0 ≤ crs v w) : 0 ≤ crs u w := by
  obtain ⟨u1, u2⟩ := u
  obtain ⟨v1, v2⟩ := v
  obtain ⟨w1, w2⟩ := w
  unfold crs fwd at *
  simp only at *
  rcases fv with v0 | ⟨v0, v3⟩
  · have e : (u1 * w2 - u2 * w1) * v1 = (u1 * v2 - u2 * v1) * w1 + (v1 * w2 - v2 * w1) * u1 := by grind
    have p1 := mul_nn h (show 0 ≤ w1 by omega)
    have p2 := mul_nn k (show 0 ≤ u1 by omega)
    exact of_mul_nn (by omega) v0
  · subst v0
    have w0 : w1 = 0 := by
      have : 0 ≤ -(v2 * w1) := by omega
      rcases ltge 0 w1 with z | z
      · have := Int.mul_pos v3 z
        omega
      · omega
    subst w0
    have := mul_nn (show 0 ≤ u1 by omega) (show 0 ≤ w2 by omega)
    omega
theorem crs_tr_lt {u v w : Pt} (fu : fwd u) (fv : fwd v) (fw : fwd w) (h : 0 < crs u v) (k : 0 ≤ crs v w) : 0 < crs u w := by
  obtain ⟨u1, u2⟩ := u
  obtain ⟨v1, v2⟩ := v
  obtain ⟨w1, w2⟩ := w
  unfold crs fwd at *
  simp only at *
  have u0 : 0 < u1 := by
    rcases fu with z | ⟨z, y⟩
    · exact z
    · subst z
      have := mul_nn (show 0 ≤ u2 by omega) (show 0 ≤ v1 by omega)
      omega
  rcases fv with v0 | ⟨v0, v3⟩
  · have e : (u1 * w2 - u2 * w1) * v1 = (u1 * v2 - u2 * v1) * w1 + (v1 * w2 - v2 * w1) * u1 := by grind
    refine of_mul_pos (b := v1) ?_ v0
    rw [e]
    rcases fw with w0 | ⟨w0, w3⟩
    · have p1 := Int.mul_pos h w0
      have p2 := mul_nn k (Int.le_of_lt u0)
      omega
    · subst w0
      have p1 := Int.mul_pos (Int.mul_pos v0 w3) u0
      grind
  · subst v0
    have w0 : w1 = 0 := by
      rcases ltge 0 w1 with z | z
      · have := Int.mul_pos v3 z
        omega
      · omega
    subst w0
    have := Int.mul_pos u0 (show 0 < w2 by omega)
    omega
theorem crs_neg (u v : Pt) : crs u v = -crs v u := by
  unfold crs
  grind
theorem tn_crs (a b c : Pt) : tn a b c = crs (vec a b) (vec a c) ∧ tn a b c = crs (vec a b) (vec b c) ∧ tn a b c = crs (vec a c) (vec b c) := by
  unfold tn crs vec
  simp only
  grind
theorem tn_rot (a b c : Pt) : tn a b c = tn b c a := by
  unfold tn
  grind
theorem tn_swap (a b c : Pt) : tn b a c = -tn a b c := by
  unfold tn
  grind
theorem tn_end (a b : Pt) : tn a b a = 0 ∧ tn a b b = 0 := by
  unfold tn
  grind
/-- a further one behind an edge, over it -/
theorem over_next {a b c d : Pt} (ab : lt2 a b) (bc : lt2 b c) (cd : lt2 c d) (h : 0 ≤ tn a b c) (k : 0 ≤ tn b c d) : 0 ≤ tn a b d := by
  rw [(tn_crs a b c).2.1] at h
  rw [(tn_crs b c d).2.1] at k
  have fab := fwd_vec.mpr ab
  have fbc := fwd_vec.mpr bc
  have fcd := fwd_vec.mpr cd
  have t := crs_tr fab fbc fcd h k
  have e : tn a b d = crs (vec a b) (vec b c) + crs (vec a b) (vec c d) := by
    unfold tn crs vec
    grind
  omega
/-- behind a: what is over an edge a, b is over a, s, if s is not over a, b -/
theorem over_fore {a b s p : Pt} (ab : lt2 a b) (as : lt2 a s) (ap : lt2 a p) (h : tn a b s ≤ 0) (k : 0 ≤ tn a b p) : 0 ≤ tn a s p := by
  rw [(tn_crs a b s).1] at h
  rw [(tn_crs a b p).1] at k
  rw [(tn_crs a s p).1]
  exact crs_tr (fwd_vec.mpr as) (fwd_vec.mpr ab) (fwd_vec.mpr ap) (by rw [crs_neg]; omega) k
/-- before a: what is over the edge that ends there is over the next one, too -/
theorem over_back {c a s p : Pt} (ca : lt2 c a) (as : lt2 a s) (pa : lt2 p a) (h : 0 ≤ tn c a s) (k : 0 ≤ tn c a p) : 0 ≤ tn a s p := by
  rw [(tn_crs c a s).2.1] at h
  have k2 : 0 ≤ crs (vec p a) (vec c a) := by
    have : tn c a p = crs (vec p a) (vec c a) := by
      unfold tn crs vec
      grind
    omega
  have t := crs_tr (fwd_vec.mpr pa) (fwd_vec.mpr ca) (fwd_vec.mpr as) k2 h
  have : tn a s p = crs (vec p a) (vec a s) := by
    unfold tn crs vec
    grind
  omega
/-! the program's chain, the last one ahead -/
def popF (least : Int) (s : Pt) : List Pt → List Pt
  | b :: a :: r => if tn a b s < least then popF least s (a :: r) else b :: a :: r
  | l => l
def pushF (least : Int) (st : List Pt) (s : Pt) : List Pt := s :: popF least s st
/-- the edges of a chain: the later one first -/
def Edg : List Pt → List (Pt × Pt)
  | b :: a :: r => (b, a) :: Edg (a :: r)
  | _ => []
def Cvx (least : Int) : List Pt → Prop
  | c :: b :: a :: r => least ≤ tn a b c ∧ Cvx least (b :: a :: r)
  | _ => True
/-- what stands of the chain of the sites P -/
structure Chn (least : Int) (P st : List Pt) : Prop where
  cvx : Cvx least st
  srt : st.Pairwise fun x y => lt2 y x
  sub : ∀ x ∈ st, x ∈ P
  top : ∀ p ∈ P, ∀ x, st.head? = some x → p = x ∨ lt2 p x
  bot : ∀ p ∈ P, ∀ x, st.getLast? = some x → p = x ∨ lt2 x p
  low : ∀ e ∈ Edg st, ∀ p ∈ P, 0 ≤ tn e.2 e.1 p
theorem edg_over {least : Int} (l0 : 0 ≤ least) {s : Pt} : ∀ (r : List Pt) (b a : Pt), Cvx least (b :: a :: r) → (b :: a :: r).Pairwise (fun x y => lt2 y x) → lt2 b s → 0 ≤ tn a b s → ∀ e ∈ Edg (b :: a :: r), 0 ≤ tn e.2 e.1 s
  | [], b, a, _, _, _, h, e, he => by
    have : e = (b, a) := by simpa [Edg] using he
    rw [this]
    exact h
  | z :: r, b, a, cv, so, bs, h, e, he => by
    rcases List.mem_cons.mp (show e ∈ (b, a) :: Edg (a :: z :: r) from he) with rfl | he
    · exact h
    · have ab : lt2 a b := (List.pairwise_cons.mp so).1 a List.mem_cons_self
      have so2 := (List.pairwise_cons.mp so).2
      have za : lt2 z a := (List.pairwise_cons.mp so2).1 z List.mem_cons_self
      exact edg_over l0 r a z cv.2 so2 (lt2_tr ab bs) (over_next za ab bs (Int.le_trans l0 cv.1) h) e he
/-- one put on -/
theorem chn_push {least : Int} (l0 : 0 ≤ least) (l1 : least ≤ 1) {P : List Pt} {s : Pt} (hs : ∀ p ∈ P, lt2 p s) : ∀ (st : List Pt), st ≠ [] → Cvx least st → st.Pairwise (fun x y => lt2 y x) → (∀ x ∈ st, x ∈ P) → (∀ p ∈ P, ∀ x, st.getLast? = some x → p = x ∨ lt2 x p) → (∀ e ∈ Edg st, ∀ p ∈ P, 0 ≤ tn e.2 e.1 p) →
    (∀ p ∈ P, ∀ b, st.head? = some b → lt2 b p → 0 ≤ tn b s p) → Chn least (P ++ [s]) (pushF least st s)
  | [], h, _, _, _, _, _, _ => absurd rfl h
  | [b], _, _, _, sub, bot, _, cover => by
    have bP := sub b List.mem_cons_self
    refine ⟨True.intro, ?_, ?_, ?_, ?_, ?_⟩
    · exact List.pairwise_cons.mpr ⟨fun x hx => by rw [List.mem_singleton.mp hx]; exact hs b bP, List.pairwise_singleton _ _⟩
    · intro x hx
      rcases List.mem_cons.mp hx with rfl | hx
      · exact List.mem_append_right _ (List.mem_singleton.mpr rfl)
      · exact List.mem_append_left _ (sub x hx)
    · intro p hp x hx
      obtain rfl : s = x := Option.some.inj hx
      rcases List.mem_append.mp hp with m | m
      · exact .inr (hs p m)
      · exact .inl (List.mem_singleton.mp m)
    · intro p hp x hx
      obtain rfl : b = x := Option.some.inj hx
      rcases List.mem_append.mp hp with m | m
      · exact bot p m b rfl
      · rw [List.mem_singleton.mp m]
        exact .inr (hs b bP)
    · intro e he p hp
      have : e = (s, b) := by simpa [Edg, pushF, popF] using he
      subst this
      rcases List.mem_append.mp hp with m | m
      · rcases bot p m b rfl with rfl | q
        · rw [(tn_end p s).1]
          exact Int.le_refl _
        · exact cover p m b rfl q
      · rw [List.mem_singleton.mp m, (tn_end b s).2]
        exact Int.le_refl _
  | b :: a :: r, _, cv, so, sub, bot, low, cover => by
    have so2 := (List.pairwise_cons.mp so).2
    have ab : lt2 a b := (List.pairwise_cons.mp so).1 a List.mem_cons_self
    have bP := sub b List.mem_cons_self
    have aP := sub a (List.mem_cons_of_mem _ List.mem_cons_self)
    by_cases c : tn a b s < least
    · have e : pushF least (b :: a :: r) s = pushF least (a :: r) s := by
        unfold pushF
        rw [popF, if_pos c]
      rw [e]
      refine chn_push l0 l1 hs (a :: r) (by simp) ?_ so2 (fun x hx => sub x (List.mem_cons_of_mem _ hx)) (fun p hp x hx => bot p hp x ?_) (fun e he => low e ?_) (fun p hp x hx q => ?_)
      · cases r with
        | nil => exact True.intro
        | cons z r => exact cv.2
      · exact hx
      · exact List.mem_cons_of_mem _ he
      · obtain rfl : a = x := Option.some.inj hx
        exact over_fore ab (hs a aP) q (by omega) (low (b, a) List.mem_cons_self p hp)
    · have e : pushF least (b :: a :: r) s = s :: b :: a :: r := by
        unfold pushF
        rw [popF, if_neg c]
      rw [e]
      have pos : 0 ≤ tn a b s := by omega
      refine ⟨⟨by omega, cv⟩, ?_, ?_, ?_, ?_, ?_⟩
      · exact List.pairwise_cons.mpr ⟨fun x hx => hs x (sub x hx), so⟩
      · intro x hx
        rcases List.mem_cons.mp hx with rfl | hx
        · exact List.mem_append_right _ (List.mem_singleton.mpr rfl)
        · exact List.mem_append_left _ (sub x hx)
      · intro p hp x hx
        obtain rfl : s = x := Option.some.inj hx
        rcases List.mem_append.mp hp with m | m
        · exact .inr (hs p m)
        · exact .inl (List.mem_singleton.mp m)
      · intro p hp x hx
        have hx : (b :: a :: r).getLast? = some x := hx
        rcases List.mem_append.mp hp with m | m
        · exact bot p m x hx
        · rw [List.mem_singleton.mp m]
          exact .inr (hs x (sub x (List.mem_of_getLast? hx)))
      · intro e he p hp
        rcases List.mem_append.mp hp with m | m
        · rcases List.mem_cons.mp (show e ∈ (s, b) :: Edg (b :: a :: r) from he) with rfl | he
          · by_cases q : p = b
            · rw [q, (tn_end b s).1]
              exact Int.le_refl _
            · rcases lt2_tri q with z | z
              · exact over_back ab (hs b bP) z pos (low (b, a) List.mem_cons_self p m)
              · exact cover p m b rfl z
          · exact low e he p m
        · rw [List.mem_singleton.mp m]
          rcases List.mem_cons.mp (show e ∈ (s, b) :: Edg (b :: a :: r) from he) with rfl | he
          · rw [(tn_end b s).2]
            exact Int.le_refl _
          · exact edg_over l0 r b a cv so (hs b bP) pos e he
/-- the whole chain of sorted sites -/
theorem chn_all {least : Int} (l0 : 0 ≤ least) (l1 : least ≤ 1) : ∀ (rows : List Pt) (p0 : Pt), (p0 :: rows).Pairwise lt2 → Chn least (p0 :: rows) (rows.foldl (pushF least) [p0]) := by
  have go : ∀ (rows P st : List Pt), st ≠ [] → Chn least P st → (P ++ rows).Pairwise lt2 → Chn least (P ++ rows) (rows.foldl (pushF least) st) := by
    intro rows
    induction rows with
    | nil => intro P st _ h _; rw [List.append_nil]; exact h
    | cons s rows ih =>
      intro P st ne h so
      have e : P ++ s :: rows = (P ++ [s]) ++ rows := by rw [List.append_assoc]; rfl
      rw [e] at so ⊢
      have hs : ∀ p ∈ P, lt2 p s := fun p hp => (List.pairwise_append.mp (List.pairwise_append.mp so).1).2.2 p hp s (List.mem_singleton.mpr rfl)
      refine ih _ _ (by unfold pushF; simp) (chn_push l0 l1 hs st ne h.cvx h.srt h.sub h.bot h.low fun p hp b hb q => ?_) so
      rcases h.top p hp b hb with rfl | z
      · exact absurd q lt2_irr
      · exact absurd (lt2_tr q z) lt2_irr
  intro rows p0 so
  refine go rows [p0] [p0] (by simp) ⟨True.intro, List.pairwise_singleton _ _, fun x hx => hx, fun p hp x hx => ?_, fun p hp x hx => ?_, fun e he => ?_⟩ so
  · rw [List.mem_singleton.mp hp]
    exact .inl (Option.some.inj hx)
  · rw [List.mem_singleton.mp hp]
    exact .inl (Option.some.inj hx)
  · cases he
theorem over_fore_lt {a b s p : Pt} (ab : lt2 a b) (as : lt2 a s) (ap : lt2 a p) (h : tn a b s < 0) (k : 0 ≤ tn a b p) : 0 < tn a s p := by
  rw [(tn_crs a b s).1] at h
  rw [(tn_crs a b p).1] at k
  rw [(tn_crs a s p).1]
  exact crs_tr_lt (fwd_vec.mpr as) (fwd_vec.mpr ab) (fwd_vec.mpr ap) (by rw [crs_neg]; omega) k
/-- what stands within an edge's reach is off its line -/
def Off (P : List Pt) (st : List Pt) : Prop := ∀ e ∈ Edg st, ∀ p ∈ P, lt2 e.2 p → lt2 p e.1 → 0 < tn e.2 e.1 p
/-- with 0: no site is left out of an edge that it lies on -/
theorem off_push {P : List Pt} {s : Pt} (hs : ∀ p ∈ P, lt2 p s) : ∀ (st : List Pt), st ≠ [] → st.Pairwise (fun x y => lt2 y x) → (∀ x ∈ st, x ∈ P) → (∀ e ∈ Edg st, ∀ p ∈ P, 0 ≤ tn e.2 e.1 p) → Off P st →
    (∀ p ∈ P, ∀ b, st.head? = some b → lt2 b p → 0 < tn b s p) → Off (P ++ [s]) (pushF 0 st s)
  | [], h, _, _, _, _, _ => absurd rfl h
  | [b], _, _, _, _, _, cover => by
    intro e he p hp h1 h2
    have : e = (s, b) := by simpa [Edg, pushF, popF] using he
    subst this
    rcases List.mem_append.mp hp with m | m
    · exact cover p m b rfl h1
    · rw [List.mem_singleton.mp m] at h2
      exact absurd h2 lt2_irr
  | b :: a :: r, _, so, sub, low, off, cover => by
    have so2 := (List.pairwise_cons.mp so).2
    have ab : lt2 a b := (List.pairwise_cons.mp so).1 a List.mem_cons_self
    have aP := sub a (List.mem_cons_of_mem _ List.mem_cons_self)
    have bP := sub b List.mem_cons_self
    by_cases c : tn a b s < 0
    · have e : pushF 0 (b :: a :: r) s = pushF 0 (a :: r) s := by
        unfold pushF
        rw [popF, if_pos c]
      rw [e]
      refine off_push hs (a :: r) (by simp) so2 (fun x hx => sub x (List.mem_cons_of_mem _ hx)) (fun e he => low e (List.mem_cons_of_mem _ he)) (fun e he => off e (List.mem_cons_of_mem _ he)) (fun p hp x hx q => ?_)
      obtain rfl : a = x := Option.some.inj hx
      exact over_fore_lt ab (hs a aP) q c (low (b, a) List.mem_cons_self p hp)
    · have e : pushF 0 (b :: a :: r) s = s :: b :: a :: r := by
        unfold pushF
        rw [popF, if_neg c]
      rw [e]
      intro e he p hp h1 h2
      rcases List.mem_cons.mp (show e ∈ (s, b) :: Edg (b :: a :: r) from he) with rfl | he
      · rcases List.mem_append.mp hp with m | m
        · exact cover p m b rfl h1
        · rw [List.mem_singleton.mp m] at h2
          exact absurd h2 lt2_irr
      · rcases List.mem_append.mp hp with m | m
        · exact off e he p m h1 h2
        · -- s lies behind all edges
          have mem : ∀ (l : List Pt) (e : Pt × Pt), e ∈ Edg l → e.1 ∈ l := by
            intro l
            induction l with
            | nil => intro e h; cases h
            | cons x l ih =>
              intro e h
              cases l with
              | nil => cases h
              | cons y l =>
                rcases List.mem_cons.mp (show e ∈ (x, y) :: Edg (y :: l) from h) with rfl | h
                · exact List.mem_cons_self
                · exact List.mem_cons_of_mem _ (ih e h)
          rw [List.mem_singleton.mp m] at h2
          exact absurd (lt2_tr h2 (hs e.1 (sub e.1 (mem _ e he)))) lt2_irr
theorem off_all : ∀ (rows : List Pt) (p0 : Pt), (p0 :: rows).Pairwise lt2 → Off (p0 :: rows) (rows.foldl (pushF 0) [p0]) := by
  have go : ∀ (rows P st : List Pt), st ≠ [] → Chn 0 P st → Off P st → (P ++ rows).Pairwise lt2 → Off (P ++ rows) (rows.foldl (pushF 0) st) := by
    intro rows
    induction rows with
    | nil => intro P st _ _ h _; rw [List.append_nil]; exact h
    | cons s rows ih =>
      intro P st ne h off so
      have e : P ++ s :: rows = (P ++ [s]) ++ rows := by rw [List.append_assoc]; rfl
      rw [e] at so ⊢
      have hs : ∀ p ∈ P, lt2 p s := fun p hp => (List.pairwise_append.mp (List.pairwise_append.mp so).1).2.2 p hp s (List.mem_singleton.mpr rfl)
      have cov : ∀ p ∈ P, ∀ b, st.head? = some b → ¬ lt2 b p := fun p hp b hb q => by
        rcases h.top p hp b hb with rfl | z
        · exact absurd q lt2_irr
        · exact absurd (lt2_tr q z) lt2_irr
      exact ih _ _ (by unfold pushF; simp) (chn_push (by decide) (by decide) hs st ne h.cvx h.srt h.sub h.bot h.low fun p hp b hb q => absurd q (cov p hp b hb)) (off_push hs st ne h.srt h.sub h.low off fun p hp b hb q => absurd q (cov p hp b hb)) so
  intro rows p0 so
  refine go rows [p0] [p0] (by simp) (chn_all (by decide) (by decide) [] p0 (List.pairwise_singleton _ _)) (fun e he => ?_) so
  cases he
/-! turned about -/
def ng (p : Pt) : Pt := (-p.1, -p.2)
theorem ng_ng (p : Pt) : ng (ng p) = p := by
  unfold ng
  exact Prod.ext (Int.neg_neg _) (Int.neg_neg _)
theorem tn_ng (a b c : Pt) : tn (ng a) (ng b) (ng c) = tn a b c := by
  unfold tn ng
  simp only
  grind
theorem lt2_ng {a b : Pt} : lt2 (ng a) (ng b) ↔ lt2 b a := by
  unfold lt2 ng
  simp only
  omega
theorem pop_ng (least : Int) (s : Pt) : ∀ st : List Pt, popF least (ng s) (st.map ng) = (popF least s st).map ng
  | [] => rfl
  | [b] => rfl
  | b :: a :: r => by
    rw [List.map_cons, List.map_cons, popF, popF, tn_ng]
    by_cases c : tn a b s < least
    · rw [if_pos c, if_pos c]
      exact pop_ng least s (a :: r)
    · rw [if_neg c, if_neg c]
      rfl
theorem fold_ng (least : Int) : ∀ (rows st : List Pt), (rows.map ng).foldl (pushF least) (st.map ng) = (rows.foldl (pushF least) st).map ng
  | [], _ => rfl
  | s :: rows, st => by
    rw [List.map_cons, List.foldl_cons, List.foldl_cons]
    have : pushF least (st.map ng) (ng s) = (pushF least st s).map ng := by
      unfold pushF
      rw [pop_ng]
      rfl
    rw [this]
    exact fold_ng least rows (pushF least st s)
/-! ### the next one on a border -/
theorem crs_par {u v w : Pt} (fu : fwd u) (fv : fwd v) (h : crs u v = 0) (k : 0 < crs u w) : 0 < crs v w := by
  obtain ⟨u1, u2⟩ := u
  obtain ⟨v1, v2⟩ := v
  obtain ⟨w1, w2⟩ := w
  unfold crs fwd at *
  simp only at *
  rcases fv with v0 | ⟨v0, v3⟩
  · have u0 : 0 < u1 := by
      rcases fu with z | ⟨z, y⟩
      · exact z
      · subst z
        have := Int.mul_pos y v0
        omega
    have e : (v1 * w2 - v2 * w1) * u1 = (u1 * w2 - u2 * w1) * v1 - (u1 * v2 - u2 * v1) * w1 := by grind
    rw [h, Int.zero_mul, Int.sub_zero] at e
    have := Int.mul_pos k v0
    exact of_mul_pos (b := u1) (by omega) u0
  · subst v0
    have u0 : u1 = 0 := by
      rcases ltge 0 u1 with z | z
      · have := Int.mul_pos z v3
        omega
      · rcases fu with y | ⟨y, _⟩
        · omega
        · exact y
    subst u0
    have u3 : 0 < u2 := by omega
    have w0 : w1 < 0 := by
      rcases ltge w1 0 with z | z
      · exact z
      · have := mul_nn (Int.le_of_lt u3) z
        omega
    have := Int.mul_neg_of_pos_of_neg v3 w0
    omega
/-- p stands between a and b, in the order of the sites -/
def Btw (a p b : Pt) : Prop := (lt2 a p ∧ lt2 p b) ∨ (lt2 b p ∧ lt2 p a)
/-- no site on the right -/
def Sup (rows : List Pt) (a b : Pt) : Prop := a ∈ rows ∧ b ∈ rows ∧ a ≠ b ∧ ∀ p ∈ rows, 0 ≤ tn a b p
/-- and none on the way -/
def Nxt (rows : List Pt) (a b : Pt) : Prop := Sup rows a b ∧ ∀ p ∈ rows, tn a b p = 0 → ¬ Btw a p b
def NoRow (rows : List Pt) : Prop := ∀ a ∈ rows, ∀ b ∈ rows, a ≠ b → ∃ p ∈ rows, tn a b p ≠ 0
def dist2 (a b : Pt) : Int := (b.1 - a.1) ^ 2 + (b.2 - a.2) ^ 2
theorem sup_line {rows : List Pt} {a b c : Pt} (h : Sup rows a b) (k : Sup rows a c) : tn a b c = 0 := by
  have h1 := h.2.2.2 c k.2.1
  have h2 := k.2.2.2 b h.2.1
  have e : tn a c b = -tn a b c := by
    unfold tn
    grind
  omega
/-- on the same side of a -/
theorem sup_side {rows : List Pt} (nr : NoRow rows) {a b c : Pt} (h : Sup rows a b) (k : Sup rows a c) : ¬ Btw b a c := by
  intro z
  obtain ⟨p, hp, np⟩ := nr a h.1 b h.2.1 h.2.2.1
  have pos : 0 < tn a b p := by
    have := h.2.2.2 p hp
    omega
  have nn := k.2.2.2 p hp
  have l := sup_line h k
  rcases z with ⟨z1, z2⟩ | ⟨z1, z2⟩
  · -- b < a < c
    have e0 : crs (vec b a) (vec a c) = 0 := by
      have : crs (vec b a) (vec a c) = -tn a b c := by
        unfold crs vec tn
        grind
      omega
    have e1 : crs (vec a c) (vec a p) = tn a c p := ((tn_crs a c p).1).symm
    rcases Int.lt_or_eq_of_le nn with q | q
    · have e2 : crs (vec b a) (vec p a) = tn a b p := by
        unfold crs vec tn
        grind
      have := crs_par (w := vec p a) (fwd_vec.mpr z1) (fwd_vec.mpr z2) e0 (by omega)
      have e3 : crs (vec a c) (vec p a) = -tn a c p := by
        unfold crs vec tn
        grind
      omega
    · have e2 : crs (vec b a) (vec p a) = tn a b p := by
        unfold crs vec tn
        grind
      have := crs_par (w := vec p a) (fwd_vec.mpr z1) (fwd_vec.mpr z2) e0 (by omega)
      have e3 : crs (vec a c) (vec p a) = -tn a c p := by
        unfold crs vec tn
        grind
      omega
  · -- c < a < b
    have e0 : crs (vec a b) (vec c a) = 0 := by
      have : crs (vec a b) (vec c a) = -tn a b c := by
        unfold crs vec tn
        grind
      omega
    have e1 : crs (vec a b) (vec a p) = tn a b p := ((tn_crs a b p).1).symm
    have := crs_par (w := vec a p) (fwd_vec.mpr z2) (fwd_vec.mpr z1) e0 (by omega)
    have e3 : crs (vec c a) (vec a p) = -tn a c p := by
      unfold crs vec tn
      grind
    omega
theorem btw_cases {a b c : Pt} (ab : a ≠ b) (ac : a ≠ c) (bc : b ≠ c) : Btw b a c ∨ Btw a b c ∨ Btw a c b := by
  unfold Btw
  rcases lt2_tri ab with x | x <;> rcases lt2_tri ac with y | y <;> rcases lt2_tri bc with z | z <;> first
    | exact .inl (.inl ⟨x, y⟩)
    | exact .inl (.inr ⟨y, x⟩)
    | exact .inr (.inl (.inl ⟨x, z⟩))
    | exact .inr (.inl (.inr ⟨z, x⟩))
    | exact .inr (.inr (.inl ⟨y, z⟩))
    | exact .inr (.inr (.inr ⟨z, y⟩))
/-- on a line, what is between is nearer -/
theorem btw_near {a b c : Pt} (l : tn a b c = 0) (h : Btw a b c) : dist2 a b < dist2 a c := by
  obtain ⟨a1, a2⟩ := a
  obtain ⟨b1, b2⟩ := b
  obtain ⟨c1, c2⟩ := c
  unfold Btw lt2 tn dist2 at *
  simp only at *
  generalize hx : b1 - a1 = x at *
  generalize hy : b2 - a2 = y at *
  generalize hu : c1 - a1 = u at *
  generalize hv : c2 - a2 = v at *
  have l : x * v = y * u := by omega
  have sq : ∀ p q : Int, (0 ≤ p ∧ p ≤ q) ∨ (q ≤ p ∧ p ≤ 0) → p ^ 2 ≤ q ^ 2 := fun p q h => by
    have e : q ^ 2 - p ^ 2 = (q - p) * (q + p) := by grind
    have : 0 ≤ (q - p) * (q + p) := by
      rcases h with ⟨h1, h2⟩ | ⟨h1, h2⟩
      · exact mul_nn (by omega) (by omega)
      · have := mul_nn (show 0 ≤ p - q by omega) (show 0 ≤ -(q + p) by omega)
        grind
    omega
  have sq2 : ∀ p q : Int, (0 ≤ p ∧ p < q) ∨ (q < p ∧ p ≤ 0) → p ^ 2 < q ^ 2 := fun p q h => by
    have e : q ^ 2 - p ^ 2 = (q - p) * (q + p) := by grind
    have : 0 < (q - p) * (q + p) := by
      rcases h with ⟨h1, h2⟩ | ⟨h1, h2⟩
      · exact Int.mul_pos (by omega) (by omega)
      · have := Int.mul_pos (show 0 < p - q by omega) (show 0 < -(q + p) by omega)
        grind
    omega
  have h' : ((0 < x ∨ (x = 0 ∧ 0 < y)) ∧ (x < u ∨ (x = u ∧ y < v))) ∨ ((u < x ∨ (u = x ∧ v < y)) ∧ (x < 0 ∨ (x = 0 ∧ y < 0))) := by omega
  have l2 : (v - y) * x = y * (u - x) := by grind
  clear h
  rcases h' with ⟨h1, h2⟩ | ⟨h2, h1⟩
  · rcases h1 with h1 | ⟨h1, h3⟩
    · rcases h2 with h2 | ⟨h2, h4⟩
      · have q := sq2 x u (.inl ⟨by omega, h2⟩)
        have : y ^ 2 ≤ v ^ 2 := by
          rcases ltge y 0 with z | z
          · have := mul_nn (show 0 ≤ -y by omega) (show 0 ≤ u - x by omega)
            have := of_mul_nn (a := y - v) (b := x) (by grind) h1
            exact sq y v (.inr ⟨by omega, by omega⟩)
          · have := mul_nn z (show 0 ≤ u - x by omega)
            have := of_mul_nn (a := v - y) (b := x) (by omega) h1
            exact sq y v (.inl ⟨z, by omega⟩)
        omega
      · subst h2
        have := Int.mul_pos (show 0 < v - y by omega) h1
        rw [Int.sub_self, Int.mul_zero] at l2
        omega
    · subst h1
      have u0 : u = 0 := by
        rw [Int.mul_zero, Int.sub_zero] at l2
        rcases Int.mul_eq_zero.mp l2.symm with z | z
        · omega
        · exact z
      subst u0
      have := sq2 y v (.inl ⟨by omega, by omega⟩)
      omega
  · rcases h1 with h1 | ⟨h1, h3⟩
    · rcases h2 with h2 | ⟨h2, h4⟩
      · have q := sq2 x u (.inr ⟨h2, by omega⟩)
        have : y ^ 2 ≤ v ^ 2 := by
          rcases ltge y 0 with z | z
          · have := mul_nn (show 0 ≤ -y by omega) (show 0 ≤ x - u by omega)
            have := of_mul_nn (a := y - v) (b := -x) (by grind) (by omega)
            exact sq y v (.inr ⟨by omega, by omega⟩)
          · have := mul_nn z (show 0 ≤ x - u by omega)
            have := of_mul_nn (a := v - y) (b := -x) (by grind) (by omega)
            exact sq y v (.inl ⟨z, by omega⟩)
        omega
      · subst h2
        have := Int.mul_pos (show 0 < y - v by omega) (show 0 < -u by omega)
        rw [Int.sub_self, Int.mul_zero] at l2
        grind
    · subst h1
      have u0 : u = 0 := by
        rw [Int.mul_zero, Int.sub_zero] at l2
        rcases Int.mul_eq_zero.mp l2.symm with z | z
        · omega
        · exact z
      subst u0
      have := sq2 y v (.inr ⟨by omega, by omega⟩)
      omega
/-- the next one is the nearest of those with no site on the right -/
theorem nxt_near {rows : List Pt} (nr : NoRow rows) {a b c : Pt} (h : Nxt rows a b) (k : Sup rows a c) : c = b ∨ dist2 a b < dist2 a c := by
  by_cases e : c = b
  · exact .inl e
  · refine .inr (btw_near (sup_line h.1 k) ?_)
    rcases btw_cases h.1.2.2.1 k.2.2.1 (Ne.symm e) with z | z | z
    · exact absurd z (sup_side nr h.1 k)
    · exact z
    · exact absurd z (h.2 c k.2.1 (sup_line h.1 k))
/-! ### the ring -/
def Pr (R : Pt → Pt → Prop) : List Pt → Prop
  | a :: b :: r => R a b ∧ Pr R (b :: r)
  | _ => True
theorem pr_app {R : Pt → Pt → Prop} : ∀ {l : List Pt} {q : Pt} {u : List Pt}, Pr R (l ++ [q]) → Pr R (q :: u) → Pr R (l ++ q :: u)
  | [], _, _, _, k => k
  | [a], q, u, h, k => ⟨h.1, k⟩
  | a :: b :: l, q, u, h, k => ⟨h.1, pr_app (l := b :: l) h.2 k⟩
theorem pr_rev {R : Pt → Pt → Prop} : ∀ {st : List Pt}, (∀ e ∈ Edg st, R e.2 e.1) → Pr R st.reverse
  | [], _ => True.intro
  | [b], _ => True.intro
  | b :: a :: r, h => by
    have ih : Pr R (a :: r).reverse := pr_rev fun e he => h e (List.mem_cons_of_mem _ he)
    rw [List.reverse_cons] at ih ⊢
    rw [List.reverse_cons, List.append_assoc]
    exact pr_app ih ⟨h (b, a) List.mem_cons_self, True.intro⟩
theorem edg_mem : ∀ (l : List Pt) (e : Pt × Pt), e ∈ Edg l → e.1 ∈ l ∧ e.2 ∈ l
  | [], _, h => nomatch h
  | [_], _, h => nomatch h
  | x :: y :: l, e, h => by
    rcases List.mem_cons.mp (show e ∈ (x, y) :: Edg (y :: l) from h) with rfl | h
    · exact ⟨List.mem_cons_self, List.mem_cons_of_mem _ List.mem_cons_self⟩
    · have := edg_mem (y :: l) e h
      exact ⟨List.mem_cons_of_mem _ this.1, List.mem_cons_of_mem _ this.2⟩
theorem edg_lt : ∀ (l : List Pt), l.Pairwise (fun x y => lt2 y x) → ∀ e ∈ Edg l, lt2 e.2 e.1
  | [], _, _, h => nomatch h
  | [_], _, _, h => nomatch h
  | x :: y :: l, so, e, h => by
    rcases List.mem_cons.mp (show e ∈ (x, y) :: Edg (y :: l) from h) with rfl | h
    · exact (List.pairwise_cons.mp so).1 y List.mem_cons_self
    · exact edg_lt (y :: l) (List.pairwise_cons.mp so).2 e h
theorem edg_map (f : Pt → Pt) : ∀ (l : List Pt) (e : Pt × Pt), e ∈ Edg l → (f e.1, f e.2) ∈ Edg (l.map f)
  | [], _, h => nomatch h
  | [_], _, h => nomatch h
  | x :: y :: l, e, h => by
    rcases List.mem_cons.mp (show e ∈ (x, y) :: Edg (y :: l) from h) with rfl | h
    · exact List.mem_cons_self
    · exact List.mem_cons_of_mem _ (edg_map f (y :: l) e h)
def stk (least : Int) (rows : List Pt) : List Pt := rows.foldl (pushF least) []
theorem stk_cons (least : Int) (p0 : Pt) (rows : List Pt) : stk least (p0 :: rows) = rows.foldl (pushF least) [p0] := rfl
theorem stk_ng (least : Int) (rows : List Pt) : stk least (rows.map ng) = (stk least rows).map ng := fold_ng least rows []
theorem fold_ne (least : Int) : ∀ (rows st : List Pt), st ≠ [] → rows.foldl (pushF least) st ≠ []
  | [], _, h => h
  | s :: rows, st, _ => fold_ne least rows (pushF least st s) (by unfold pushF; simp)
/-- each edge of a chain leads to the next one on the border -/
theorem stk_nxt {rows : List Pt} (so : rows.Pairwise lt2) : ∀ e ∈ Edg (stk 0 rows), Nxt rows e.2 e.1 := by
  cases rows with
  | nil => intro e h; cases h
  | cons p0 rows =>
    intro e he
    have c := chn_all (least := 0) (by decide) (by decide) rows p0 so
    have o := off_all rows p0 so
    have lt := edg_lt _ c.srt e he
    have m := edg_mem _ e he
    refine ⟨⟨c.sub _ m.2, c.sub _ m.1, fun z => lt2_irr (z ▸ lt), c.low e he⟩, fun p hp z q => ?_⟩
    rcases q with ⟨q1, q2⟩ | ⟨q1, q2⟩
    · have := o e he p hp q1 q2
      omega
    · exact lt2_irr (lt2_tr (lt2_tr q1 q2) lt)
theorem nxt_ng {rows : List Pt} {a b : Pt} (h : Nxt (rows.reverse.map ng) (ng a) (ng b)) : Nxt rows a b := by
  have inj : ∀ {x y : Pt}, ng x = ng y → x = y := fun {x y} e => by rw [← ng_ng x, e, ng_ng]
  have mem : ∀ x, ng x ∈ rows.reverse.map ng → x ∈ rows := fun x hx => by
    obtain ⟨y, my, e⟩ := List.mem_map.mp hx
    rw [← inj e]
    exact List.mem_reverse.mp my
  have mem2 : ∀ x ∈ rows, ng x ∈ rows.reverse.map ng := fun x hx => List.mem_map.mpr ⟨x, List.mem_reverse.mpr hx, rfl⟩
  obtain ⟨⟨h1, h2, h3, h4⟩, h5⟩ := h
  refine ⟨⟨mem a h1, mem b h2, fun z => h3 (by rw [z]), fun p hp => ?_⟩, fun p hp z q => ?_⟩
  · rw [← tn_ng]
    exact h4 _ (mem2 p hp)
  · refine h5 (ng p) (mem2 p hp) (by rw [tn_ng]; exact z) ?_
    rcases q with ⟨q1, q2⟩ | ⟨q1, q2⟩
    · exact .inr ⟨lt2_ng.mpr q2, lt2_ng.mpr q1⟩
    · exact .inl ⟨lt2_ng.mpr q2, lt2_ng.mpr q1⟩
theorem rev_srt {rows : List Pt} (so : rows.Pairwise lt2) : (rows.reverse.map ng).Pairwise lt2 := by
  rw [List.pairwise_map, List.pairwise_reverse]
  exact so.imp fun h => lt2_ng.mpr h
theorem stk_nxt_rev {rows : List Pt} (so : rows.Pairwise lt2) : ∀ e ∈ Edg (stk 0 rows.reverse), Nxt rows e.2 e.1 := fun e he => by
  refine nxt_ng (stk_nxt (rev_srt so) (ng e.1, ng e.2) ?_)
  rw [stk_ng]
  exact edg_map ng _ e he
/-- the ends of a chain -/
theorem stk_ends {least : Int} (l0 : 0 ≤ least) (l1 : least ≤ 1) {rows : List Pt} {p0 q : Pt} (so : rows.Pairwise lt2) (h0 : rows.head? = some p0) (hq : rows.getLast? = some q) (n2 : p0 ≠ q) : ∃ m, stk least rows = q :: (m ++ [p0]) ∧ ∀ x ∈ m, lt2 p0 x ∧ lt2 x q := by
  cases rows with
  | nil => cases h0
  | cons r0 rows =>
    obtain rfl := Option.some.inj h0
    have c := chn_all l0 l1 rows r0 so
    rw [stk_cons]
    have ne := fold_ne least rows [r0] (by simp)
    generalize rows.foldl (pushF least) [r0] = S at c ne
    have r0in : r0 ∈ r0 :: rows := List.mem_cons_self
    have first : ∀ p ∈ r0 :: rows, p = r0 ∨ lt2 r0 p := fun p hp => by
      rcases List.mem_cons.mp hp with e | m
      · exact .inl e
      · exact .inr ((List.pairwise_cons.mp so).1 p m)
    have last : ∀ p ∈ r0 :: rows, p = q ∨ lt2 p q := fun p hp => by
      obtain ⟨ys, ey⟩ := List.getLast?_eq_some_iff.mp hq
      rw [ey] at hp so
      rcases List.mem_append.mp hp with m | m
      · exact .inr ((List.pairwise_append.mp so).2.2 p m q (List.mem_singleton.mpr rfl))
      · exact .inl (List.mem_singleton.mp m)
    have qin : q ∈ r0 :: rows := List.mem_of_getLast? hq
    cases S with
    | nil => exact absurd rfl ne
    | cons t S =>
      have ht : t = q := by
        rcases c.top q qin t rfl with e | z
        · exact e.symm
        · rcases last t (c.sub t List.mem_cons_self) with e | y
          · exact e
          · exact absurd (lt2_tr z y) lt2_irr
      subst ht
      rcases List.eq_nil_or_concat S with rfl | ⟨m, b, rfl⟩
      · exfalso
        rcases c.bot r0 r0in t rfl with e | z
        · exact n2 e
        · rcases last r0 r0in with e | y
          · exact n2 e
          · exact lt2_irr (lt2_tr z y)
      · rw [List.concat_eq_append] at c ⊢
        have hb : b = r0 := by
          have gl : (t :: (m ++ [b])).getLast? = some b := by
            rw [← List.cons_append, List.getLast?_append]
            rfl
          rcases c.bot r0 r0in b gl with e | z
          · exact e.symm
          · rcases first b (c.sub b (List.mem_cons_of_mem _ (List.mem_append_right _ (List.mem_singleton.mpr rfl)))) with e | y
            · exact e
            · exact absurd (lt2_tr z y) lt2_irr
        subst hb
        refine ⟨m, rfl, fun x hx => ⟨?_, (List.pairwise_cons.mp c.srt).1 x (List.mem_append_left _ hx)⟩⟩
        exact (List.pairwise_append.mp (List.pairwise_cons.mp c.srt).2).2.2 x hx b (List.mem_singleton.mpr rfl)
/-- the border as the program tells it, closed: from the least site on, each one's next one, and back -/
theorem ring {rows : List Pt} {p0 q : Pt} (so : rows.Pairwise lt2) (h0 : rows.head? = some p0) (hq : rows.getLast? = some q) (n2 : p0 ≠ q) :
    ∃ mid, (stk 0 rows).reverse.dropLast ++ (stk 0 rows.reverse).reverse.dropLast = p0 :: mid ∧ p0 ∉ mid ∧ Pr (Nxt rows) (p0 :: mid ++ [p0]) := by
  obtain ⟨m, e, hm⟩ := stk_ends (by decide) (by decide) (least := 0) so h0 hq n2
  have so' := rev_srt so
  obtain ⟨m', e', hm'⟩ := stk_ends (by decide) (by decide) (least := 0) so' (p0 := ng q) (q := ng p0) (by rw [List.head?_map, List.head?_reverse, hq]; rfl) (by rw [List.getLast?_map, List.getLast?_reverse, h0]; rfl) (fun z => n2 (by rw [← ng_ng p0, ← ng_ng q, z]))
  have e2 : stk 0 rows.reverse = p0 :: (m'.map ng ++ [q]) := by
    have := congrArg (List.map ng) e'
    rw [← stk_ng, List.map_map, show (ng ∘ ng) = id from funext ng_ng, List.map_id, List.map_cons, List.map_append, List.map_cons, List.map_nil, ng_ng, ng_ng] at this
    exact this
  have k1 := pr_rev (stk_nxt so)
  have k2 := pr_rev (stk_nxt_rev so)
  rw [e] at k1 ⊢
  rw [e2] at k2 ⊢
  have r1 : (q :: (m ++ [p0])).reverse = (p0 :: m.reverse) ++ [q] := by simp
  have r2 : (p0 :: (m'.map ng ++ [q])).reverse = q :: ((m'.map ng).reverse ++ [p0]) := by simp
  rw [r1] at k1 ⊢
  rw [r2] at k2 ⊢
  refine ⟨m.reverse ++ q :: (m'.map ng).reverse, ?_, fun z => ?_, ?_⟩
  · rw [List.dropLast_concat, show q :: ((m'.map ng).reverse ++ [p0]) = (q :: (m'.map ng).reverse) ++ [p0] from rfl, List.dropLast_concat]
    rfl
  · rcases List.mem_append.mp z with z | z
    · exact lt2_irr (hm p0 (List.mem_reverse.mp z)).1
    · rcases List.mem_cons.mp z with z | z
      · exact n2 z
      · obtain ⟨x, hx, ex⟩ := List.mem_map.mp (List.mem_reverse.mp z)
        have := (hm' x hx).2
        rw [← ex, ng_ng] at this
        exact lt2_irr this
  · have := pr_app k1 k2
    simpa using this
/-! ### one ring alone -/
theorem nxt_uniq {rows : List Pt} (nr : NoRow rows) {a b c : Pt} (h : Nxt rows a b) (k : Nxt rows a c) : b = c := by
  rcases nxt_near nr h k.1 with e | z
  · exact e.symm
  · rcases nxt_near nr k h.1 with e | y
    · exact e
    · omega
theorem pr_tail {R : Pt → Pt → Prop} : ∀ (l : List Pt) {m : List Pt}, Pr R (l ++ m) → Pr R m
  | [], _, h => h
  | [a], m, h => by
    cases m with
    | nil => exact True.intro
    | cons b m => exact h.2
  | a :: b :: l, m, h => pr_tail (b :: l) h.2
theorem ring_det {R : Pt → Pt → Prop} (fn : ∀ a b c, R a b → R a c → b = c) {p : Pt} : ∀ (s1 s2 : List Pt) (x : Pt), Pr R (x :: (s1 ++ [p])) → Pr R (x :: (s2 ++ [p])) → p ∉ s1 → p ∉ s2 → s1 = s2
  | [], [], _, _, _, _, _ => rfl
  | [], z :: s2, x, h, k, _, n => by
    have : p = z := fn x p z h.1 k.1
    exact absurd (this ▸ List.mem_cons_self) n
  | y :: s1, [], x, h, k, n, _ => by
    have : y = p := fn x y p h.1 k.1
    exact absurd (this ▸ List.mem_cons_self) n
  | y :: s1, z :: s2, x, h, k, n1, n2 => by
    have e : y = z := fn x y z h.1 k.1
    subst e
    rw [ring_det fn s1 s2 y h.2 k.2 (fun m => n1 (List.mem_cons_of_mem _ m)) (fun m => n2 (List.mem_cons_of_mem _ m))]
theorem ring_nodup {R : Pt → Pt → Prop} (fn : ∀ a b c, R a b → R a c → b = c) {p : Pt} : ∀ (s : List Pt) (x : Pt), Pr R (x :: (s ++ [p])) → p ∉ s → (x :: s).Nodup
  | s, x, h, n => by
    refine List.nodup_cons.mpr ⟨fun m => ?_, ?_⟩
    · obtain ⟨B, D, rfl⟩ := List.append_of_mem m
      have k : Pr R (x :: (D ++ [p])) := by
        have e : x :: (B ++ x :: D ++ [p]) = (x :: B) ++ x :: (D ++ [p]) := by simp
        rw [e] at h
        exact pr_tail _ h
      have := congrArg List.length (ring_det fn _ D x h k n fun m => n (List.mem_append_right _ (List.mem_cons_of_mem _ m)))
      rw [List.length_append, List.length_cons] at this
      omega
    · cases s with
      | nil => exact List.nodup_nil
      | cons y s => exact ring_nodup fn s y h.2 fun m => n (List.mem_cons_of_mem _ m)
/-- whatever has the ring's ends and goes from next one to next one is this ring -/
theorem ring_is {rows : List Pt} (nr : NoRow rows) {p0 : Pt} {mid m2 : List Pt} (h : Pr (Nxt rows) (p0 :: (mid ++ [p0]))) (k : Pr (Nxt rows) (p0 :: (m2 ++ [p0]))) (n1 : p0 ∉ mid) (n2 : p0 ∉ m2) : mid = m2 :=
  ring_det (R := Nxt rows) (fun _ _ _ => nxt_uniq nr) mid m2 p0 h k n1 n2
/-- a line through two sites that has all on it has all in a row -/
theorem noRow_of {rows : List Pt} {p0 q : Pt} (h0 : p0 ∈ rows) (hq : q ∈ rows) (n2 : p0 ≠ q) (ne : ∃ p ∈ rows, tn p0 q p ≠ 0) : NoRow rows := by
  intro a ha b hb nab
  obtain ⟨p, hp, np⟩ := ne
  refine Classical.byContradiction fun all => ?_
  have all : ∀ p ∈ rows, tn a b p = 0 := fun p hp => Classical.byContradiction fun z => all ⟨p, hp, z⟩
  have e1 := all p0 h0
  have e2 := all q hq
  have e3 := all p hp
  -- three on one line
  have key : tn p0 q p * (b.1 - a.1) = 0 ∧ tn p0 q p * (b.2 - a.2) = 0 := by
    unfold tn at *
    constructor <;> grind
  have : b.1 - a.1 = 0 ∧ b.2 - a.2 = 0 := ⟨by
    rcases Int.mul_eq_zero.mp key.1 with z | z
    · exact absurd z np
    · exact z, by
    rcases Int.mul_eq_zero.mp key.2 with z | z
    · exact absurd z np
    · exact z⟩
  exact nab (Prod.ext (by omega) (by omega))
/-! ### corners -/
/-- the next corner: no site on the right, none beyond on the line -/
def NxC (rows : List Pt) (a b : Pt) : Prop := Sup rows a b ∧ ∀ p ∈ rows, tn a b p = 0 → p = a ∨ p = b ∨ Btw a p b
theorem edg_split : ∀ {S : List Pt} {e : Pt × Pt}, e ∈ Edg S → ∃ l r, S = l ++ e.1 :: e.2 :: r
  | [], _, h => nomatch h
  | [_], _, h => nomatch h
  | x :: y :: l, e, h => by
    rcases List.mem_cons.mp (show e ∈ (x, y) :: Edg (y :: l) from h) with rfl | h
    · exact ⟨[], l, rfl⟩
    · obtain ⟨m, r, k⟩ := edg_split (S := y :: l) h
      exact ⟨x :: m, r, by rw [k]; rfl⟩
theorem edg_of : ∀ (l : List Pt) (b a : Pt) (r : List Pt), (b, a) ∈ Edg (l ++ b :: a :: r)
  | [], _, _, _ => List.mem_cons_self
  | [x], b, a, r => List.mem_cons_of_mem _ List.mem_cons_self
  | x :: y :: l, b, a, r => List.mem_cons_of_mem _ (edg_of (y :: l) b a r)
theorem cvx_suf {least : Int} : ∀ (l : List Pt) {m : List Pt}, Cvx least (l ++ m) → Cvx least m
  | [], _, h => h
  | x :: l, m, h => by
    refine cvx_suf l ?_
    have h : Cvx least (x :: (l ++ m)) := h
    generalize l ++ m = k at h
    match k, h with
    | [], _ => exact True.intro
    | [_], _ => exact True.intro
    | [_, _], h => exact True.intro
    | a :: b :: c :: k, h => exact h.2
theorem edg_up {least : Int} {S : List Pt} (cv : Cvx least S) {e : Pt × Pt} (he : e ∈ Edg S) : S.head? = some e.1 ∨ ∃ c, (c, e.1) ∈ Edg S ∧ least ≤ tn e.2 e.1 c := by
  obtain ⟨l, r, rfl⟩ := edg_split he
  rcases List.eq_nil_or_concat l with rfl | ⟨l, c, rfl⟩
  · exact .inl rfl
  · rw [List.concat_eq_append, List.append_assoc] at *
    exact .inr ⟨c, edg_of l c e.1 (e.2 :: r), (cvx_suf l cv).1⟩
theorem edg_dn {least : Int} {S : List Pt} (cv : Cvx least S) {e : Pt × Pt} (he : e ∈ Edg S) : S.getLast? = some e.2 ∨ ∃ z, (e.2, z) ∈ Edg S ∧ least ≤ tn z e.2 e.1 := by
  obtain ⟨l, r, rfl⟩ := edg_split he
  cases r with
  | nil =>
    left
    rw [List.getLast?_append]
    rfl
  | cons z r =>
    refine .inr ⟨z, ?_, (cvx_suf l cv).1⟩
    have e2 : l ++ e.1 :: e.2 :: z :: r = (l ++ [e.1]) ++ e.2 :: z :: r := by simp
    rw [e2]
    exact edg_of _ _ _ _
/-- strictly over -/
theorem over_next_lt {a b c p : Pt} (ab : lt2 a b) (bc : lt2 b c) (bp : lt2 b p) (h : 0 < tn a b c) (k : 0 ≤ tn b c p) : 0 < tn a b p := by
  rw [(tn_crs a b c).2.1] at h
  rw [(tn_crs b c p).1] at k
  rw [(tn_crs a b p).2.1]
  exact crs_tr_lt (fwd_vec.mpr ab) (fwd_vec.mpr bc) (fwd_vec.mpr bp) h k
theorem crs_tr_lt2 {u v w : Pt} (fu : fwd u) (fv : fwd v) (fw : fwd w) (h : 0 ≤ crs u v) (k : 0 < crs v w) : 0 < crs u w := by
  rcases Int.lt_or_eq_of_le h with q | q
  · exact crs_tr_lt fu fv fw q (Int.le_of_lt k)
  · have e : crs v u = 0 := by rw [crs_neg, ← q]; rfl
    exact crs_par fv fu e k
theorem over_prev_lt {z a b p : Pt} (za : lt2 z a) (ab : lt2 a b) (pa : lt2 p a) (h : 0 < tn z a b) (k : 0 ≤ tn z a p) : 0 < tn a b p := by
  rw [(tn_crs z a b).2.1] at h
  have k2 : 0 ≤ crs (vec p a) (vec z a) := by
    have : tn z a p = crs (vec p a) (vec z a) := by
      unfold tn crs vec
      grind
    omega
  have t := crs_tr_lt2 (fwd_vec.mpr pa) (fwd_vec.mpr za) (fwd_vec.mpr ab) k2 h
  have : tn a b p = crs (vec p a) (vec a b) := by
    unfold tn crs vec
    grind
  omega
theorem stk_nxc {rows : List Pt} (so : rows.Pairwise lt2) : ∀ e ∈ Edg (stk 1 rows), NxC rows e.2 e.1 := by
  cases rows with
  | nil => intro e h; cases h
  | cons p0 rows =>
    intro e he
    have c := chn_all (least := 1) (by decide) (by decide) rows p0 so
    have lt := edg_lt _ c.srt e he
    have m := edg_mem _ e he
    refine ⟨⟨c.sub _ m.2, c.sub _ m.1, fun z => lt2_irr (z ▸ lt), c.low e he⟩, fun p hp z => ?_⟩
    by_cases pa : p = e.2
    · exact .inl pa
    by_cases pb : p = e.1
    · exact .inr (.inl pb)
    refine .inr (.inr ?_)
    have below : lt2 p e.1 := by
      rcases lt2_tri pb with q | q
      · exact q
      · exfalso
        rcases edg_up c.cvx he with hd | ⟨d, hd, k⟩
        · rcases c.top p hp e.1 hd with w | w
          · exact pb w
          · exact lt2_irr (lt2_tr w q)
        · have := over_next_lt (a := e.2) (b := e.1) (c := d) lt (edg_lt _ c.srt _ hd) q (by omega) (c.low _ hd p hp)
          omega
    have above : lt2 e.2 p := by
      rcases lt2_tri pa with q | q
      · exfalso
        rcases edg_dn c.cvx he with hd | ⟨d, hd, k⟩
        · rcases c.bot p hp e.2 hd with w | w
          · exact pa w
          · exact lt2_irr (lt2_tr w q)
        · have := over_prev_lt (z := d) (a := e.2) (b := e.1) (p := p) (edg_lt _ c.srt _ hd) lt q (by omega) (c.low _ hd p hp)
          omega
      · exact q
    exact .inl ⟨above, below⟩
theorem nxc_ng {rows : List Pt} {a b : Pt} (h : NxC (rows.reverse.map ng) (ng a) (ng b)) : NxC rows a b := by
  have inj : ∀ {x y : Pt}, ng x = ng y → x = y := fun {x y} e => by rw [← ng_ng x, e, ng_ng]
  have mem : ∀ x, ng x ∈ rows.reverse.map ng → x ∈ rows := fun x hx => by
    obtain ⟨y, my, e⟩ := List.mem_map.mp hx
    rw [← inj e]
    exact List.mem_reverse.mp my
  have mem2 : ∀ x ∈ rows, ng x ∈ rows.reverse.map ng := fun x hx => List.mem_map.mpr ⟨x, List.mem_reverse.mpr hx, rfl⟩
  obtain ⟨⟨h1, h2, h3, h4⟩, h5⟩ := h
  refine ⟨⟨mem a h1, mem b h2, fun z => h3 (by rw [z]), fun p hp => ?_⟩, fun p hp z => ?_⟩
  · rw [← tn_ng]
    exact h4 _ (mem2 p hp)
  · rcases h5 (ng p) (mem2 p hp) (by rw [tn_ng]; exact z) with q | q | q
    · exact .inl (inj q)
    · exact .inr (.inl (inj q))
    · refine .inr (.inr ?_)
      rcases q with ⟨q1, q2⟩ | ⟨q1, q2⟩
      · exact .inr ⟨lt2_ng.mp q2, lt2_ng.mp q1⟩
      · exact .inl ⟨lt2_ng.mp q2, lt2_ng.mp q1⟩
theorem stk_nxc_rev {rows : List Pt} (so : rows.Pairwise lt2) : ∀ e ∈ Edg (stk 1 rows.reverse), NxC rows e.2 e.1 := fun e he => by
  refine nxc_ng (stk_nxc (rev_srt so) (ng e.1, ng e.2) ?_)
  rw [stk_ng]
  exact edg_map ng _ e he
/-- the corners as the program tells them, closed -/
theorem ringC {rows : List Pt} {p0 q : Pt} (so : rows.Pairwise lt2) (h0 : rows.head? = some p0) (hq : rows.getLast? = some q) (n2 : p0 ≠ q) :
    ∃ mid, (stk 1 rows).reverse.dropLast ++ (stk 1 rows.reverse).reverse.dropLast = p0 :: mid ∧ p0 ∉ mid ∧ Pr (NxC rows) (p0 :: mid ++ [p0]) := by
  obtain ⟨m, e, hm⟩ := stk_ends (by decide) (by decide) (least := 1) so h0 hq n2
  have so' := rev_srt so
  obtain ⟨m', e', hm'⟩ := stk_ends (by decide) (by decide) (least := 1) so' (p0 := ng q) (q := ng p0) (by rw [List.head?_map, List.head?_reverse, hq]; rfl) (by rw [List.getLast?_map, List.getLast?_reverse, h0]; rfl) (fun z => n2 (by rw [← ng_ng p0, ← ng_ng q, z]))
  have e2 : stk 1 rows.reverse = p0 :: (m'.map ng ++ [q]) := by
    have := congrArg (List.map ng) e'
    rw [← stk_ng, List.map_map, show (ng ∘ ng) = id from funext ng_ng, List.map_id, List.map_cons, List.map_append, List.map_cons, List.map_nil, ng_ng, ng_ng] at this
    exact this
  have k1 := pr_rev (stk_nxc so)
  have k2 := pr_rev (stk_nxc_rev so)
  rw [e] at k1 ⊢
  rw [e2] at k2 ⊢
  have r1 : (q :: (m ++ [p0])).reverse = (p0 :: m.reverse) ++ [q] := by simp
  have r2 : (p0 :: (m'.map ng ++ [q])).reverse = q :: ((m'.map ng).reverse ++ [p0]) := by simp
  rw [r1] at k1 ⊢
  rw [r2] at k2 ⊢
  refine ⟨m.reverse ++ q :: (m'.map ng).reverse, ?_, fun z => ?_, ?_⟩
  · rw [List.dropLast_concat, show q :: ((m'.map ng).reverse ++ [p0]) = (q :: (m'.map ng).reverse) ++ [p0] from rfl, List.dropLast_concat]
    rfl
  · rcases List.mem_append.mp z with z | z
    · exact lt2_irr (hm p0 (List.mem_reverse.mp z)).1
    · rcases List.mem_cons.mp z with z | z
      · exact n2 z
      · obtain ⟨x, hx, ex⟩ := List.mem_map.mp (List.mem_reverse.mp z)
        have := (hm' x hx).2
        rw [← ex, ng_ng] at this
        exact lt2_irr this
  · have := pr_app k1 k2
    simpa using this
/-- just one corner is next -/
theorem nxc_uniq {rows : List Pt} (nr : NoRow rows) {a b c : Pt} (h : NxC rows a b) (k : NxC rows a c) : b = c := by
  refine Classical.byContradiction fun n => ?_
  have l := sup_line h.1 k.1
  have l2 : tn a c b = 0 := by
    have : tn a c b = -tn a b c := by
      unfold tn
      grind
    omega
  rcases h.2 c k.1.2.1 l with e | e | z
  · exact k.1.2.2.1 e.symm
  · exact n e.symm
  · rcases k.2 b h.1.2.1 l2 with e | e | y
    · exact h.1.2.2.1 e.symm
    · exact n e
    · unfold Btw at *
      rcases z with ⟨z1, z2⟩ | ⟨z1, z2⟩ <;> rcases y with ⟨y1, y2⟩ | ⟨y1, y2⟩
      · exact lt2_irr (lt2_tr z2 y2)
      · exact lt2_irr (lt2_tr (lt2_tr z1 z2) y2)
      · exact lt2_irr (lt2_tr (lt2_tr z1 z2) y1)
      · exact lt2_irr (lt2_tr z1 y1)
/-! ### the corners of a ring -/
def dot (u v : Pt) : Int := u.1 * v.1 + u.2 * v.2
structure Dir (u v : Pt) : Prop where
  c : crs u v = 0
  d : 0 < dot u v
theorem dir_pos {u v : Pt} (h : Dir u v) : 0 < dot v v := by
  obtain ⟨u1, u2⟩ := u
  obtain ⟨v1, v2⟩ := v
  have h := h.d
  unfold dot at *
  simp only at *
  have a : 0 ≤ v1 * v1 := by rw [← Int.natAbs_mul_self]; exact Int.natCast_nonneg _
  have b : 0 ≤ v2 * v2 := by rw [← Int.natAbs_mul_self]; exact Int.natCast_nonneg _
  by_cases z : v1 = 0
  · by_cases y : v2 = 0
    · subst z y
      omega
    · have : v2 * v2 ≠ 0 := Int.mul_ne_zero y y
      omega
  · have : v1 * v1 ≠ 0 := Int.mul_ne_zero z z
    omega
theorem Dir.symm {u v : Pt} (h : Dir u v) : Dir v u := ⟨by rw [crs_neg, h.c]; rfl, by
  have := h.d
  unfold dot at *
  rw [Int.mul_comm v.1, Int.mul_comm v.2]
  exact this⟩
theorem Dir.trans {u v w : Pt} (h : Dir u v) (k : Dir v w) : Dir u w := by
  have pos := dir_pos h
  obtain ⟨h1, h2⟩ := h
  obtain ⟨k1, k2⟩ := k
  obtain ⟨u1, u2⟩ := u
  obtain ⟨v1, v2⟩ := v
  obtain ⟨w1, w2⟩ := w
  unfold crs dot at *
  simp only at *
  constructor
  · show u1 * w2 - u2 * w1 = 0
    have e : (u1 * w2 - u2 * w1) * (v1 * v1 + v2 * v2) = (v1 * w1 + v2 * w2) * (u1 * v2 - u2 * v1) + (v1 * w2 - v2 * w1) * (u1 * v1 + u2 * v2) := by grind
    rw [h1, k1, Int.mul_zero, Int.zero_mul, Int.add_zero] at e
    rcases Int.mul_eq_zero.mp e with z | z
    · exact z
    · omega
  · show 0 < u1 * w1 + u2 * w2
    have e : (u1 * w1 + u2 * w2) * (v1 * v1 + v2 * v2) = (u1 * v1 + u2 * v2) * (v1 * w1 + v2 * w2) - (u1 * v2 - u2 * v1) * (v1 * w2 - v2 * w1) := by grind
    rw [h1, Int.zero_mul, Int.sub_zero] at e
    have := Int.mul_pos h2 k2
    exact of_mul_pos (b := v1 * v1 + v2 * v2) (by omega) pos
/-- the sign of what is on a side hangs on the direction alone -/
theorem dir_crs {u v w : Pt} (h : Dir u v) : (0 < crs u w ↔ 0 < crs v w) ∧ (crs u w = 0 ↔ crs v w = 0) ∧ (0 ≤ crs u w ↔ 0 ≤ crs v w) := by
  have pos := dir_pos h.symm
  obtain ⟨h1, h2⟩ := h
  have e : crs v w * dot u u = dot u v * crs u w - crs u v * dot u w := by
    unfold crs dot
    grind
  rw [h1, Int.zero_mul, Int.sub_zero] at e
  generalize crs v w = b at *
  generalize crs u w = a at *
  generalize dot u u = p at *
  generalize dot u v = q at *
  have s1 : 0 < a → 0 < b := fun h => of_mul_pos (b := p) (by rw [e]; exact Int.mul_pos h2 h) pos
  have s2 : a < 0 → b < 0 := fun h => by
    have := Int.mul_neg_of_pos_of_neg h2 h
    rcases ltge b 0 with z | z
    · exact z
    · have := mul_nn z (Int.le_of_lt pos)
      omega
  have s3 : a = 0 → b = 0 := fun h => by
    rw [h, Int.mul_zero] at e
    rcases Int.mul_eq_zero.mp e with z | z
    · exact z
    · omega
  refine ⟨⟨s1, fun h => ?_⟩, ⟨s3, fun h => ?_⟩, ⟨fun h => ?_, fun h => ?_⟩⟩
  · rcases Int.lt_trichotomy a 0 with z | z | z
    · have := s2 z; omega
    · have := s3 z; omega
    · exact z
  · rcases Int.lt_trichotomy a 0 with z | z | z
    · have := s2 z; omega
    · exact z
    · have := s1 z; omega
  · rcases Int.lt_trichotomy a 0 with z | z | z
    · omega
    · have := s3 z; omega
    · have := s1 z; omega
  · rcases Int.lt_trichotomy a 0 with z | z | z
    · have := s2 z; omega
    · omega
    · omega
theorem dir_fwd {u v : Pt} (fu : fwd u) (fv : fwd v) (h : crs u v = 0) : Dir u v := by
  refine ⟨h, ?_⟩
  obtain ⟨u1, u2⟩ := u
  obtain ⟨v1, v2⟩ := v
  unfold crs fwd dot at *
  simp only at *
  rcases fu with u0 | ⟨u0, u3⟩
  · have v0 : 0 < v1 := by
      rcases fv with z | ⟨z, y⟩
      · exact z
      · subst z
        have := Int.mul_pos u0 y
        omega
    have e : (u1 * v1 + u2 * v2) * u1 = v1 * (u1 * u1) + v1 * (u2 * u2) := by grind
    have a : 0 ≤ u2 * u2 := by rw [← Int.natAbs_mul_self]; exact Int.natCast_nonneg _
    have b := Int.mul_pos u0 u0
    have := Int.mul_pos v0 b
    have := mul_nn (Int.le_of_lt v0) a
    exact of_mul_pos (b := u1) (by omega) u0
  · subst u0
    have v0 : v1 = 0 := by
      have : u2 * v1 = 0 := by omega
      rcases Int.mul_eq_zero.mp this with z | z
      · omega
      · exact z
    subst v0
    have := Int.mul_pos u3 (show 0 < v2 by omega)
    omega
theorem dir_neg {u v : Pt} (h : Dir (ng u) (ng v)) : Dir u v := by
  obtain ⟨h1, h2⟩ := h
  unfold crs dot ng at *
  simp only at *
  constructor
  · unfold crs; grind
  · unfold dot; grind
/-- b between a and c on a line: the same way on -/
theorem btw_dir {a b c : Pt} (l : tn a b c = 0) (h : Btw a b c) : Dir (vec a b) (vec b c) := by
  have l2 : crs (vec a b) (vec b c) = 0 := by rw [← (tn_crs a b c).2.1]; exact l
  rcases h with ⟨h1, h2⟩ | ⟨h1, h2⟩
  · exact dir_fwd (fwd_vec.mpr h1) (fwd_vec.mpr h2) l2
  · refine dir_neg ?_
    have e1 : ng (vec a b) = vec b a := by unfold ng vec; exact Prod.ext (by simp only; omega) (by simp only; omega)
    have e2 : ng (vec b c) = vec c b := by unfold ng vec; exact Prod.ext (by simp only; omega) (by simp only; omega)
    rw [e1, e2]
    refine dir_fwd (fwd_vec.mpr h2) (fwd_vec.mpr h1) ?_
    unfold crs vec at *
    simp only at *
    grind
theorem dir_add {u v : Pt} (h : Dir u v) : Dir (u.1 + v.1, u.2 + v.2) v := by
  have pos := dir_pos h
  obtain ⟨h1, h2⟩ := h
  unfold crs dot at *
  constructor
  · unfold crs
    simp only
    grind
  · unfold dot
    simp only
    grind
/-- the same way: both forward or both back -/
theorem dir_lt {a x y : Pt} (h : Dir (vec a x) (vec a y)) : (lt2 a x → lt2 a y) ∧ (lt2 x a → lt2 y a) := by
  obtain ⟨h1, h2⟩ := h
  obtain ⟨a1, a2⟩ := a
  obtain ⟨x1, x2⟩ := x
  obtain ⟨y1, y2⟩ := y
  unfold crs dot vec lt2 at *
  simp only at *
  generalize hu : x1 - a1 = u at *
  generalize hv : x2 - a2 = v at *
  generalize hw : y1 - a1 = w at *
  generalize hz : y2 - a2 = z at *
  have key1 : (0 < u ∨ (u = 0 ∧ 0 < v)) → (0 < w ∨ (w = 0 ∧ 0 < z)) := fun k => by
    rcases k with k | ⟨k, m⟩
    · have e : (u * w + v * z) * u = w * (u * u + v * v) := by grind
      have p1 := Int.mul_pos h2 k
      have p2 : 0 < u * u + v * v := by
        have := Int.mul_pos k k
        have : 0 ≤ v * v := by rw [← Int.natAbs_mul_self]; exact Int.natCast_nonneg _
        omega
      exact .inl (of_mul_pos (b := u * u + v * v) (by omega) p2)
    · subst k
      have w0 : w = 0 := by
        have : v * w = 0 := by omega
        rcases Int.mul_eq_zero.mp this with q | q
        · omega
        · exact q
      subst w0
      exact .inr ⟨rfl, of_mul_pos (a := z) (b := v) (by rw [Int.mul_comm]; omega) m⟩
  have key2 : (u < 0 ∨ (u = 0 ∧ v < 0)) → (w < 0 ∨ (w = 0 ∧ z < 0)) := fun k => by
    rcases k with k | ⟨k, m⟩
    · have e : (u * w + v * z) * -u = -w * (u * u + v * v) := by grind
      have p1 := Int.mul_pos h2 (show 0 < -u by omega)
      have p2 : 0 < u * u + v * v := by
        have := Int.mul_pos_of_neg_of_neg k k
        have : 0 ≤ v * v := by rw [← Int.natAbs_mul_self]; exact Int.natCast_nonneg _
        omega
      have := of_mul_pos (a := -w) (b := u * u + v * v) (by omega) p2
      omega
    · subst k
      have w0 : w = 0 := by
        have : v * w = 0 := by omega
        rcases Int.mul_eq_zero.mp this with q | q
        · omega
        · exact q
      subst w0
      have := of_mul_pos (a := -z) (b := -v) (by grind) (by omega)
      omega
  exact ⟨fun k => by have := key1 (by omega); omega, fun k => by have := key2 (by omega); omega⟩
/-- those of a way at which it turns -/
def flt : Pt → List Pt → List Pt
  | prev, x :: y :: r => if tn prev x y ≠ 0 then x :: flt x (y :: r) else flt x (y :: r)
  | _, _ => []
structure OnC (rows : List Pt) (a prev x : Pt) : Prop where
  n : Nxt rows prev x
  s : Sup rows a x
  d : Dir (vec a x) (vec prev x)
  b : ∀ p ∈ rows, tn a x p = 0 → ¬ Btw p a x
theorem dir_self {a b : Pt} (h : a ≠ b) : Dir (vec a b) (vec a b) := by
  rcases lt2_tri h with z | z
  · exact dir_fwd (fwd_vec.mpr z) (fwd_vec.mpr z) (by unfold crs; grind)
  · refine dir_neg ?_
    have e1 : ng (vec a b) = vec b a := by unfold ng vec; exact Prod.ext (by simp only; omega) (by simp only; omega)
    rw [e1]
    exact dir_fwd (fwd_vec.mpr z) (fwd_vec.mpr z) (by unfold crs; grind)
theorem nxt_back {rows : List Pt} (nr : NoRow rows) {a b : Pt} (h : Sup rows a b) (k : Sup rows b a) : False := by
  obtain ⟨p, hp, np⟩ := nr a h.1 b h.2.1 h.2.2.1
  have h1 := h.2.2.2 p hp
  have h2 := k.2.2.2 p hp
  rw [tn_swap] at h2
  omega
/-- x is a corner -/
theorem onc_turn {rows : List Pt} {a prev x y : Pt} (h : OnC rows a prev x) (k : Nxt rows x y) (t : tn prev x y ≠ 0) : NxC rows a x ∧ OnC rows x x y := by
  have pos : 0 < crs (vec prev x) (vec x y) := by
    rw [← (tn_crs prev x y).2.1]
    have := h.n.1.2.2.2 y k.1.2.1
    omega
  refine ⟨⟨h.s, fun p hp z => ?_⟩, k, k.1, dir_self k.1.2.2.1, fun p hp z q => ?_⟩
  · by_cases pa : p = a
    · exact .inl pa
    by_cases px : p = x
    · exact .inr (.inl px)
    refine .inr (.inr ?_)
    rcases btw_cases h.s.2.2.1 (Ne.symm pa) (Ne.symm px) with w | w | w
    · exact absurd (show Btw p a x from by
        rcases w with ⟨w1, w2⟩ | ⟨w1, w2⟩
        · exact .inr ⟨w1, w2⟩
        · exact .inl ⟨w1, w2⟩) (h.b p hp z)
    · exfalso
      have d1 := btw_dir z w
      have d2 : Dir (vec prev x) (vec x p) := h.d.symm.trans d1
      have c := (dir_crs (w := vec x y) d2).1.mp pos
      have e : crs (vec x p) (vec x y) = -tn x y p := by
        unfold crs vec tn
        grind
      have := k.1.2.2.2 p hp
      omega
    · exact w
  · have z2 : tn p x y = 0 := by rw [tn_rot]; exact z
    have d1 := btw_dir z2 q
    have c := (dir_crs (w := vec prev x) d1.symm).2.2
    have e1 : crs (vec x y) (vec prev x) = -crs (vec prev x) (vec x y) := crs_neg _ _
    have e2 : crs (vec p x) (vec prev x) = tn prev x p := by
      unfold crs vec tn
      grind
    have := h.n.1.2.2.2 p hp
    have := c.mpr (by omega)
    omega
/-- x is none -/
theorem onc_on {rows : List Pt} (nr : NoRow rows) {a prev x y : Pt} (h : OnC rows a prev x) (k : Nxt rows x y) (t : tn prev x y = 0) : OnC rows a x y := by
  have ny : prev ≠ y := fun z => nxt_back nr h.n.1 (z ▸ k.1)
  have bt : Btw prev x y := by
    rcases btw_cases h.n.1.2.2.1 ny k.1.2.2.1 with w | w | w
    · exfalso
      refine k.2 prev h.n.1.1 ?_ ?_
      · rw [← tn_rot]; exact t
      · exact w
    · exact w
    · exact absurd w (h.n.2 y k.1.2.1 t)
  have d1 := btw_dir t bt
  have d2 : Dir (vec a x) (vec x y) := h.d.trans d1
  have d3 : Dir (vec a y) (vec x y) := by
    have := dir_add d2
    have e : ((vec a x).1 + (vec x y).1, (vec a x).2 + (vec x y).2) = vec a y := by
      unfold vec
      exact Prod.ext (by simp only; omega) (by simp only; omega)
    rwa [e] at this
  have d4 : Dir (vec a x) (vec a y) := d2.trans d3.symm
  refine ⟨k, ⟨h.s.1, k.1.2.1, fun z => ?_, fun p hp => ?_⟩, d3, fun p hp z q => h.b p hp ?_ ?_⟩
  · have := d3.d
    rw [← z] at this
    unfold dot vec at this
    simp at this
  · rw [(tn_crs a y p).1]
    refine (dir_crs d4).2.2.mp ?_
    rw [← (tn_crs a x p).1]
    exact h.s.2.2.2 p hp
  · rw [(tn_crs a x p).1]
    refine (dir_crs d4).2.1.mpr ?_
    rw [← (tn_crs a y p).1]
    exact z
  · have f := dir_lt d4.symm
    rcases q with ⟨q1, q2⟩ | ⟨q1, q2⟩
    · exact .inl ⟨q1, f.1 q2⟩
    · exact .inr ⟨f.2 q1, q2⟩
theorem flt_pr {rows : List Pt} (nr : NoRow rows) : ∀ (r : List Pt) (a prev x : Pt), OnC rows a prev x → Pr (Nxt rows) (x :: r) → Pr (NxC rows) (a :: flt prev (x :: r))
  | [], _, _, _, _, _ => True.intro
  | y :: r, a, prev, x, h, k => by
    rw [flt]
    by_cases t : tn prev x y = 0
    · rw [if_neg (fun z => z t)]
      exact flt_pr nr r a x y (onc_on nr h k.1 t) k.2
    · rw [if_pos t]
      obtain ⟨h1, h2⟩ := onc_turn h k.1 t
      exact ⟨h1, flt_pr nr r x x y h2 k.2⟩
theorem flt_sub : ∀ (l : List Pt) (prev e : Pt), ∀ x ∈ flt prev (l ++ [e]), x ∈ l
  | [], _, _, _, h => nomatch h
  | [y], prev, e, x, h => by
    rw [List.singleton_append, flt] at h
    split at h
    · rcases List.mem_cons.mp h with rfl | h
      · exact List.mem_cons_self
      · cases h
    · cases h
  | y :: z :: l, prev, e, x, h => by
    have h : x ∈ flt prev (y :: z :: (l ++ [e])) := h
    rw [flt] at h
    split at h
    · rcases List.mem_cons.mp h with rfl | h
      · exact List.mem_cons_self
      · exact List.mem_cons_of_mem _ (flt_sub (z :: l) y e x h)
    · exact List.mem_cons_of_mem _ (flt_sub (z :: l) y e x h)
/-- the end's own turn -/
theorem flt_last {e f : Pt} : ∀ (l : List Pt) (prev : Pt), (∀ last, (prev :: l).getLast? = some last → tn last e f ≠ 0) → flt prev (l ++ [e, f]) = flt prev (l ++ [e]) ++ [e]
  | [], prev, h => by
    rw [List.nil_append, List.nil_append, flt, if_pos (h prev rfl)]
    rfl
  | [y], prev, h => by
    have i := flt_last (e := e) (f := f) [] y fun last hl => h last (by rw [← hl]; rfl)
    show flt prev (y :: e :: [f]) = flt prev (y :: [e]) ++ [e]
    have u1 : flt prev (y :: e :: [f]) = if tn prev y e ≠ 0 then y :: flt y [e, f] else flt y [e, f] := by rw [flt]
    have u2 : flt prev (y :: [e]) = if tn prev y e ≠ 0 then y :: flt y [e] else flt y [e] := by rw [flt]
    rw [u1, u2]
    split
    · rw [show flt y (e :: [f]) = flt y [e] ++ [e] from i]
      rfl
    · exact i
  | y :: z :: l, prev, h => by
    have i := flt_last (e := e) (f := f) (z :: l) y fun last hl => h last (by rw [← hl]; rfl)
    show flt prev (y :: z :: (l ++ [e, f])) = flt prev (y :: z :: (l ++ [e])) ++ [e]
    have u1 : flt prev (y :: z :: (l ++ [e, f])) = if tn prev y z ≠ 0 then y :: flt y (z :: (l ++ [e, f])) else flt y (z :: (l ++ [e, f])) := by rw [flt]
    have u2 : flt prev (y :: z :: (l ++ [e])) = if tn prev y z ≠ 0 then y :: flt y (z :: (l ++ [e])) else flt y (z :: (l ++ [e])) := by rw [flt]
    rw [u1, u2]
    split
    · rw [show flt y (z :: (l ++ [e, f])) = flt y (z :: (l ++ [e])) ++ [e] from i]
      rfl
    · exact i
/-! ### corners and double areas -/
theorem nxt_btw {rows : List Pt} (nr : NoRow rows) {prev x y : Pt} (h : Nxt rows prev x) (k : Nxt rows x y) (t : tn prev x y = 0) : Btw prev x y := by
  have ny : prev ≠ y := fun z => nxt_back nr h.1 (z ▸ k.1)
  rcases btw_cases h.1.2.2.1 ny k.1.2.2.1 with w | w | w
  · exfalso
    refine k.2 prev h.1.1 ?_ ?_
    · rw [← tn_rot]; exact t
    · exact w
  · exact w
  · exact absurd w (h.2 y k.1.2.1 t)
theorem pr_end {R : Pt → Pt → Prop} {e : Pt} : ∀ (l : List Pt) {x : Pt}, (l.getLast? = some x) → Pr R (l ++ [e]) → R x e
  | [], _, h, _ => nomatch h
  | [a], x, h, k => by
    obtain rfl := Option.some.inj h
    exact k.1
  | a :: b :: l, x, h, k => pr_end (b :: l) h k.2
/-- what is told of a ring: the corners -/
theorem corners_is {rows : List Pt} (nr : NoRow rows) {p0 q : Pt} (so : rows.Pairwise lt2) (h0 : rows.head? = some p0) (hq : rows.getLast? = some q) (n2 : p0 ≠ q) {mid : List Pt} (n0 : p0 ∉ mid) (k : Pr (Nxt rows) (p0 :: mid ++ [p0])) {last : Pt} (hl : (p0 :: mid).getLast? = some last) :
    flt last (p0 :: mid ++ [p0]) = (stk 1 rows).reverse.dropLast ++ (stk 1 rows.reverse).reverse.dropLast ∧ ∃ p1 m1, mid = p1 :: m1 ∧ OnC rows p0 p0 p1 ∧ Pr (Nxt rows) (p1 :: (m1 ++ [p0, p1])) ∧ tn last p0 p1 ≠ 0 := by
  obtain ⟨mc, e1, e2, e3⟩ := ringC so h0 hq n2
  cases mid with
  | nil => exact absurd rfl k.1.1.2.2.1
  | cons p1 m1 =>
    have kl := pr_end (p0 :: p1 :: m1) hl k
    have first : ∀ p ∈ rows, ¬ lt2 p p0 := fun p hp z => by
      cases rows with
      | nil => cases h0
      | cons r0 rows =>
        obtain rfl := Option.some.inj h0
        rcases List.mem_cons.mp hp with e | m
        · exact lt2_irr (e ▸ z)
        · exact lt2_irr (lt2_tr z ((List.pairwise_cons.mp so).1 p m))
    have turn : tn last p0 p1 ≠ 0 := fun t => by
      rcases nxt_btw nr kl k.1 t with ⟨z, _⟩ | ⟨z, _⟩
      · exact first _ kl.1.1 z
      · exact first _ k.1.1.2.1 z
    have oc : OnC rows p0 p0 p1 := ⟨k.1, k.1.1, dir_self k.1.1.2.2.1, fun p hp _ z => by
      rcases z with ⟨z, _⟩ | ⟨z, _⟩
      · exact first p hp z
      · exact first p1 k.1.1.2.1 z⟩
    have long : Pr (Nxt rows) ((p1 :: m1) ++ p0 :: [p1]) := pr_app (l := p1 :: m1) k.2 ⟨k.1, True.intro⟩
    have c := flt_pr nr (m1 ++ [p0, p1]) p0 p0 p1 oc long
    have fl : flt p0 (p1 :: (m1 ++ [p0, p1])) = flt p0 ((p1 :: m1) ++ [p0]) ++ [p0] := flt_last (p1 :: m1) p0 fun x hx => by
      rw [hl] at hx
      rw [← Option.some.inj hx]
      exact turn
    rw [fl] at c
    have n3 : p0 ∉ flt p0 ((p1 :: m1) ++ [p0]) := fun z => n0 (flt_sub _ _ _ _ z)
    have d := ring_det (R := NxC rows) (fun _ _ _ => nxc_uniq nr) _ mc p0 c e3 n3 e2
    have u : flt last (p0 :: (p1 :: m1) ++ [p0]) = p0 :: flt p0 ((p1 :: m1) ++ [p0]) := by
      show flt last (p0 :: p1 :: (m1 ++ [p0])) = p0 :: flt p0 (p1 :: (m1 ++ [p0]))
      rw [flt, if_pos turn]
    exact ⟨by rw [u, d, e1], p1, m1, rfl, oc, long, turn⟩
/-- the sum along a way -/
def shoe : List Pt → Int
  | a :: b :: r => crs a b + shoe (b :: r)
  | _ => 0
theorem tn_shoe (a b c : Pt) : tn a b c = crs a b + crs b c - crs a c := by
  unfold tn crs
  grind
theorem shoe_flt {rows : List Pt} (nr : NoRow rows) : ∀ (r : List Pt) (a prev x e : Pt), OnC rows a prev x → Pr (Nxt rows) (x :: r) → (x :: r).getLast? = some e → shoe (a :: (flt prev (x :: r) ++ [e])) = crs a x + shoe (x :: r)
  | [], a, prev, x, e, _, _, h => by
    obtain rfl := Option.some.inj h
    rfl
  | y :: r, a, prev, x, e, h, k, hl => by
    have hl2 : (y :: r).getLast? = some e := hl
    rw [flt]
    by_cases t : tn prev x y = 0
    · rw [if_neg (fun z => z t), shoe_flt nr r a x y e (onc_on nr h k.1 t) k.2 hl2]
      have bt := nxt_btw nr h.n k.1 t
      have d2 : Dir (vec a x) (vec x y) := h.d.trans (btw_dir t bt)
      have z : tn a x y = 0 := by rw [(tn_crs a x y).2.1]; exact d2.c
      rw [tn_shoe] at z
      show _ = crs a x + (crs x y + shoe (y :: r))
      omega
    · rw [if_pos t]
      obtain ⟨_, h2⟩ := onc_turn h k.1 t
      have i := shoe_flt nr r x x y e h2 k.2 hl2
      show crs a x + shoe (x :: (flt x (y :: r) ++ [e])) = crs a x + (crs x y + shoe (y :: r))
      rw [i]
/-- a fan from the first corner -/
def fan (f : Pt) : List Pt → Int
  | a :: b :: r => tn f a b + fan f (b :: r)
  | _ => 0
theorem fan_shoe (f : Pt) : ∀ (l : List Pt) (a z : Pt), (a :: l).getLast? = some z → fan f (a :: l) = crs f a + shoe (a :: l) - crs f z
  | [], a, z, h => by
    obtain rfl := Option.some.inj h
    show 0 = crs f a + 0 - crs f a
    omega
  | b :: l, a, z, h => by
    have h : (b :: l).getLast? = some z := h
    have i := fan_shoe f l b z h
    show tn f a b + fan f (b :: l) = crs f a + (crs a b + shoe (b :: l)) - crs f z
    rw [i, tn_shoe]
    omega
theorem shoe_snoc {e : Pt} : ∀ (l : List Pt) (a z : Pt), (a :: l).getLast? = some z → shoe (a :: (l ++ [e])) = shoe (a :: l) + crs z e
  | [], a, z, h => by
    obtain rfl := Option.some.inj h
    show crs a e + 0 = 0 + crs a e
    omega
  | b :: l, a, z, h => by
    have h : (b :: l).getLast? = some z := h
    have i := shoe_snoc (e := e) l b z h
    show crs a b + shoe (b :: (l ++ [e])) = crs a b + shoe (b :: l) + crs z e
    rw [i]
    omega
/-- a closed way's sum is that of its fan -/
theorem fan_closed (f : Pt) (l : List Pt) : fan f (f :: l) = shoe (f :: (l ++ [f])) := by
  obtain ⟨z, hz⟩ : ∃ z, (f :: l).getLast? = some z := ⟨_, List.getLast?_eq_some_getLast (by simp)⟩
  rw [fan_shoe f l f z hz, shoe_snoc l f z hz, crs_neg z f]
  have : crs f f = 0 := by
    unfold crs
    grind
  omega
/-! ### chains for any sign of a turn, over a part of the sites -/
abbrev Sgt := Pt → Pt → Pt → Int
/-- what a sign of turns must keep -/
structure Ax (T : Sgt) : Prop where
  over_next : ∀ {a b c d : Pt}, lt2 a b → lt2 b c → lt2 c d → 0 ≤ T a b c → 0 ≤ T b c d → 0 ≤ T a b d
  over_fore : ∀ {a b s p : Pt}, lt2 a b → lt2 a s → lt2 a p → T a b s ≤ 0 → 0 ≤ T a b p → 0 ≤ T a s p
  over_back : ∀ {c a s p : Pt}, lt2 c a → lt2 a s → lt2 p a → 0 ≤ T c a s → 0 ≤ T c a p → 0 ≤ T a s p
  over_fore_lt : ∀ {a b s p : Pt}, lt2 a b → lt2 a s → lt2 a p → T a b s < 0 → 0 ≤ T a b p → 0 < T a s p
  over_next_lt : ∀ {a b c p : Pt}, lt2 a b → lt2 b c → lt2 b p → 0 < T a b c → 0 ≤ T b c p → 0 < T a b p
  over_prev_lt : ∀ {z a b p : Pt}, lt2 z a → lt2 a b → lt2 p a → 0 < T z a b → 0 ≤ T z a p → 0 < T a b p
  tn_end : ∀ (a b : Pt), T a b a = 0 ∧ T a b b = 0
  up : ∀ {a b p0 q p : Pt}, lt2 a b → lt2 p0 p → lt2 p q → 0 < T p0 q p → 0 ≤ T a b p0 → 0 ≤ T a b q → 0 < T a b p
def popFG (T : Sgt) (least : Int) (s : Pt) : List Pt → List Pt
  | b :: a :: r => if T a b s < least then popFG T least s (a :: r) else b :: a :: r
  | l => l
def pushFG (T : Sgt) (least : Int) (st : List Pt) (s : Pt) : List Pt := s :: popFG T least s st
def CvxG (T : Sgt) (least : Int) : List Pt → Prop
  | c :: b :: a :: r => least ≤ T a b c ∧ CvxG T least (b :: a :: r)
  | _ => True
structure ChnG (T : Sgt) (least : Int) (P st : List Pt) : Prop where
  cvx : CvxG T least st
  srt : st.Pairwise fun x y => lt2 y x
  sub : ∀ x ∈ st, x ∈ P
  top : ∀ p ∈ P, ∀ x, st.head? = some x → p = x ∨ lt2 p x
  bot : ∀ p ∈ P, ∀ x, st.getLast? = some x → p = x ∨ lt2 x p
  low : ∀ e ∈ Edg st, ∀ p ∈ P, 0 ≤ T e.2 e.1 p
theorem edg_overG {T : Sgt} (ax : Ax T) {least : Int} (l0 : 0 ≤ least) {s : Pt} : ∀ (r : List Pt) (b a : Pt), CvxG T least (b :: a :: r) → (b :: a :: r).Pairwise (fun x y => lt2 y x) → lt2 b s → 0 ≤ T a b s → ∀ e ∈ Edg (b :: a :: r), 0 ≤ T e.2 e.1 s
  | [], b, a, _, _, _, h, e, he => by
    have : e = (b, a) := by simpa [Edg] using he
    rw [this]
    exact h
  | z :: r, b, a, cv, so, bs, h, e, he => by
    rcases List.mem_cons.mp (show e ∈ (b, a) :: Edg (a :: z :: r) from he) with rfl | he
    · exact h
    · have ab : lt2 a b := (List.pairwise_cons.mp so).1 a List.mem_cons_self
      have so2 := (List.pairwise_cons.mp so).2
      have za : lt2 z a := (List.pairwise_cons.mp so2).1 z List.mem_cons_self
      exact edg_overG ax l0 r a z cv.2 so2 (lt2_tr ab bs) (ax.over_next za ab bs (Int.le_trans l0 cv.1) h) e he
theorem chn_pushG {T : Sgt} (ax : Ax T) {least : Int} (l0 : 0 ≤ least) (l1 : least ≤ 1) {P : List Pt} {s : Pt} (hs : ∀ p ∈ P, lt2 p s) : ∀ (st : List Pt), st ≠ [] → CvxG T least st → st.Pairwise (fun x y => lt2 y x) → (∀ x ∈ st, x ∈ P) → (∀ p ∈ P, ∀ x, st.getLast? = some x → p = x ∨ lt2 x p) → (∀ e ∈ Edg st, ∀ p ∈ P, 0 ≤ T e.2 e.1 p) →
    (∀ p ∈ P, ∀ b, st.head? = some b → lt2 b p → 0 ≤ T b s p) → ChnG T least (P ++ [s]) (pushFG T least st s)
  | [], h, _, _, _, _, _, _ => absurd rfl h
  | [b], _, _, _, sub, bot, _, cover => by
    have bP := sub b List.mem_cons_self
    refine ⟨True.intro, ?_, ?_, ?_, ?_, ?_⟩
    · exact List.pairwise_cons.mpr ⟨fun x hx => by rw [List.mem_singleton.mp hx]; exact hs b bP, List.pairwise_singleton _ _⟩
    · intro x hx
      rcases List.mem_cons.mp hx with rfl | hx
      · exact List.mem_append_right _ (List.mem_singleton.mpr rfl)
      · exact List.mem_append_left _ (sub x hx)
    · intro p hp x hx
      obtain rfl : s = x := Option.some.inj hx
      rcases List.mem_append.mp hp with m | m
      · exact .inr (hs p m)
      · exact .inl (List.mem_singleton.mp m)
    · intro p hp x hx
      obtain rfl : b = x := Option.some.inj hx
      rcases List.mem_append.mp hp with m | m
      · exact bot p m b rfl
      · rw [List.mem_singleton.mp m]
        exact .inr (hs b bP)
    · intro e he p hp
      have : e = (s, b) := by simpa [Edg, pushFG, popFG] using he
      subst this
      rcases List.mem_append.mp hp with m | m
      · rcases bot p m b rfl with rfl | q
        · rw [(ax.tn_end p s).1]
          exact Int.le_refl _
        · exact cover p m b rfl q
      · rw [List.mem_singleton.mp m, (ax.tn_end b s).2]
        exact Int.le_refl _
  | b :: a :: r, _, cv, so, sub, bot, low, cover => by
    have so2 := (List.pairwise_cons.mp so).2
    have ab : lt2 a b := (List.pairwise_cons.mp so).1 a List.mem_cons_self
    have bP := sub b List.mem_cons_self
    have aP := sub a (List.mem_cons_of_mem _ List.mem_cons_self)
    by_cases c : T a b s < least
    · have e : pushFG T least (b :: a :: r) s = pushFG T least (a :: r) s := by
        unfold pushFG
        rw [popFG, if_pos c]
      rw [e]
      refine chn_pushG ax l0 l1 hs (a :: r) (by simp) ?_ so2 (fun x hx => sub x (List.mem_cons_of_mem _ hx)) (fun p hp x hx => bot p hp x ?_) (fun e he => low e ?_) (fun p hp x hx q => ?_)
      · cases r with
        | nil => exact True.intro
        | cons z r => exact cv.2
      · exact hx
      · exact List.mem_cons_of_mem _ he
      · obtain rfl : a = x := Option.some.inj hx
        exact ax.over_fore ab (hs a aP) q (by omega) (low (b, a) List.mem_cons_self p hp)
    · have e : pushFG T least (b :: a :: r) s = s :: b :: a :: r := by
        unfold pushFG
        rw [popFG, if_neg c]
      rw [e]
      have pos : 0 ≤ T a b s := by omega
      refine ⟨⟨by omega, cv⟩, ?_, ?_, ?_, ?_, ?_⟩
      · exact List.pairwise_cons.mpr ⟨fun x hx => hs x (sub x hx), so⟩
      · intro x hx
        rcases List.mem_cons.mp hx with rfl | hx
        · exact List.mem_append_right _ (List.mem_singleton.mpr rfl)
        · exact List.mem_append_left _ (sub x hx)
      · intro p hp x hx
        obtain rfl : s = x := Option.some.inj hx
        rcases List.mem_append.mp hp with m | m
        · exact .inr (hs p m)
        · exact .inl (List.mem_singleton.mp m)
      · intro p hp x hx
        have hx : (b :: a :: r).getLast? = some x := hx
        rcases List.mem_append.mp hp with m | m
        · exact bot p m x hx
        · rw [List.mem_singleton.mp m]
          exact .inr (hs x (sub x (List.mem_of_getLast? hx)))
      · intro e he p hp
        rcases List.mem_append.mp hp with m | m
        · rcases List.mem_cons.mp (show e ∈ (s, b) :: Edg (b :: a :: r) from he) with rfl | he
          · by_cases q : p = b
            · rw [q, (ax.tn_end b s).1]
              exact Int.le_refl _
            · rcases lt2_tri q with z | z
              · exact ax.over_back ab (hs b bP) z pos (low (b, a) List.mem_cons_self p m)
              · exact cover p m b rfl z
          · exact low e he p m
        · rw [List.mem_singleton.mp m]
          rcases List.mem_cons.mp (show e ∈ (s, b) :: Edg (b :: a :: r) from he) with rfl | he
          · rw [(ax.tn_end b s).2]
            exact Int.le_refl _
          · exact edg_overG ax l0 r b a cv so (hs b bP) pos e he
theorem chn_allG {T : Sgt} (ax : Ax T) {least : Int} (l0 : 0 ≤ least) (l1 : least ≤ 1) : ∀ (rows : List Pt) (p0 : Pt), (p0 :: rows).Pairwise lt2 → ChnG T least (p0 :: rows) (rows.foldl (pushFG T least) [p0]) := by
  have go : ∀ (rows P st : List Pt), st ≠ [] → ChnG T least P st → (P ++ rows).Pairwise lt2 → ChnG T least (P ++ rows) (rows.foldl (pushFG T least) st) := by
    intro rows
    induction rows with
    | nil => intro P st _ h _; rw [List.append_nil]; exact h
    | cons s rows ih =>
      intro P st ne h so
      have e : P ++ s :: rows = (P ++ [s]) ++ rows := by rw [List.append_assoc]; rfl
      rw [e] at so ⊢
      have hs : ∀ p ∈ P, lt2 p s := fun p hp => (List.pairwise_append.mp (List.pairwise_append.mp so).1).2.2 p hp s (List.mem_singleton.mpr rfl)
      refine ih _ _ (by unfold pushFG; simp) (chn_pushG ax l0 l1 hs st ne h.cvx h.srt h.sub h.bot h.low fun p hp b hb q => ?_) so
      rcases h.top p hp b hb with rfl | z
      · exact absurd q lt2_irr
      · exact absurd (lt2_tr q z) lt2_irr
  intro rows p0 so
  refine go rows [p0] [p0] (by simp) ⟨True.intro, List.pairwise_singleton _ _, fun x hx => hx, fun p hp x hx => ?_, fun p hp x hx => ?_, fun e he => ?_⟩ so
  · rw [List.mem_singleton.mp hp]
    exact .inl (Option.some.inj hx)
  · rw [List.mem_singleton.mp hp]
    exact .inl (Option.some.inj hx)
  · cases he
def OffG (T : Sgt) (P : List Pt) (st : List Pt) : Prop := ∀ e ∈ Edg st, ∀ p ∈ P, lt2 e.2 p → lt2 p e.1 → 0 < T e.2 e.1 p
theorem off_pushG {T : Sgt} (ax : Ax T) {P : List Pt} {s : Pt} (hs : ∀ p ∈ P, lt2 p s) : ∀ (st : List Pt), st ≠ [] → st.Pairwise (fun x y => lt2 y x) → (∀ x ∈ st, x ∈ P) → (∀ e ∈ Edg st, ∀ p ∈ P, 0 ≤ T e.2 e.1 p) → OffG T P st →
    (∀ p ∈ P, ∀ b, st.head? = some b → lt2 b p → 0 < T b s p) → OffG T (P ++ [s]) (pushFG T 0 st s)
  | [], h, _, _, _, _, _ => absurd rfl h
  | [b], _, _, _, _, _, cover => by
    intro e he p hp h1 h2
    have : e = (s, b) := by simpa [Edg, pushFG, popFG] using he
    subst this
    rcases List.mem_append.mp hp with m | m
    · exact cover p m b rfl h1
    · rw [List.mem_singleton.mp m] at h2
      exact absurd h2 lt2_irr
  | b :: a :: r, _, so, sub, low, off, cover => by
    have so2 := (List.pairwise_cons.mp so).2
    have ab : lt2 a b := (List.pairwise_cons.mp so).1 a List.mem_cons_self
    have aP := sub a (List.mem_cons_of_mem _ List.mem_cons_self)
    have bP := sub b List.mem_cons_self
    by_cases c : T a b s < 0
    · have e : pushFG T 0 (b :: a :: r) s = pushFG T 0 (a :: r) s := by
        unfold pushFG
        rw [popFG, if_pos c]
      rw [e]
      refine off_pushG ax hs (a :: r) (by simp) so2 (fun x hx => sub x (List.mem_cons_of_mem _ hx)) (fun e he => low e (List.mem_cons_of_mem _ he)) (fun e he => off e (List.mem_cons_of_mem _ he)) (fun p hp x hx q => ?_)
      obtain rfl : a = x := Option.some.inj hx
      exact ax.over_fore_lt ab (hs a aP) q c (low (b, a) List.mem_cons_self p hp)
    · have e : pushFG T 0 (b :: a :: r) s = s :: b :: a :: r := by
        unfold pushFG
        rw [popFG, if_neg c]
      rw [e]
      intro e he p hp h1 h2
      rcases List.mem_cons.mp (show e ∈ (s, b) :: Edg (b :: a :: r) from he) with rfl | he
      · rcases List.mem_append.mp hp with m | m
        · exact cover p m b rfl h1
        · rw [List.mem_singleton.mp m] at h2
          exact absurd h2 lt2_irr
      · rcases List.mem_append.mp hp with m | m
        · exact off e he p m h1 h2
        · -- s lies behind all edges
          have mem : ∀ (l : List Pt) (e : Pt × Pt), e ∈ Edg l → e.1 ∈ l := by
            intro l
            induction l with
            | nil => intro e h; cases h
            | cons x l ih =>
              intro e h
              cases l with
              | nil => cases h
              | cons y l =>
                rcases List.mem_cons.mp (show e ∈ (x, y) :: Edg (y :: l) from h) with rfl | h
                · exact List.mem_cons_self
                · exact List.mem_cons_of_mem _ (ih e h)
          rw [List.mem_singleton.mp m] at h2
          exact absurd (lt2_tr h2 (hs e.1 (sub e.1 (mem _ e he)))) lt2_irr
theorem off_allG {T : Sgt} (ax : Ax T) : ∀ (rows : List Pt) (p0 : Pt), (p0 :: rows).Pairwise lt2 → OffG T (p0 :: rows) (rows.foldl (pushFG T 0) [p0]) := by
  have go : ∀ (rows P st : List Pt), st ≠ [] → ChnG T 0 P st → OffG T P st → (P ++ rows).Pairwise lt2 → OffG T (P ++ rows) (rows.foldl (pushFG T 0) st) := by
    intro rows
    induction rows with
    | nil => intro P st _ _ h _; rw [List.append_nil]; exact h
    | cons s rows ih =>
      intro P st ne h off so
      have e : P ++ s :: rows = (P ++ [s]) ++ rows := by rw [List.append_assoc]; rfl
      rw [e] at so ⊢
      have hs : ∀ p ∈ P, lt2 p s := fun p hp => (List.pairwise_append.mp (List.pairwise_append.mp so).1).2.2 p hp s (List.mem_singleton.mpr rfl)
      have cov : ∀ p ∈ P, ∀ b, st.head? = some b → ¬ lt2 b p := fun p hp b hb q => by
        rcases h.top p hp b hb with rfl | z
        · exact absurd q lt2_irr
        · exact absurd (lt2_tr q z) lt2_irr
      exact ih _ _ (by unfold pushFG; simp) (chn_pushG ax (by decide) (by decide) hs st ne h.cvx h.srt h.sub h.bot h.low fun p hp b hb q => absurd q (cov p hp b hb)) (off_pushG ax hs st ne h.srt h.sub h.low off fun p hp b hb q => absurd q (cov p hp b hb)) so
  intro rows p0 so
  refine go rows [p0] [p0] (by simp) (chn_allG ax (by decide) (by decide) [] p0 (List.pairwise_singleton _ _)) (fun e he => ?_) so
  cases he
def stkG (T : Sgt) (least : Int) (rows : List Pt) : List Pt := rows.foldl (pushFG T least) []
theorem stk_consG {T : Sgt} (least : Int) (p0 : Pt) (rows : List Pt) : stkG T least (p0 :: rows) = rows.foldl (pushFG T least) [p0] := rfl
theorem fold_neG {T : Sgt} (least : Int) : ∀ (rows st : List Pt), st ≠ [] → rows.foldl (pushFG T least) st ≠ []
  | [], _, h => h
  | s :: rows, st, _ => fold_neG least rows (pushFG T least st s) (by unfold pushFG; simp)
theorem stk_endsG {T : Sgt} (ax : Ax T) {least : Int} (l0 : 0 ≤ least) (l1 : least ≤ 1) {rows : List Pt} {p0 q : Pt} (so : rows.Pairwise lt2) (h0 : rows.head? = some p0) (hq : rows.getLast? = some q) (n2 : p0 ≠ q) : ∃ m, stkG T least rows = q :: (m ++ [p0]) ∧ ∀ x ∈ m, lt2 p0 x ∧ lt2 x q := by
  cases rows with
  | nil => cases h0
  | cons r0 rows =>
    obtain rfl := Option.some.inj h0
    have c := chn_allG ax l0 l1 rows r0 so
    rw [stk_consG]
    have ne := fold_neG (T := T) least rows [r0] (by simp)
    generalize rows.foldl (pushFG T least) [r0] = S at c ne
    have r0in : r0 ∈ r0 :: rows := List.mem_cons_self
    have first : ∀ p ∈ r0 :: rows, p = r0 ∨ lt2 r0 p := fun p hp => by
      rcases List.mem_cons.mp hp with e | m
      · exact .inl e
      · exact .inr ((List.pairwise_cons.mp so).1 p m)
    have last : ∀ p ∈ r0 :: rows, p = q ∨ lt2 p q := fun p hp => by
      obtain ⟨ys, ey⟩ := List.getLast?_eq_some_iff.mp hq
      rw [ey] at hp so
      rcases List.mem_append.mp hp with m | m
      · exact .inr ((List.pairwise_append.mp so).2.2 p m q (List.mem_singleton.mpr rfl))
      · exact .inl (List.mem_singleton.mp m)
    have qin : q ∈ r0 :: rows := List.mem_of_getLast? hq
    cases S with
    | nil => exact absurd rfl ne
    | cons t S =>
      have ht : t = q := by
        rcases c.top q qin t rfl with e | z
        · exact e.symm
        · rcases last t (c.sub t List.mem_cons_self) with e | y
          · exact e
          · exact absurd (lt2_tr z y) lt2_irr
      subst ht
      rcases List.eq_nil_or_concat S with rfl | ⟨m, b, rfl⟩
      · exfalso
        rcases c.bot r0 r0in t rfl with e | z
        · exact n2 e
        · rcases last r0 r0in with e | y
          · exact n2 e
          · exact lt2_irr (lt2_tr z y)
      · rw [List.concat_eq_append] at c ⊢
        have hb : b = r0 := by
          have gl : (t :: (m ++ [b])).getLast? = some b := by
            rw [← List.cons_append, List.getLast?_append]
            rfl
          rcases c.bot r0 r0in b gl with e | z
          · exact e.symm
          · rcases first b (c.sub b (List.mem_cons_of_mem _ (List.mem_append_right _ (List.mem_singleton.mpr rfl)))) with e | y
            · exact e
            · exact absurd (lt2_tr z y) lt2_irr
        subst hb
        refine ⟨m, rfl, fun x hx => ⟨?_, (List.pairwise_cons.mp c.srt).1 x (List.mem_append_left _ hx)⟩⟩
        exact (List.pairwise_append.mp (List.pairwise_cons.mp c.srt).2).2.2 x hx b (List.mem_singleton.mpr rfl)
theorem cvx_sufG {T : Sgt} {least : Int} : ∀ (l : List Pt) {m : List Pt}, CvxG T least (l ++ m) → CvxG T least m
  | [], _, h => h
  | x :: l, m, h => by
    refine cvx_sufG l ?_
    have h : CvxG T least (x :: (l ++ m)) := h
    generalize l ++ m = k at h
    match k, h with
    | [], _ => exact True.intro
    | [_], _ => exact True.intro
    | [_, _], h => exact True.intro
    | a :: b :: c :: k, h => exact h.2
theorem edg_upG {T : Sgt} {least : Int} {S : List Pt} (cv : CvxG T least S) {e : Pt × Pt} (he : e ∈ Edg S) : S.head? = some e.1 ∨ ∃ c, (c, e.1) ∈ Edg S ∧ least ≤ T e.2 e.1 c := by
  obtain ⟨l, r, rfl⟩ := edg_split he
  rcases List.eq_nil_or_concat l with rfl | ⟨l, c, rfl⟩
  · exact .inl rfl
  · rw [List.concat_eq_append, List.append_assoc] at *
    exact .inr ⟨c, edg_of l c e.1 (e.2 :: r), (cvx_sufG l cv).1⟩
theorem edg_dnG {T : Sgt} {least : Int} {S : List Pt} (cv : CvxG T least S) {e : Pt × Pt} (he : e ∈ Edg S) : S.getLast? = some e.2 ∨ ∃ z, (e.2, z) ∈ Edg S ∧ least ≤ T z e.2 e.1 := by
  obtain ⟨l, r, rfl⟩ := edg_split he
  cases r with
  | nil =>
    left
    rw [List.getLast?_append]
    rfl
  | cons z r =>
    refine .inr ⟨z, ?_, (cvx_sufG l cv).1⟩
    have e2 : l ++ e.1 :: e.2 :: z :: r = (l ++ [e.1]) ++ e.2 :: z :: r := by simp
    rw [e2]
    exact edg_of _ _ _ _

theorem up_tn {a b p0 q p : Pt} (ab : lt2 a b) (p0p : lt2 p0 p) (pq : lt2 p q) (h : 0 < tn p0 q p) (h0 : 0 ≤ tn a b p0) (hq : 0 ≤ tn a b q) : 0 < tn a b p := by
  refine Classical.byContradiction fun n => ?_
  have n : tn a b p ≤ 0 := by omega
  have e1 : crs (vec p0 p) (vec a b) = tn a b p0 - tn a b p := by unfold crs vec tn; grind
  have e2 : crs (vec a b) (vec p q) = tn a b q - tn a b p := by unfold crs vec tn; grind
  have z := crs_tr (fwd_vec.mpr p0p) (fwd_vec.mpr ab) (fwd_vec.mpr pq) (by omega) (by omega)
  have e3 : tn p0 q p = -crs (vec p0 p) (vec p q) := by unfold crs vec tn; grind
  omega
/-- the sign with the sides changed -/
def tm (a b c : Pt) : Int := -tn a b c
theorem ax_tn : Ax tn := ⟨over_next, over_fore, over_back, over_fore_lt, over_next_lt, over_prev_lt, tn_end, up_tn⟩
theorem ax_tm : Ax tm where
  over_next := fun {a b c d} ab bc cd h k => by
    unfold tm at *
    have e : tn a b d = crs (vec a b) (vec b c) + crs (vec a b) (vec c d) := by unfold tn crs vec; grind
    rw [(tn_crs a b c).2.1, crs_neg] at h
    rw [(tn_crs b c d).2.1, crs_neg] at k
    have t := crs_tr (fwd_vec.mpr cd) (fwd_vec.mpr bc) (fwd_vec.mpr ab) (by omega) (by omega)
    rw [crs_neg] at t
    rw [crs_neg] at h
    omega
  over_fore := fun {a b s p} ab as ap h k => by
    unfold tm at *
    rw [(tn_crs a b s).1] at h
    rw [(tn_crs a b p).1, crs_neg] at k
    rw [(tn_crs a s p).1, crs_neg]
    have t := crs_tr (fwd_vec.mpr ap) (fwd_vec.mpr ab) (fwd_vec.mpr as) (by omega) (by omega)
    omega
  over_back := fun {c a s p} ca as pa h k => by
    unfold tm at *
    rw [(tn_crs c a s).2.1, crs_neg] at h
    have e1 : tn c a p = crs (vec p a) (vec c a) := by unfold tn crs vec; grind
    have e2 : tn a s p = crs (vec p a) (vec a s) := by unfold tn crs vec; grind
    rw [e1, crs_neg] at k
    have t := crs_tr (fwd_vec.mpr as) (fwd_vec.mpr ca) (fwd_vec.mpr pa) (by omega) (by omega)
    rw [crs_neg] at t
    omega
  over_fore_lt := fun {a b s p} ab as ap h k => by
    unfold tm at *
    rw [(tn_crs a b s).1] at h
    rw [(tn_crs a b p).1, crs_neg] at k
    rw [(tn_crs a s p).1, crs_neg]
    have t := crs_tr_lt2 (fwd_vec.mpr ap) (fwd_vec.mpr ab) (fwd_vec.mpr as) (by omega) (by omega)
    omega
  over_next_lt := fun {a b c p} ab bc bp h k => by
    unfold tm at *
    rw [(tn_crs a b c).2.1, crs_neg] at h
    rw [(tn_crs b c p).1, crs_neg] at k
    rw [(tn_crs a b p).2.1, crs_neg]
    have t := crs_tr_lt2 (fwd_vec.mpr bp) (fwd_vec.mpr bc) (fwd_vec.mpr ab) (by omega) (by omega)
    omega
  over_prev_lt := fun {z a b p} za ab pa h k => by
    unfold tm at *
    rw [(tn_crs z a b).2.1, crs_neg] at h
    have e1 : tn z a p = crs (vec p a) (vec z a) := by unfold tn crs vec; grind
    have e2 : tn a b p = crs (vec p a) (vec a b) := by unfold tn crs vec; grind
    rw [e1, crs_neg] at k
    have t := crs_tr_lt (fwd_vec.mpr ab) (fwd_vec.mpr za) (fwd_vec.mpr pa) (by omega) (by omega)
    rw [crs_neg] at t
    omega
  tn_end := fun a b => by
    unfold tm
    rw [(tn_end a b).1, (tn_end a b).2]
    exact ⟨rfl, rfl⟩
  up := fun {a b p0 q p} ab p0p pq h h0 hq => by
    unfold tm at *
    refine Classical.byContradiction fun n => ?_
    have e1 : crs (vec p0 p) (vec a b) = tn a b p0 - tn a b p := by unfold crs vec tn; grind
    have e2 : crs (vec a b) (vec p q) = tn a b q - tn a b p := by unfold crs vec tn; grind
    rw [crs_neg] at e1 e2
    have z := crs_tr (fwd_vec.mpr pq) (fwd_vec.mpr ab) (fwd_vec.mpr p0p) (by omega) (by omega)
    have e3 : tn p0 q p = crs (vec p q) (vec p0 p) := by unfold crs vec tn; grind
    omega
/-! ### both chains of the program: each over the sites on its side of the line from the first to the last -/
/-- the sites that are not over the line from p0 to q -/
def part (T : Sgt) (p0 q : Pt) (rows : List Pt) : List Pt := rows.filter fun s => decide (T p0 q s ≤ 0)
section
variable {T : Sgt} {rows : List Pt} {p0 q : Pt}
theorem part_head (ax : Ax T) (h0 : rows.head? = some p0) : (part T p0 q rows).head? = some p0 := by
  cases rows with
  | nil => cases h0
  | cons r0 rows =>
    obtain rfl := Option.some.inj h0
    unfold part
    rw [List.filter_cons_of_pos (by rw [(ax.tn_end r0 q).1]; rfl)]
    rfl
theorem part_last (ax : Ax T) (hq : rows.getLast? = some q) : (part T p0 q rows).getLast? = some q := by
  obtain ⟨ys, rfl⟩ := List.getLast?_eq_some_iff.mp hq
  unfold part
  rw [List.filter_append, List.filter_cons_of_pos (by rw [(ax.tn_end p0 q).2]; rfl), List.filter_nil]
  exact List.getLast?_concat
theorem part_srt (so : rows.Pairwise lt2) : (part T p0 q rows).Pairwise lt2 := so.sublist List.filter_sublist
theorem first_is (so : rows.Pairwise lt2) (h0 : rows.head? = some p0) : ∀ p ∈ rows, p = p0 ∨ lt2 p0 p := fun p hp => by
  cases rows with
  | nil => cases h0
  | cons r0 rows =>
    obtain rfl := Option.some.inj h0
    rcases List.mem_cons.mp hp with e | m
    · exact .inl e
    · exact .inr ((List.pairwise_cons.mp so).1 p m)
theorem last_is (so : rows.Pairwise lt2) (hq : rows.getLast? = some q) : ∀ p ∈ rows, p = q ∨ lt2 p q := fun p hp => by
  obtain ⟨ys, rfl⟩ := List.getLast?_eq_some_iff.mp hq
  rcases List.mem_append.mp hp with m | m
  · exact .inr ((List.pairwise_append.mp so).2.2 p m q (List.mem_singleton.mpr rfl))
  · exact .inl (List.mem_singleton.mp m)
theorem part_chn (ax : Ax T) {least : Int} (l0 : 0 ≤ least) (l1 : least ≤ 1) (so : rows.Pairwise lt2) (h0 : rows.head? = some p0) : ChnG T least (part T p0 q rows) (stkG T least (part T p0 q rows)) := by
  have hh := part_head (q := q) ax h0
  have hs := part_srt (T := T) (p0 := p0) (q := q) so
  generalize part T p0 q rows = R at hh hs
  cases R with
  | nil => cases hh
  | cons r0 R =>
    rw [stk_consG]
    exact chn_allG ax l0 l1 R r0 hs
/-- an edge of such a chain has no site at all on its other side; those that are over the line are off it -/
theorem part_edge (ax : Ax T) {least : Int} (l0 : 0 ≤ least) (l1 : least ≤ 1) (so : rows.Pairwise lt2) (h0 : rows.head? = some p0) (hq : rows.getLast? = some q) {e : Pt × Pt} (he : e ∈ Edg (stkG T least (part T p0 q rows))) :
    lt2 e.2 e.1 ∧ e.2 ∈ rows ∧ e.1 ∈ rows ∧ ∀ p ∈ rows, 0 ≤ T e.2 e.1 p ∧ (0 < T p0 q p → 0 < T e.2 e.1 p) := by
  have c := part_chn (q := q) ax l0 l1 so h0
  have lt := edg_lt _ c.srt e he
  have m := edg_mem _ e he
  have sub : ∀ x ∈ part T p0 q rows, x ∈ rows := fun x hx => (List.mem_filter.mp hx).1
  have in0 : p0 ∈ part T p0 q rows := List.mem_of_head? (part_head ax h0)
  have inq : q ∈ part T p0 q rows := List.mem_of_getLast? (part_last ax hq)
  have z0 := c.low e he p0 in0
  have zq := c.low e he q inq
  refine ⟨lt, sub _ (c.sub _ m.2), sub _ (c.sub _ m.1), fun p hp => ?_⟩
  by_cases w : T p0 q p ≤ 0
  · exact ⟨c.low e he p (List.mem_filter.mpr ⟨hp, decide_eq_true w⟩), fun z => absurd z (by omega)⟩
  · have up : 0 < T e.2 e.1 p := by
      rcases first_is so h0 p hp with rfl | a
      · rw [(ax.tn_end p q).1] at w
        exact absurd (Int.le_refl 0) w
      rcases last_is so hq p hp with rfl | b
      · rw [(ax.tn_end p0 p).2] at w
        exact absurd (Int.le_refl 0) w
      exact ax.up lt a b (by omega) z0 zq
    exact ⟨Int.le_of_lt up, fun _ => up⟩
theorem part_nxt (ax : Ax T) (so : rows.Pairwise lt2) (h0 : rows.head? = some p0) (hq : rows.getLast? = some q) {e : Pt × Pt} (he : e ∈ Edg (stkG T 0 (part T p0 q rows))) : ∀ p ∈ rows, T e.2 e.1 p = 0 → ¬ Btw e.2 p e.1 := fun p hp z b => by
  obtain ⟨lt, _, _, all⟩ := part_edge ax (by decide) (by decide) so h0 hq he
  have hh := part_head (q := q) ax h0
  have hs := part_srt (T := T) (p0 := p0) (q := q) so
  have w : T p0 q p ≤ 0 := by
    have := (all p hp).2
    omega
  have pin : p ∈ part T p0 q rows := List.mem_filter.mpr ⟨hp, decide_eq_true w⟩
  rcases b with ⟨q1, q2⟩ | ⟨q1, q2⟩
  · generalize part T p0 q rows = R at hh hs pin he
    cases R with
    | nil => cases hh
    | cons r0 R =>
      rw [stk_consG] at he
      have := off_allG ax R r0 hs e he p pin q1 q2
      omega
  · exact lt2_irr (lt2_tr (lt2_tr q1 q2) lt)
theorem part_nxc (ax : Ax T) (so : rows.Pairwise lt2) (h0 : rows.head? = some p0) (hq : rows.getLast? = some q) {e : Pt × Pt} (he : e ∈ Edg (stkG T 1 (part T p0 q rows))) : ∀ p ∈ rows, T e.2 e.1 p = 0 → p = e.2 ∨ p = e.1 ∨ Btw e.2 p e.1 := fun p hp z => by
  obtain ⟨lt, _, _, all⟩ := part_edge ax (by decide) (by decide) so h0 hq he
  have c := part_chn (q := q) ax (least := 1) (by decide) (by decide) so h0
  have w : T p0 q p ≤ 0 := by
    have := (all p hp).2
    omega
  have pin : p ∈ part T p0 q rows := List.mem_filter.mpr ⟨hp, decide_eq_true w⟩
  by_cases pa : p = e.2
  · exact .inl pa
  by_cases pb : p = e.1
  · exact .inr (.inl pb)
  refine .inr (.inr (.inl ⟨?_, ?_⟩))
  · rcases lt2_tri pa with g | g
    · exfalso
      rcases edg_dnG c.cvx he with hd | ⟨d, hd, k⟩
      · rcases c.bot p pin e.2 hd with w | w
        · exact pa w
        · exact lt2_irr (lt2_tr w g)
      · have := ax.over_prev_lt (z := d) (a := e.2) (b := e.1) (p := p) (edg_lt _ c.srt _ hd) lt g (by omega) (c.low _ hd p pin)
        omega
    · exact g
  · rcases lt2_tri pb with g | g
    · exact g
    · exfalso
      rcases edg_upG c.cvx he with hd | ⟨d, hd, k⟩
      · rcases c.top p pin e.1 hd with w | w
        · exact pb w
        · exact lt2_irr (lt2_tr w g)
      · have := ax.over_next_lt (a := e.2) (b := e.1) (c := d) lt (edg_lt _ c.srt _ hd) g (by omega) (c.low _ hd p pin)
        omega
theorem part_ends (ax : Ax T) {least : Int} (l0 : 0 ≤ least) (l1 : least ≤ 1) (so : rows.Pairwise lt2) (h0 : rows.head? = some p0) (hq : rows.getLast? = some q) (n2 : p0 ≠ q) : ∃ m, stkG T least (part T p0 q rows) = q :: (m ++ [p0]) ∧ ∀ x ∈ m, lt2 p0 x ∧ lt2 x q :=
  stk_endsG ax l0 l1 (part_srt so) (part_head ax h0) (part_last ax hq) n2
end
theorem pr_fwd {R : Pt → Pt → Prop} : ∀ {st : List Pt}, (∀ e ∈ Edg st, R e.1 e.2) → Pr R st
  | [], _ => True.intro
  | [_], _ => True.intro
  | x :: y :: l, h => ⟨h (x, y) List.mem_cons_self, pr_fwd fun e he => h e (List.mem_cons_of_mem _ he)⟩
theorem btw_comm {a p b : Pt} : Btw a p b ↔ Btw b p a := ⟨fun h => h.elim .inr .inl, fun h => h.elim .inr .inl⟩
section
variable {rows : List Pt} {p0 q : Pt}
theorem low_nxt (so : rows.Pairwise lt2) (h0 : rows.head? = some p0) (hq : rows.getLast? = some q) : ∀ e ∈ Edg (stkG tn 0 (part tn p0 q rows)), Nxt rows e.2 e.1 := fun e he => by
  obtain ⟨lt, ma, mb, all⟩ := part_edge ax_tn (by decide) (by decide) so h0 hq he
  exact ⟨⟨ma, mb, fun z => lt2_irr (z ▸ lt), fun p hp => (all p hp).1⟩, part_nxt ax_tn so h0 hq he⟩
theorem high_nxt (so : rows.Pairwise lt2) (h0 : rows.head? = some p0) (hq : rows.getLast? = some q) : ∀ e ∈ Edg (stkG tm 0 (part tm p0 q rows)), Nxt rows e.1 e.2 := fun e he => by
  obtain ⟨lt, ma, mb, all⟩ := part_edge ax_tm (by decide) (by decide) so h0 hq he
  have sw : ∀ p, tm e.2 e.1 p = tn e.1 e.2 p := fun p => by
    unfold tm
    rw [tn_swap e.1 e.2 p]
    omega
  refine ⟨⟨mb, ma, fun z => lt2_irr (z ▸ lt), fun p hp => by rw [← sw]; exact (all p hp).1⟩, fun p hp z b => part_nxt ax_tm so h0 hq he p hp (by rw [sw]; exact z) (btw_comm.mp b)⟩
theorem low_nxc (so : rows.Pairwise lt2) (h0 : rows.head? = some p0) (hq : rows.getLast? = some q) : ∀ e ∈ Edg (stkG tn 1 (part tn p0 q rows)), NxC rows e.2 e.1 := fun e he => by
  obtain ⟨lt, ma, mb, all⟩ := part_edge ax_tn (by decide) (by decide) so h0 hq he
  exact ⟨⟨ma, mb, fun z => lt2_irr (z ▸ lt), fun p hp => (all p hp).1⟩, part_nxc ax_tn so h0 hq he⟩
theorem high_nxc (so : rows.Pairwise lt2) (h0 : rows.head? = some p0) (hq : rows.getLast? = some q) : ∀ e ∈ Edg (stkG tm 1 (part tm p0 q rows)), NxC rows e.1 e.2 := fun e he => by
  obtain ⟨lt, ma, mb, all⟩ := part_edge ax_tm (by decide) (by decide) so h0 hq he
  have sw : ∀ p, tm e.2 e.1 p = tn e.1 e.2 p := fun p => by
    unfold tm
    rw [tn_swap e.1 e.2 p]
    omega
  refine ⟨⟨mb, ma, fun z => lt2_irr (z ▸ lt), fun p hp => by rw [← sw]; exact (all p hp).1⟩, fun p hp z => ?_⟩
  rcases part_nxc ax_tm so h0 hq he p hp (by rw [sw]; exact z) with e | e | b
  · exact .inr (.inl e)
  · exact .inl e
  · exact .inr (.inr (btw_comm.mp b))
/-- xs[-2:0:-1] -/
def innerR (xs : List Pt) : List Pt := (xs.drop 1).dropLast.reverse
theorem two_chains {R : Pt → Pt → Prop} {L Hh m m' : List Pt} (n2 : p0 ≠ q) (eL : L = q :: (m ++ [p0])) (eH : Hh = q :: (m' ++ [p0])) (hm : ∀ x ∈ m, lt2 p0 x ∧ lt2 x q) (hm' : ∀ x ∈ m', lt2 p0 x ∧ lt2 x q) (kL : ∀ e ∈ Edg L, R e.2 e.1) (kH : ∀ e ∈ Edg Hh, R e.1 e.2) :
    ∃ mid, L.reverse ++ innerR Hh.reverse = p0 :: mid ∧ p0 ∉ mid ∧ Pr R (p0 :: mid ++ [p0]) := by
  have k1 := pr_rev kL
  have k2 := pr_fwd kH
  rw [eL] at k1 ⊢
  rw [eH] at k2 ⊢
  have r1 : (q :: (m ++ [p0])).reverse = (p0 :: m.reverse) ++ [q] := by simp
  have r2 : innerR (q :: (m' ++ [p0])).reverse = m' := by
    unfold innerR
    rw [show (q :: (m' ++ [p0])).reverse = p0 :: (m'.reverse ++ [q]) by simp, List.drop_succ_cons, List.drop_zero, List.dropLast_concat, List.reverse_reverse]
  rw [r1] at k1 ⊢
  rw [r2]
  refine ⟨m.reverse ++ q :: m', by simp, fun z => ?_, ?_⟩
  · rcases List.mem_append.mp z with z | z
    · exact lt2_irr (hm p0 (List.mem_reverse.mp z)).1
    · rcases List.mem_cons.mp z with z | z
      · exact n2 z
      · exact lt2_irr (hm' p0 z).1
  · have := pr_app (l := p0 :: m.reverse) k1 k2
    simpa using this
/-- the border as it is told now -/
def bordN (p0 q : Pt) (rows : List Pt) : List Pt := (stkG tn 0 (part tn p0 q rows)).reverse ++ innerR (stkG tm 0 (part tm p0 q rows)).reverse
def cornN (p0 q : Pt) (rows : List Pt) : List Pt := (stkG tn 1 (part tn p0 q rows)).reverse ++ innerR (stkG tm 1 (part tm p0 q rows)).reverse
theorem ringN (so : rows.Pairwise lt2) (h0 : rows.head? = some p0) (hq : rows.getLast? = some q) (n2 : p0 ≠ q) : ∃ mid, bordN p0 q rows = p0 :: mid ∧ p0 ∉ mid ∧ Pr (Nxt rows) (p0 :: mid ++ [p0]) := by
  obtain ⟨m, e, hm⟩ := part_ends ax_tn (least := 0) (by decide) (by decide) so h0 hq n2
  obtain ⟨m', e', hm'⟩ := part_ends ax_tm (least := 0) (by decide) (by decide) so h0 hq n2
  exact two_chains n2 e e' hm hm' (low_nxt so h0 hq) (high_nxt so h0 hq)
theorem ringCN (so : rows.Pairwise lt2) (h0 : rows.head? = some p0) (hq : rows.getLast? = some q) (n2 : p0 ≠ q) : ∃ mid, cornN p0 q rows = p0 :: mid ∧ p0 ∉ mid ∧ Pr (NxC rows) (p0 :: mid ++ [p0]) := by
  obtain ⟨m, e, hm⟩ := part_ends ax_tn (least := 1) (by decide) (by decide) so h0 hq n2
  obtain ⟨m', e', hm'⟩ := part_ends ax_tm (least := 1) (by decide) (by decide) so h0 hq n2
  exact two_chains n2 e e' hm hm' (low_nxc so h0 hq) (high_nxc so h0 hq)
/-- as it was told before -/
theorem cornN_is (nr : NoRow rows) (so : rows.Pairwise lt2) (h0 : rows.head? = some p0) (hq : rows.getLast? = some q) (n2 : p0 ≠ q) : cornN p0 q rows = (stk 1 rows).reverse.dropLast ++ (stk 1 rows.reverse).reverse.dropLast := by
  obtain ⟨a, e1, e2, e3⟩ := ringCN so h0 hq n2
  obtain ⟨b, d1, d2, d3⟩ := ringC so h0 hq n2
  have := ring_det (R := NxC rows) (fun _ _ _ => nxc_uniq nr) a b p0 e3 d3 e2 d2
  rw [e1, d1, this]
end
/-! ### places against a hull -/
structure Plc where
  x : Int
  y : Int
  d : Int
/-- on which side of a line a place is, times d -/
def po (a b : Pt) (p : Plc) : Int := (b.1 - a.1) * (p.y - a.2 * p.d) - (b.2 - a.2) * (p.x - a.1 * p.d)
def dots (a b : Pt) (p : Plc) : Int := (p.x - a.1 * p.d) * (p.x - b.1 * p.d) + (p.y - a.2 * p.d) * (p.y - b.2 * p.d)
/-- a place in a triangle is on no other side than its corners -/
theorem po_tri {a b c : Pt} {p : Plc} {u v : Pt} (t : 0 < tn a b c) (h1 : 0 ≤ po a b p) (h2 : 0 ≤ po b c p) (h3 : 0 ≤ po c a p) (ka : 0 ≤ tn u v a) (kb : 0 ≤ tn u v b) (kc : 0 ≤ tn u v c) : 0 ≤ po u v p := by
  have e : po u v p * tn a b c = po b c p * tn u v a + po c a p * tn u v b + po a b p * tn u v c := by
    unfold po tn
    grind
  have := mul_nn h2 ka
  have := mul_nn h3 kb
  have := mul_nn h1 kc
  exact of_mul_nn (b := tn a b c) (by omega) t
/-- a place on a stretch is on no other side than its ends -/
theorem po_str {a b : Pt} {p : Plc} {u v : Pt} (hd : 0 < p.d) (ne : a ≠ b) (l : po a b p = 0) (h : dots a b p ≤ 0) (ka : 0 ≤ tn u v a) (kb : 0 ≤ tn u v b) : 0 ≤ po u v p := by
  have n0 : 0 < dot (vec a b) (vec a b) := (dir_self ne).d
  -- how far along, times the square
  generalize hs : (p.x - a.1 * p.d) * (b.1 - a.1) + (p.y - a.2 * p.d) * (b.2 - a.2) = s
  have e : po u v p * dot (vec a b) (vec a b) = (p.d * dot (vec a b) (vec a b) - s) * tn u v a + s * tn u v b + po a b p * ((v.1 - u.1) * (b.1 - a.1) + (v.2 - u.2) * (b.2 - a.2)) := by
    rw [← hs]
    unfold po tn dot vec
    grind
  have d : dots a b p * dot (vec a b) (vec a b) = s * (s - p.d * dot (vec a b) (vec a b)) + po a b p * po a b p := by
    rw [← hs]
    unfold dots po dot vec
    grind
  rw [l, Int.zero_mul, Int.add_zero] at d e
  have big : 0 < p.d * dot (vec a b) (vec a b) := Int.mul_pos hd n0
  have dn : s * (s - p.d * dot (vec a b) (vec a b)) ≤ 0 := by
    rw [← d]
    exact Int.mul_nonpos_of_nonpos_of_nonneg h (Int.le_of_lt n0)
  generalize p.d * dot (vec a b) (vec a b) = m at *
  have s0 : 0 ≤ s := by
    rcases ltge s 0 with z | z
    · have := Int.mul_pos_of_neg_of_neg z (show s - m < 0 by omega)
      omega
    · exact z
  have s1 : s ≤ m := by
    rcases ltge m s with z | z
    · have := Int.mul_pos (show 0 < s by omega) (show 0 < s - m by omega)
      omega
    · exact z
  have := mul_nn (show 0 ≤ m - s by omega) ka
  have := mul_nn s0 kb
  exact of_mul_nn (b := dot (vec a b) (vec a b)) (by omega) n0
/-- a fan's marks go from one sign to the other: a triangle -/
theorem fan_meets {f : Pt} {p : Plc} : ∀ (l : List Pt) (a z : Pt), (a :: l).getLast? = some z → 0 ≤ po f a p → po f z p ≤ 0 → l ≠ [] → ∃ b c, ∃ m n, a :: l = m ++ b :: c :: n ∧ 0 ≤ po f b p ∧ po f c p ≤ 0
  | [], _, _, _, _, _, h => absurd rfl h
  | [c], a, z, hz, h1, h2, _ => by
    obtain rfl : c = z := Option.some.inj hz
    exact ⟨a, c, [], [], rfl, h1, h2⟩
  | c :: e :: l, a, z, hz, h1, h2, _ => by
    rcases ltge 0 (po f c p) with q | q
    · obtain ⟨b', c', m, n, k1, k2, k3⟩ := fan_meets (f := f) (p := p) (e :: l) c z hz (Int.le_of_lt q) h2 (by simp)
      exact ⟨b', c', a :: m, n, by rw [k1]; rfl, k2, k3⟩
    · exact ⟨a, c, [], e :: l, rfl, h1, q⟩
theorem po_swap (a b : Pt) (p : Plc) : po b a p = -po a b p := by
  unfold po
  grind
/-- the double area of a fan's triangle, if the place is strictly within an edge of it -/
theorem fan_area {f b c : Pt} {p : Plc} (hd : 0 < p.d) (h1 : 0 ≤ po f b p) (h2 : 0 < po b c p) (h3 : 0 ≤ po c f p) : 0 < tn f b c := by
  have e : po f b p + po b c p + po c f p = p.d * tn f b c := by
    unfold po tn
    grind
  exact of_mul_pos (b := p.d) (by rw [Int.mul_comm]; omega) hd
/-! ### sides of a ring and of its corners tell the same of a place -/
def pvec (a : Pt) (p : Plc) : Pt := (p.x - a.1 * p.d, p.y - a.2 * p.d)
theorem po_crs (a b : Pt) (p : Plc) : po a b p = crs (vec a b) (pvec a p) := by
  unfold po crs vec pvec
  grind
/-- edges of one line, the same way -/
theorem po_dir {a b x y : Pt} (p : Plc) (d : Dir (vec a b) (vec x y)) (l : tn a b x = 0) : (0 < po a b p ↔ 0 < po x y p) ∧ (po a b p = 0 ↔ po x y p = 0) ∧ (0 ≤ po a b p ↔ 0 ≤ po x y p) := by
  have e : po x y p = crs (vec x y) (pvec a p) := by
    have z : crs (vec x y) (vec a x) = 0 := by
      have := (dir_crs (w := vec a x) d).2.1.mp (by rw [← (tn_crs a b x).1]; exact l)
      exact this
    have : po x y p = crs (vec x y) (pvec a p) - p.d * crs (vec x y) (vec a x) := by
      unfold po crs vec pvec
      grind
    rw [this, z, Int.mul_zero, Int.sub_zero]
  rw [po_crs a b p, e]
  exact dir_crs d
theorem tn_zero_self (a b : Pt) : tn a b a = 0 := (tn_end a b).1
/-- what is so of one side's line is so of all of it -/
structure Sgn (S : Pt → Pt → Prop) : Prop where
  tr : ∀ {a b x y : Pt}, Dir (vec a b) (vec x y) → tn a b x = 0 → (S a b ↔ S x y)
theorem sgn_pos (p : Plc) : Sgn fun a b => 0 < po a b p := ⟨fun d l => (po_dir p d l).1⟩
theorem sgn_nn (p : Plc) : Sgn fun a b => 0 ≤ po a b p := ⟨fun d l => (po_dir p d l).2.2⟩
theorem sgn_ne (p : Plc) : Sgn fun a b => po a b p ≠ 0 := ⟨fun d l => not_congr (po_dir p d l).2.1⟩
theorem onc_dir {rows : List Pt} (nr : NoRow rows) {a prev x y : Pt} (h : OnC rows a prev x) (k : Nxt rows x y) (t : tn prev x y = 0) : Dir (vec a x) (vec x y) ∧ Dir (vec a x) (vec a y) ∧ tn a x y = 0 := by
  have bt := nxt_btw nr h.n k t
  have d2 : Dir (vec a x) (vec x y) := h.d.trans (btw_dir t bt)
  have o := onc_on nr h k t
  refine ⟨d2, d2.trans o.d.symm, ?_⟩
  rw [(tn_crs a x y).2.1]
  exact d2.c
/-- of all sides of the ring, so of all between corners -/
theorem ring_cor {S : Pt → Pt → Prop} (hS : Sgn S) {rows : List Pt} (nr : NoRow rows) : ∀ (r : List Pt) (a prev x : Pt), OnC rows a prev x → Pr (Nxt rows) (x :: r) → S a x → Pr S (x :: r) → Pr S (a :: flt prev (x :: r))
  | [], _, _, _, _, _, _, _ => True.intro
  | y :: r, a, prev, x, h, k, s, sr => by
    rw [flt]
    by_cases t : tn prev x y = 0
    · rw [if_neg (fun z => z t)]
      obtain ⟨_, d, _⟩ := onc_dir nr h k.1 t
      exact ring_cor hS nr r a x y (onc_on nr h k.1 t) k.2 ((hS.tr d (tn_zero_self a x)).mp s) sr.2
    · rw [if_pos t]
      obtain ⟨_, h2⟩ := onc_turn h k.1 t
      exact ⟨s, ring_cor hS nr r x x y h2 k.2 sr.1 sr.2⟩
/-- and the other way about, up to the last corner -/
theorem cor_ring {S : Pt → Pt → Prop} (hS : Sgn S) {rows : List Pt} (nr : NoRow rows) {e f : Pt} : ∀ (r : List Pt) (a prev x : Pt), OnC rows a prev x → Pr (Nxt rows) (x :: (r ++ [e, f])) → (∀ last, (prev :: x :: r).getLast? = some last → tn last e f ≠ 0) → Pr S (a :: flt prev (x :: (r ++ [e, f]))) → S prev x ∧ Pr S (x :: (r ++ [e]))
  | [], a, prev, x, h, k, hl, s => by
    have k1 : Nxt rows x e := k.1
    have k2 : Nxt rows e f := k.2.1
    have te := hl x rfl
    have s : Pr S (a :: flt prev (x :: e :: [f])) := s
    have u1 : flt prev (x :: e :: [f]) = if tn prev x e ≠ 0 then x :: flt x [e, f] else flt x [e, f] := by rw [flt]
    have u2 : flt x [e, f] = e :: flt e [f] := by rw [flt, if_pos te]
    rw [u1, u2] at s
    by_cases t : tn prev x e = 0
    · rw [if_neg (fun z => z t)] at s
      obtain ⟨d1, d2, l⟩ := onc_dir nr h k1 t
      have s1 : S a e := s.1
      have l2 : tn a e x = 0 := by
        have : tn a e x = -tn a x e := by
          unfold tn
          grind
        omega
      refine ⟨?_, ?_, True.intro⟩
      · refine (hS.tr (d2.symm.trans h.d) ?_).mp s1
        -- prev lies on the line, too
        have d3 : Dir (vec a x) (vec prev x) := h.d
        have o := onc_on nr h k1 t
        have z : crs (vec a e) (vec prev x) = 0 := (d2.symm.trans h.d).c
        have z2 : crs (vec a e) (vec a x) = 0 := d2.symm.c
        rw [(tn_crs a e prev).1]
        have : crs (vec a e) (vec a prev) = crs (vec a e) (vec a x) - crs (vec a e) (vec prev x) := by
          unfold crs vec
          grind
        omega
      · exact (hS.tr (d2.symm.trans d1) l2).mp s1
    · rw [if_pos t] at s
      refine ⟨(hS.tr h.d ?_).mp s.1, s.2.1, True.intro⟩
      have z : crs (vec a x) (vec prev x) = 0 := h.d.c
      rw [(tn_crs a x prev).1]
      have : crs (vec a x) (vec a prev) = crs (vec a x) (vec a x) - crs (vec a x) (vec prev x) := by
        unfold crs vec
        grind
      have : crs (vec a x) (vec a x) = 0 := by
        unfold crs
        grind
      omega
  | y :: r, a, prev, x, h, k, hl, s => by
    have k1 : Nxt rows x y := k.1
    have s : Pr S (a :: flt prev (x :: y :: (r ++ [e, f]))) := s
    have u1 : flt prev (x :: y :: (r ++ [e, f])) = if tn prev x y ≠ 0 then x :: flt x (y :: (r ++ [e, f])) else flt x (y :: (r ++ [e, f])) := by rw [flt]
    rw [u1] at s
    have hl2 : ∀ last, (x :: y :: r).getLast? = some last → tn last e f ≠ 0 := fun last hx => hl last (by rw [← hx]; rfl)
    by_cases t : tn prev x y = 0
    · rw [if_neg (fun z => z t)] at s
      obtain ⟨i1, i2⟩ := cor_ring hS nr r a x y (onc_on nr h k1 t) k.2 hl2 s
      have bt := nxt_btw nr h.n k1 t
      refine ⟨(hS.tr (btw_dir t bt).symm ?_).mp i1, i1, i2⟩
      have : tn x y prev = tn prev x y := by
        unfold tn
        grind
      omega
    · rw [if_pos t] at s
      obtain ⟨_, h2⟩ := onc_turn h k1 t
      obtain ⟨i1, i2⟩ := cor_ring hS nr r x x y h2 k.2 hl2 s.2
      refine ⟨(hS.tr h.d ?_).mp s.1, i1, i2⟩
      have z : crs (vec a x) (vec prev x) = 0 := h.d.c
      rw [(tn_crs a x prev).1]
      have : crs (vec a x) (vec a prev) = crs (vec a x) (vec a x) - crs (vec a x) (vec prev x) := by
        unfold crs vec
        grind
      have : crs (vec a x) (vec a x) = 0 := by
        unfold crs
        grind
      omega
/-! ### a place on the border is on a side of the ring -/
theorem id_1 (v1 v2 a1 a2 d : Int) : (a1 * (a1 - v1 * d) + a2 * (a2 - v2 * d)) * (v1 * v1 + v2 * v2) = (v1 * a1 + v2 * a2) * (v1 * (a1 - v1 * d) + v2 * (a2 - v2 * d)) + (v1 * a2 - v2 * a1) * (v1 * a2 - v2 * a1) := by grind
theorem id_2 (u1 u2 v1 v2 a1 a2 : Int) : (u1 * a2 - u2 * a1) * (v1 * v1 + v2 * v2) = (v1 * a1 + v2 * a2) * (u1 * v2 - u2 * v1) + (v1 * a2 - v2 * a1) * (u1 * v1 + u2 * v2) := by grind
theorem po_at (w x : Pt) (p : Plc) : po w x p = crs (vec w x) (pvec x p) := by
  unfold po crs vec pvec
  grind
theorem pvec_on (x y : Pt) (p : Plc) : pvec y p = ((pvec x p).1 - (vec x y).1 * p.d, (pvec x p).2 - (vec x y).2 * p.d) := by
  unfold pvec vec
  refine Prod.ext ?_ ?_ <;> simp only <;> grind
theorem end_ab {x y : Pt} {p : Plc} (ne : x ≠ y) (z : po x y p = 0) (h : 0 ≤ dot (vec x y) (pvec x p)) : dots x y p ≤ 0 ∨ 0 < dot (vec x y) (pvec y p) := by
  have n0 : 0 < dot (vec x y) (vec x y) := (dir_self ne).d
  have d : dots x y p * dot (vec x y) (vec x y) = dot (vec x y) (pvec x p) * dot (vec x y) (pvec y p) + po x y p * po x y p := by
    have e1 : dots x y p = dot (pvec x p) (pvec y p) := rfl
    rw [e1, po_crs, pvec_on x y p]
    exact id_1 _ _ _ _ _
  rw [z, Int.zero_mul, Int.add_zero] at d
  rcases ltge 0 (dot (vec x y) (pvec y p)) with q | q
  · exact .inr q
  · left
    have k : dots x y p * dot (vec x y) (vec x y) ≤ 0 := by
      rw [d]
      exact Int.mul_nonpos_of_nonneg_of_nonpos h q
    rcases ltge 0 (dots x y p) with w | w
    · have := Int.mul_pos w n0
      omega
    · exact w
theorem step_a {rows : List Pt} (nr : NoRow rows) {w x y : Pt} {p : Plc} (h : Nxt rows w x) (k : Nxt rows x y) (nn : 0 ≤ po w x p) (st : 0 < po w x p ∨ tn w x y ≠ 0) (z : po x y p = 0) : 0 ≤ dot (vec x y) (pvec x p) := by
  have n0 : 0 < dot (vec x y) (vec x y) := (dir_self k.1.2.2.1).d
  have ge := h.1.2.2.2 y k.1.2.1
  have e : po w x p * dot (vec x y) (vec x y) = dot (vec x y) (pvec x p) * tn w x y + po x y p * dot (vec w x) (vec x y) := by
    rw [po_at w x, po_crs x y, (tn_crs w x y).2.1]
    exact id_2 _ _ _ _ _ _
  rw [z, Int.zero_mul, Int.add_zero] at e
  by_cases t : tn w x y = 0
  · exfalso
    have l : 0 < po w x p := by
      rcases st with s | s
      · exact s
      · exact absurd t s
    rw [t, Int.mul_zero] at e
    have := Int.mul_pos l n0
    omega
  · have := mul_nn nn (Int.le_of_lt n0)
    exact of_mul_nn (b := tn w x y) (by omega) (by omega)
theorem step_b {rows : List Pt} (nr : NoRow rows) {w x y : Pt} {p : Plc} (h : Nxt rows w x) (k : Nxt rows x y) (z : po w x p = 0) (u : 0 < dot (vec w x) (pvec x p)) (nn : 0 ≤ po x y p) : tn w x y = 0 ∧ po x y p = 0 ∧ 0 < dot (vec x y) (pvec x p) := by
  have n0 : 0 < dot (vec w x) (vec w x) := (dir_self h.1.2.2.1).d
  have ge := h.1.2.2.2 y k.1.2.1
  have e : po x y p * dot (vec w x) (vec w x) = -(dot (vec w x) (pvec x p) * tn w x y) + po w x p * dot (vec x y) (vec w x) := by
    rw [po_at w x, po_crs x y, (tn_crs w x y).2.1, crs_neg (vec w x) (vec x y), Int.mul_neg, Int.neg_neg]
    exact id_2 _ _ _ _ _ _
  rw [z, Int.zero_mul, Int.add_zero] at e
  have t : tn w x y = 0 := by
    rcases Int.lt_or_eq_of_le ge with q | q
    · have := Int.mul_pos u q
      have := mul_nn nn (Int.le_of_lt n0)
      omega
    · exact q.symm
  rw [t, Int.mul_zero] at e
  have z2 : po x y p = 0 := by
    have e : po x y p * dot (vec w x) (vec w x) = 0 := by omega
    rcases Int.mul_eq_zero.mp e with q | q
    · exact q
    · omega
  refine ⟨t, z2, ?_⟩
  have d1 : Dir (vec w x) (vec x y) := btw_dir t (nxt_btw nr h k t)
  have d2 : Dir (vec w x) (pvec x p) := ⟨by
    have : crs (vec w x) (pvec x p) = po w x p := by
      unfold po crs vec pvec
      grind
    rw [this, z], u⟩
  exact (d1.symm.trans d2).d
theorem on_b {rows : List Pt} (nr : NoRow rows) {p : Plc} {e f : Pt} : ∀ (r : List Pt) (w x : Pt), Nxt rows w x → Pr (Nxt rows) (x :: (r ++ [e, f])) → (∀ last, (x :: r).getLast? = some last → tn last e f ≠ 0) → Pr (fun a b => 0 ≤ po a b p) (x :: (r ++ [e, f])) → po w x p = 0 → 0 < dot (vec w x) (pvec x p) →
    ∃ m a b n, x :: (r ++ [e]) = m ++ a :: b :: n ∧ po a b p = 0 ∧ dots a b p ≤ 0
  | [], w, x, h, k, hl, g, z, u => by
    have k1 : Nxt rows x e := k.1
    obtain ⟨t, z2, u2⟩ := step_b nr h k1 z u g.1
    rcases end_ab k1.1.2.2.1 z2 (Int.le_of_lt u2) with q | q
    · exact ⟨[], x, e, [], rfl, z2, q⟩
    · have := step_b nr k1 k.2.1 z2 q g.2.1
      exact absurd this.1 (hl x rfl)
  | y :: r, w, x, h, k, hl, g, z, u => by
    have k1 : Nxt rows x y := k.1
    obtain ⟨t, z2, u2⟩ := step_b nr h k1 z u g.1
    rcases end_ab k1.1.2.2.1 z2 (Int.le_of_lt u2) with q | q
    · exact ⟨[], x, y, r ++ [e], rfl, z2, q⟩
    · obtain ⟨m, a, b, n, i, j⟩ := on_b nr r x y k1 k.2 (fun last hx => hl last (by rw [← hx]; rfl)) g.2 z2 q
      exact ⟨x :: m, a, b, n, by rw [List.cons_append, i]; rfl, j⟩
theorem on_a {rows : List Pt} (nr : NoRow rows) {p : Plc} {e f : Pt} : ∀ (r : List Pt) (w x : Pt), Nxt rows w x → Pr (Nxt rows) (x :: (r ++ [e, f])) → (∀ last, (x :: r).getLast? = some last → tn last e f ≠ 0) → 0 ≤ po w x p → Pr (fun a b => 0 ≤ po a b p) (x :: (r ++ [e, f])) → (∀ y, (r ++ [e]).head? = some y → 0 < po w x p ∨ tn w x y ≠ 0) → ¬ Pr (fun a b => po a b p ≠ 0) (x :: (r ++ [e])) →
    ∃ m a b n, x :: (r ++ [e]) = m ++ a :: b :: n ∧ po a b p = 0 ∧ dots a b p ≤ 0
  | [], w, x, h, k, hl, nn, g, st, ex => by
    have k1 : Nxt rows x e := k.1
    by_cases z : po x e p = 0
    · rcases end_ab k1.1.2.2.1 z (step_a nr h k1 nn (st e rfl) z) with q | q
      · exact ⟨[], x, e, [], rfl, z, q⟩
      · have := step_b nr k1 k.2.1 z q g.2.1
        exact absurd this.1 (hl x rfl)
    · exact absurd ⟨z, True.intro⟩ ex
  | y :: r, w, x, h, k, hl, nn, g, st, ex => by
    have k1 : Nxt rows x y := k.1
    have hl2 : ∀ last, (y :: r).getLast? = some last → tn last e f ≠ 0 := fun last hx => hl last (by rw [← hx]; rfl)
    by_cases z : po x y p = 0
    · rcases end_ab k1.1.2.2.1 z (step_a nr h k1 nn (st y rfl) z) with q | q
      · exact ⟨[], x, y, r ++ [e], rfl, z, q⟩
      · obtain ⟨m, a, b, n, i, j⟩ := on_b nr r x y k1 k.2 hl2 g.2 z q
        exact ⟨x :: m, a, b, n, by rw [List.cons_append, i]; rfl, j⟩
    · have pos : 0 < po x y p := by
        have : 0 ≤ po x y p := g.1
        omega
      obtain ⟨m, a, b, n, i, j⟩ := on_a nr r x y k1 k.2 hl2 (Int.le_of_lt pos) g.2 (fun _ _ => .inl pos) fun q => ex ⟨z, q⟩
      exact ⟨x :: m, a, b, n, by rw [List.cons_append, i]; rfl, j⟩
/-! ### inside, on the border, outside -/
/-- a ring: its corners, its last one, and what is known of it -/
structure Rng (rows : List Pt) (p0 last p1 : Pt) (m1 : List Pt) : Prop where
  nr : NoRow rows
  oc : OnC rows p0 p0 p1
  long : Pr (Nxt rows) (p1 :: (m1 ++ [p0, p1]))
  hl : (p0 :: p1 :: m1).getLast? = some last
  turn : tn last p0 p1 ≠ 0
section
variable {rows m1 : List Pt} {p0 last p1 : Pt}
theorem Rng.hl2 (g : Rng rows p0 last p1 m1) : ∀ x, (p0 :: p1 :: m1).getLast? = some x → tn x p0 p1 ≠ 0 := fun x hx => by
  rw [g.hl] at hx
  rw [← Option.some.inj hx]
  exact g.turn
theorem pr_cut {R : Pt → Pt → Prop} {e f : Pt} : ∀ (l : List Pt), Pr R (l ++ [e, f]) → Pr R (l ++ [e])
  | [], _ => True.intro
  | [a], h => ⟨h.1, True.intro⟩
  | a :: b :: l, h => ⟨h.1, pr_cut (b :: l) h.2⟩
theorem Rng.ring (g : Rng rows p0 last p1 m1) : Pr (Nxt rows) (p0 :: p1 :: (m1 ++ [p0])) := ⟨g.oc.n, pr_cut (p1 :: m1) g.long⟩
theorem Rng.iff (g : Rng rows p0 last p1 m1) {S : Pt → Pt → Prop} (hS : Sgn S) : Pr S (p0 :: (flt p0 (p1 :: (m1 ++ [p0])) ++ [p0])) ↔ Pr S (p0 :: p1 :: (m1 ++ [p0])) := by
  have fl := flt_last (e := p0) (f := p1) (p1 :: m1) p0 g.hl2
  have fl : flt p0 (p1 :: (m1 ++ [p0, p1])) = flt p0 (p1 :: (m1 ++ [p0])) ++ [p0] := fl
  rw [← fl]
  constructor
  · intro s
    exact cor_ring hS g.nr m1 p0 p0 p1 g.oc g.long g.hl2 s
  · intro s
    exact ring_cor hS g.nr (m1 ++ [p0, p1]) p0 p0 p1 g.oc g.long s.1 (pr_app (l := p1 :: m1) s.2 ⟨s.1, True.intro⟩)
theorem pr_get {R : Pt → Pt → Prop} {a b : Pt} {n : List Pt} : ∀ (m : List Pt), Pr R (m ++ a :: b :: n) → R a b
  | [], h => h.1
  | [_], h => h.2.1
  | _ :: y :: m, h => pr_get (y :: m) h.2
theorem pr_not {R : Pt → Pt → Prop} : ∀ (l : List Pt), ¬ Pr R l → ∃ m a b n, l = m ++ a :: b :: n ∧ ¬ R a b
  | [], h => absurd True.intro h
  | [_], h => absurd True.intro h
  | a :: b :: l, h => by
    by_cases z : R a b
    · obtain ⟨m, x, y, n, e, k⟩ := pr_not (b :: l) fun q => h ⟨z, q⟩
      exact ⟨a :: m, x, y, n, by rw [e]; rfl, k⟩
    · exact ⟨[], a, b, l, rfl, z⟩
/-- strictly within: on no side, in a triangle of the fan -/
theorem Rng.inside (g : Rng rows p0 last p1 m1) {p : Plc} (hd : 0 < p.d) (s : Pr (fun a b => 0 < po a b p) (p0 :: p1 :: (m1 ++ [p0]))) :
    ∃ m b c n, p1 :: m1 = m ++ b :: c :: n ∧ 0 ≤ po p0 b p ∧ 0 ≤ po b c p ∧ 0 ≤ po c p0 p ∧ 0 < tn p0 b c := by
  have lz : (p1 :: m1).getLast? = some last := g.hl
  have s2 : Pr (fun a b => 0 < po a b p) ((p1 :: m1) ++ [p0]) := s.2
  have zl := pr_end (p1 :: m1) lz s2
  have z2 : po p0 last p ≤ 0 := by
    rw [po_swap last p0] 
    omega
  have ne : m1 ≠ [] := fun z => by
    subst z
    have h1 : 0 < po p0 p1 p := s.1
    have h2 : 0 < po p1 p0 p := s.2.1
    rw [po_swap p0 p1] at h2
    omega
  obtain ⟨b, c, m, n, e, k1, k2⟩ := fan_meets (f := p0) (p := p) m1 p1 last lz (Int.le_of_lt s.1) z2 ne
  have bc : 0 < po b c p := by
    have q : Pr (fun a b => 0 < po a b p) (m ++ b :: c :: (n ++ [p0])) := by
      have : m ++ b :: c :: (n ++ [p0]) = (p1 :: m1) ++ [p0] := by
        rw [e]
        simp
      rw [this]
      exact s2
    exact pr_get m q
  have k3 : 0 ≤ po c p0 p := by
    rw [po_swap p0 c]
    omega
  exact ⟨m, b, c, n, e, k1, Int.le_of_lt bc, k3, fan_area hd k1 bc k3⟩
/-- on the border: on a side -/
theorem Rng.border (g : Rng rows p0 last p1 m1) {p : Plc} (s : Pr (fun a b => 0 ≤ po a b p) (p0 :: p1 :: (m1 ++ [p0]))) (z : ¬ Pr (fun a b => po a b p ≠ 0) (p0 :: p1 :: (m1 ++ [p0]))) :
    ∃ m a b n, p0 :: p1 :: (m1 ++ [p0]) = m ++ a :: b :: n ∧ po a b p = 0 ∧ dots a b p ≤ 0 := by
  have kl := pr_end (p0 :: p1 :: m1) g.hl g.ring
  have sl := pr_end (p0 :: p1 :: m1) g.hl s
  exact on_a g.nr (p1 :: m1) last p0 kl ⟨g.oc.n, g.long⟩ g.hl2 sl (pr_app (l := p0 :: p1 :: m1) s ⟨s.1, True.intro⟩) (fun y hy => by
    obtain rfl : p1 = y := Option.some.inj hy
    exact .inr g.turn) z
/-- outside: on no stretch between sites, in no triangle of sites -/
theorem Rng.outside (g : Rng rows p0 last p1 m1) {p : Plc} (hd : 0 < p.d) (s : ¬ Pr (fun a b => 0 ≤ po a b p) (p0 :: p1 :: (m1 ++ [p0]))) :
    (∀ a b, a ∈ rows → b ∈ rows → a ≠ b → po a b p = 0 → ¬ dots a b p ≤ 0) ∧ ∀ a b c, a ∈ rows → b ∈ rows → c ∈ rows → 0 < tn a b c → 0 ≤ po a b p → 0 ≤ po b c p → 0 ≤ po c a p → False := by
  obtain ⟨m, u, v, n, e, k⟩ := pr_not _ s
  have r := g.ring
  rw [e] at r
  have sup := (pr_get m r).1
  exact ⟨fun a b ha hb ne z d => k (po_str hd ne z d (sup.2.2.2 a ha) (sup.2.2.2 b hb)), fun a b c ha hb hc t h1 h2 h3 => k (po_tri t h1 h2 h3 (sup.2.2.2 a ha) (sup.2.2.2 b hb) (sup.2.2.2 c hc))⟩
end
/-! ### sites in a row -/
theorem row_stk {rows : List Pt} {p0 q : Pt} (so : rows.Pairwise lt2) (h0 : rows.head? = some p0) (hq : rows.getLast? = some q) (n2 : p0 ≠ q) (row : ∀ a ∈ rows, ∀ b ∈ rows, ∀ c ∈ rows, tn a b c = 0) : stk 1 rows = [q, p0] := by
  obtain ⟨m, e, hm⟩ := stk_ends (by decide) (by decide) (least := 1) so h0 hq n2
  cases rows with
  | nil => cases h0
  | cons r0 rows =>
    have c := chn_all (least := 1) (by decide) (by decide) rows r0 so
    rw [← stk_cons, e] at c
    rw [e]
    cases m with
    | nil => rfl
    | cons x m =>
      exfalso
      obtain ⟨y, l, ey⟩ : ∃ y l, m ++ [p0] = y :: l := by
        cases m with
        | nil => exact ⟨p0, [], rfl⟩
        | cons y m => exact ⟨y, m ++ [p0], rfl⟩
      have cv := c.cvx
      have sub := c.sub
      rw [List.cons_append, ey] at cv sub
      have t := row y (sub y (by simp)) x (sub x (by simp)) q (sub q (by simp))
      have k : 1 ≤ tn y x q := cv.1
      omega
/-- the corners of a row: its ends -/
theorem row_corners {rows : List Pt} {p0 q : Pt} (so : rows.Pairwise lt2) (h0 : rows.head? = some p0) (hq : rows.getLast? = some q) (n2 : p0 ≠ q) (row : ∀ a ∈ rows, ∀ b ∈ rows, ∀ c ∈ rows, tn a b c = 0) :
    (stk 1 rows).reverse.dropLast ++ (stk 1 rows.reverse).reverse.dropLast = [p0, q] := by
  rw [row_stk so h0 hq n2 row]
  have so' := rev_srt so
  have r2 := row_stk so' (p0 := ng q) (q := ng p0) (by rw [List.head?_map, List.head?_reverse, hq]; rfl) (by rw [List.getLast?_map, List.getLast?_reverse, h0]; rfl) (fun z => n2 (by rw [← ng_ng p0, ← ng_ng q, z])) (fun a ha b hb c hc => by
    obtain ⟨a', ha', rfl⟩ := List.mem_map.mp ha
    obtain ⟨b', hb', rfl⟩ := List.mem_map.mp hb
    obtain ⟨c', hc', rfl⟩ := List.mem_map.mp hc
    rw [tn_ng]
    exact row _ (List.mem_reverse.mp ha') _ (List.mem_reverse.mp hb') _ (List.mem_reverse.mp hc'))
  have e2 : stk 1 rows.reverse = [p0, q] := by
    have := congrArg (List.map ng) r2
    rw [← stk_ng, List.map_map, show (ng ∘ ng) = id from funext ng_ng, List.map_id, List.map_cons, List.map_cons, List.map_nil, ng_ng, ng_ng] at this
    exact this
  rw [e2]
  rfl
/-- all on the line of two of them: all in a row -/
theorem row_of {rows : List Pt} {p0 q : Pt} (n2 : p0 ≠ q) (h : ∀ p ∈ rows, tn p0 q p = 0) : ∀ a ∈ rows, ∀ b ∈ rows, ∀ c ∈ rows, tn a b c = 0 := by
  intro a ha b hb c hc
  have e1 := h a ha
  have e2 := h b hb
  have e3 := h c hc
  have key : tn a b c * (q.1 - p0.1) = 0 ∧ tn a b c * (q.2 - p0.2) = 0 := by
    unfold tn at *
    constructor <;> grind
  by_cases z : tn a b c = 0
  · exact z
  · exfalso
    have k1 : q.1 - p0.1 = 0 := by
      rcases Int.mul_eq_zero.mp key.1 with y | y
      · exact absurd y z
      · exact y
    have k2 : q.2 - p0.2 = 0 := by
      rcases Int.mul_eq_zero.mp key.2 with y | y
      · exact absurd y z
      · exact y
    exact n2 (Prod.ext (by omega) (by omega))
/-- a stretch's place is on one of the stretches that it is cut into, or on none -/
theorem str_sub {a b u v : Pt} {p : Plc} (hd : 0 < p.d) (nuv : u ≠ v) (nab : a ≠ b) (hu : tn a b u = 0) (hv : tn a b v = 0) (su : dots a b ⟨u.1, u.2, 1⟩ ≤ 0) (sv : dots a b ⟨v.1, v.2, 1⟩ ≤ 0) (z : po u v p = 0) (d : dots u v p ≤ 0) : po a b p = 0 := by
  have e : po a b p * dot (vec u v) (vec u v) = p.d * tn a b u * dot (vec u v) (vec u v) + ((p.x - u.1 * p.d) * (v.1 - u.1) + (p.y - u.2 * p.d) * (v.2 - u.2)) * (tn a b v - tn a b u) + po u v p * dot (vec a b) (vec u v) := by
    unfold po tn dot vec
    grind
  rw [hu, hv, z, Int.mul_zero, Int.zero_mul, Int.sub_self, Int.mul_zero, Int.zero_mul, Int.add_zero, Int.add_zero] at e
  rcases Int.mul_eq_zero.mp e with y | y
  · exact y
  · have := (dir_self nuv).d
    omega
/-! ### sites in a row, by the program's chains -/
/-- all in a row -/
def Row (rows : List Pt) : Prop := ∀ a ∈ rows, ∀ b ∈ rows, ∀ c ∈ rows, tn a b c = 0
theorem one_of {rows : List Pt} {p0 : Pt} (so : rows.Pairwise lt2) (h0 : rows.head? = some p0) (hq : rows.getLast? = some p0) : rows = [p0] := by
  cases rows with
  | nil => cases h0
  | cons r rows =>
    cases h0
    cases rows with
    | nil => rfl
    | cons s rows =>
      exfalso
      have m : p0 ∈ s :: rows := by
        rw [List.getLast?_cons_cons] at hq
        exact List.mem_of_getLast? hq
      have := (List.pairwise_cons.mp so).1 _ m
      unfold lt2 at this
      omega
theorem row_iff {rows : List Pt} {p0 q : Pt} (so : rows.Pairwise lt2) (h0 : rows.head? = some p0) (hq : rows.getLast? = some q) : Row rows ↔ ∀ p ∈ rows, tn p0 q p = 0 := by
  constructor
  · exact fun h p hp => h _ (List.mem_of_head? h0) _ (List.mem_of_getLast? hq) _ hp
  · intro h
    by_cases n2 : p0 = q
    · subst n2
      rw [one_of so h0 hq]
      intro a ha b hb c hc
      rw [List.mem_singleton.mp ha, List.mem_singleton.mp hb, List.mem_singleton.mp hc]
      exact tn_zero_self _ _
    · exact row_of n2 h
theorem tm_zero {a b c : Pt} (h : tn a b c = 0) : tm a b c = 0 := by unfold tm; omega
theorem part_all {T : Sgt} {p0 q : Pt} {rows : List Pt} (h : ∀ p ∈ rows, T p0 q p ≤ 0) : part T p0 q rows = rows := List.filter_eq_self.mpr fun p hp => decide_eq_true (h p hp)
theorem row_stkG {T : Sgt} (ax : Ax T) {rows : List Pt} {p0 q : Pt} (so : rows.Pairwise lt2) (h0 : rows.head? = some p0) (hq : rows.getLast? = some q) (n2 : p0 ≠ q) (row : ∀ a ∈ rows, ∀ b ∈ rows, ∀ c ∈ rows, T a b c = 0) : stkG T 1 rows = [q, p0] := by
  obtain ⟨m, e, hm⟩ := stk_endsG ax (by decide) (by decide) (least := 1) so h0 hq n2
  cases rows with
  | nil => cases h0
  | cons r0 rows =>
    have c := chn_allG ax (least := 1) (by decide) (by decide) rows r0 so
    rw [← stk_consG, e] at c
    rw [e]
    cases m with
    | nil => rfl
    | cons x m =>
      exfalso
      obtain ⟨y, l, ey⟩ : ∃ y l, m ++ [p0] = y :: l := by
        cases m with
        | nil => exact ⟨p0, [], rfl⟩
        | cons y m => exact ⟨y, m ++ [p0], rfl⟩
      have cv := c.cvx
      have sub := c.sub
      rw [List.cons_append, ey] at cv sub
      have t := row y (sub y (by simp)) x (sub x (by simp)) q (sub q (by simp))
      have k : 1 ≤ T y x q := cv.1
      omega
theorem row_cornN {rows : List Pt} {p0 q : Pt} (so : rows.Pairwise lt2) (h0 : rows.head? = some p0) (hq : rows.getLast? = some q) (n2 : p0 ≠ q) (row : Row rows) : cornN p0 q rows = [p0, q] := by
  have z := (row_iff so h0 hq).mp row
  unfold cornN
  rw [part_all (T := tn) fun p hp => Int.le_of_eq (z p hp), part_all (T := tm) fun p hp => Int.le_of_eq (tm_zero (z p hp)), row_stkG ax_tn so h0 hq n2 row, row_stkG ax_tm so h0 hq n2 fun a ha b hb c hc => tm_zero (row a ha b hb c hc)]
  rfl
theorem one_cornN (p : Pt) : cornN p p [p] = [p] := by
  have z : ∀ T : Sgt, T p p p ≤ 0 → part T p p [p] = [p] := fun T h => part_all fun x hx => by rw [List.mem_singleton.mp hx]; exact h
  unfold cornN
  rw [z tn (Int.le_of_eq (tn_zero_self _ _)), z tm (Int.le_of_eq (tm_zero (tn_zero_self _ _)))]
  rfl
/-- the border of ascending sites -/
def Brd (p0 q : Pt) (rows : List Pt) (b : List Pt) : Prop := (Row rows → b = rows) ∧ (¬ Row rows → b = bordN p0 q rows)
/-! ### the law's own walk along the border -/
theorem pr_at {R : Pt → Pt → Prop} : ∀ {l : List Pt} {i : Nat} {a b : Pt}, Pr R l → l[i]? = some a → l[i + 1]? = some b → R a b
  | [], _, _, _, _, h, _ => by cases h
  | [_], _, _, _, _, _, k => by cases k
  | x :: y :: l, 0, a, b, p, h, k => by
    cases h
    cases k
    exact p.1
  | x :: y :: l, i + 1, a, b, p, h, k => pr_at (l := y :: l) p.2 h k
theorem pr_mem {rows : List Pt} : ∀ {l : List Pt} {a : Pt}, Pr (Nxt rows) (a :: l) → l ≠ [] → a ∈ rows
  | [], _, _, h => absurd rfl h
  | b :: l, a, p, _ => p.1.1.1
theorem pr_sub {rows : List Pt} {e : Pt} : ∀ {l : List Pt}, Pr (Nxt rows) (l ++ [e]) → ∀ x ∈ l, x ∈ rows
  | [], _, x, h => by cases h
  | a :: l, p, x, h => by
    rcases List.mem_cons.mp h with rfl | h
    · exact pr_mem (l := l ++ [e]) p (by simp)
    · cases l with
      | nil => cases h
      | cons b l => exact pr_sub (l := b :: l) p.2 x h
theorem nodup_le {l m : List Pt} (n : l.Nodup) (h : ∀ x ∈ l, x ∈ m) : l.length ≤ m.length := by
  induction l generalizing m with
  | nil => exact Nat.zero_le _
  | cons a l ih =>
    obtain ⟨n1, n2⟩ := List.nodup_cons.mp n
    have ha := h a List.mem_cons_self
    have k := ih (m := m.erase a) n2 fun x hx => (List.mem_erase_of_ne fun e => n1 (by rw [← e]; exact hx)).mpr (h x (List.mem_cons_of_mem _ hx))
    have e := List.length_erase_of_mem ha
    have p := List.length_pos_of_mem ha
    rw [List.length_cons]
    omega
/-- the border as a ring from its first one -/
structure RingB (rows : List Pt) (p0 : Pt) (mid : List Pt) : Prop where
  nr : NoRow rows
  n0 : p0 ∉ mid
  pr : Pr (Nxt rows) (p0 :: (mid ++ [p0]))
theorem RingB.few {rows : List Pt} {p0 : Pt} {mid : List Pt} (r : RingB rows p0 mid) : mid.length + 1 ≤ rows.length :=
  nodup_le (l := p0 :: mid) (ring_nodup (R := Nxt rows) (fun _ _ _ => nxt_uniq r.nr) mid p0 r.pr r.n0) (pr_sub (l := p0 :: mid) r.pr)
theorem RingB.step {rows : List Pt} {p0 : Pt} {mid : List Pt} (r : RingB rows p0 mid) {i : Nat} (hi : i ≤ mid.length) : ∃ h x, (p0 :: mid)[i]? = some h ∧ Nxt rows h x ∧ (x = p0 → i = mid.length) ∧ (x ≠ p0 → i < mid.length ∧ (p0 :: mid)[i + 1]? = some x) := by
  have l1 : i < (p0 :: mid).length := by rw [List.length_cons]; omega
  have l2 : i + 1 < (p0 :: (mid ++ [p0])).length := by simp; omega
  have e1 : (p0 :: (mid ++ [p0]))[i]? = some ((p0 :: mid)[i]'l1) := by
    rw [← List.cons_append, List.getElem?_append_left l1, List.getElem?_eq_getElem l1]
  refine ⟨(p0 :: mid)[i]'l1, (p0 :: (mid ++ [p0]))[i + 1]'l2, List.getElem?_eq_getElem l1, pr_at r.pr e1 (List.getElem?_eq_getElem l2), fun e => ?_, fun e => ?_⟩
  · by_cases c : i < mid.length
    · exfalso
      apply r.n0
      rw [← e]
      have : (p0 :: (mid ++ [p0]))[i + 1]'l2 = mid[i] := by
        simp only [List.getElem_cons_succ]
        rw [List.getElem_append_left c]
      rw [this]
      exact List.getElem_mem c
    · omega
  · have c : i < mid.length := by
      rcases Nat.lt_or_ge i mid.length with c | c
      · exact c
      · exfalso
        apply e
        have ei : i = mid.length := by omega
        subst ei
        simp
    refine ⟨c, ?_⟩
    have l3 : i + 1 < (p0 :: mid).length := by rw [List.length_cons]; omega
    rw [List.getElem?_eq_getElem l3]
    congr 1
    simp only [List.getElem_cons_succ]
    rw [List.getElem_append_left c]
theorem ringB_of {rows : List Pt} {p0 q : Pt} (so : rows.Pairwise lt2) (h0 : rows.head? = some p0) (hq : rows.getLast? = some q) (nr : ¬ Row rows) : ∃ mid, bordN p0 q rows = p0 :: mid ∧ RingB rows p0 mid := by
  have n2 : p0 ≠ q := by
    rintro rfl
    refine nr ((row_iff so h0 hq).mpr fun p hp => ?_)
    unfold tn
    simp
  obtain ⟨mid, e, n0, pr⟩ := ringN so h0 hq n2
  refine ⟨mid, e, noRow_of (List.mem_of_head? h0) (List.mem_of_getLast? hq) n2 ?_, n0, pr⟩
  refine Classical.byContradiction fun z => nr ((row_iff so h0 hq).mpr fun p hp => Classical.byContradiction fun y => z ⟨p, hp, y⟩)
/-! ### the ring and its corners, by the program's chains -/
theorem ring_rng {rows : List Pt} {p0 q : Pt} (so : rows.Pairwise lt2) (h0 : rows.head? = some p0) (hq : rows.getLast? = some q) (nr : ¬ Row rows) :
    ∃ p1 m1 last, bordN p0 q rows = p0 :: p1 :: m1 ∧ RingB rows p0 (p1 :: m1) ∧ Rng rows p0 last p1 m1 ∧ flt last (p0 :: (p1 :: m1) ++ [p0]) = cornN p0 q rows := by
  have n2 : p0 ≠ q := by
    rintro rfl
    refine nr ((row_iff so h0 hq).mpr fun p hp => ?_)
    unfold tn
    simp
  obtain ⟨mid, e, r⟩ := ringB_of so h0 hq nr
  obtain ⟨last, hl⟩ : ∃ last, (p0 :: mid).getLast? = some last := ⟨_, List.getLast?_eq_some_getLast (by simp)⟩
  obtain ⟨ec, p1, m1, rfl, oc, lg, tl⟩ := corners_is r.nr so h0 hq n2 r.n0 r.pr hl
  exact ⟨p1, m1, last, e, r, ⟨r.nr, oc, lg, hl, tl⟩, ec.trans (cornN_is r.nr so h0 hq n2).symm⟩
theorem Rng.notRow {rows m1 : List Pt} {p0 last p1 : Pt} (g : Rng rows p0 last p1 m1) : ¬ Row (p0 :: p1 :: m1) := fun z =>
  g.turn (z last (List.mem_of_getLast? g.hl) p0 (by simp) p1 (by simp))
theorem flt_one (a b : Pt) : flt a [b] = [] := rfl
theorem flt_two (a x y : Pt) (r : List Pt) : flt a (x :: y :: r) = (if tn a x y ≠ 0 then [x] else []) ++ flt x (y :: r) := by
  rw [flt]
  split <;> rfl
/-! ### where: the law's answer and the program's -/
theorem no_two {m n l : List Pt} {a b : Pt} (e : l = m ++ a :: b :: n) : 2 ≤ l.length := by
  rw [e]
  simp
  omega
theorem zip_next : ∀ {l : List Pt} {a b : Pt}, (a, b) ∈ l.zip (l.drop 1) ↔ ∃ m n, l = m ++ a :: b :: n
  | [], a, b => ⟨fun h => (nomatch h), fun ⟨m, n, e⟩ => absurd (no_two e) (by simp)⟩
  | [x], a, b => ⟨fun h => (nomatch h), fun ⟨m, n, e⟩ => absurd (no_two e) (by simp)⟩
  | x :: y :: l, a, b => by
    have ih := zip_next (l := y :: l) (a := a) (b := b)
    show (a, b) ∈ (x, y) :: (y :: l).zip l ↔ _
    rw [List.mem_cons]
    constructor
    · rintro (h | h)
      · cases h
        exact ⟨[], l, rfl⟩
      · obtain ⟨m, n, e⟩ := ih.mp h
        exact ⟨x :: m, n, by rw [e]; rfl⟩
    · rintro ⟨m, n, e⟩
      cases m with
      | nil =>
        cases e
        exact .inl rfl
      | cons z m =>
        rw [List.cons_append] at e
        injection e with e1 e2
        exact .inr (ih.mpr ⟨m, n, e2⟩)
theorem zip_drop_last : ∀ {l k : List Pt}, k.length < l.length → l.dropLast.zip k = l.zip k
  | [], _, h => by cases h
  | [x], [], _ => rfl
  | [x], _ :: _, h => by simp at h
  | x :: y :: l, [], _ => by simp
  | x :: y :: l, z :: k, h => by
    have := zip_drop_last (l := y :: l) (k := k) (by simpa using h)
    rw [List.dropLast_cons_of_ne_nil (by simp), List.zip_cons_cons, List.zip_cons_cons, this]
/-- the pairs that the law walks: all stretches of the closed ring -/
theorem zip_ring {p0 last : Pt} {l : List Pt} (hl : (p0 :: l).getLast? = some last) {a b : Pt} : (a, b) ∈ (last :: (p0 :: l).dropLast).zip (p0 :: l) ↔ ∃ m n, p0 :: l ++ [p0] = m ++ a :: b :: n := by
  rw [List.zip_cons_cons, zip_drop_last (by simp), List.mem_cons]
  have zn := zip_next (l := p0 :: l) (a := a) (b := b)
  rw [show (p0 :: l).drop 1 = l from rfl] at zn
  rw [zn]
  obtain ⟨ini, ei⟩ := List.getLast?_eq_some_iff.mp hl
  constructor
  · rintro (h | ⟨m, n, e⟩)
    · cases h
      exact ⟨ini, [], by rw [ei, List.append_assoc]; rfl⟩
    · exact ⟨m, n ++ [p0], by rw [e]; simp⟩
  · rintro ⟨m, n, e⟩
    rcases List.eq_nil_or_concat n with rfl | ⟨n', z, rfl⟩
    · left
      have e2 : p0 :: l ++ [p0] = (m ++ [a]) ++ [b] := by rw [e]; simp
      obtain ⟨e3, e4⟩ := List.append_inj' e2 rfl
      cases e4
      rw [e3, List.getLast?_append] at hl
      simp at hl
      rw [hl]
    · right
      have e2 : p0 :: l ++ [p0] = (m ++ a :: b :: n') ++ [z] := by rw [e]; simp
      obtain ⟨e3, e4⟩ := List.append_inj' e2 rfl
      exact ⟨m, n', e3⟩
/-- the law finds the place on a stretch of the ring -/
def Hit (p : Plc) (last : Pt) (ring : List Pt) : Prop := ∃ a b, (a, b) ∈ (last :: ring.dropLast).zip ring ∧ po a b p = 0 ∧ dots a b p ≤ 0
/-- the law finds the place in a triangle of the fan -/
def InFan (p : Plc) (p0 : Pt) (l : List Pt) : Prop := ∃ m b c n, l = m ++ b :: c :: n ∧ 0 ≤ po p0 b p ∧ 0 ≤ po b c p ∧ 0 ≤ po c p0 p ∧ 0 < tn p0 b c
section
variable {rows m1 : List Pt} {p0 q last p1 : Pt} {p : Plc}
theorem pr_all {R : Pt → Pt → Prop} : ∀ {l : List Pt}, Pr R l ↔ ∀ m a b n, l = m ++ a :: b :: n → R a b
  | [] => ⟨fun _ m a b n e => absurd (no_two e) (by simp), fun _ => True.intro⟩
  | [x] => ⟨fun _ m a b n e => absurd (no_two e) (by simp), fun _ => True.intro⟩
  | x :: y :: l => by
    constructor
    · rintro ⟨h, k⟩ m a b n e
      cases m with
      | nil => cases e; exact h
      | cons z m =>
        rw [List.cons_append] at e
        injection e with e1 e2
        exact (pr_all (l := y :: l)).mp k m a b n e2
    · intro h
      exact ⟨h [] x y l rfl, (pr_all (l := y :: l)).mpr fun m a b n e => h (x :: m) a b n (by rw [e]; rfl)⟩
/-- inside: on no stretch, in a triangle -/
theorem where_in (g : Rng rows p0 last p1 m1) (hd : 0 < p.d) (s : Pr (fun a b => 0 < po a b p) (p0 :: p1 :: (m1 ++ [p0]))) : ¬ Hit p last (p0 :: p1 :: m1) ∧ InFan p p0 (p1 :: m1) := by
  refine ⟨fun ⟨a, b, h, z, _⟩ => ?_, g.inside hd s⟩
  obtain ⟨m, n, e⟩ := (zip_ring g.hl).mp h
  have := pr_all.mp s m a b n e
  omega
theorem where_on (g : Rng rows p0 last p1 m1) (s : Pr (fun a b => 0 ≤ po a b p) (p0 :: p1 :: (m1 ++ [p0]))) (z : ¬ Pr (fun a b => po a b p ≠ 0) (p0 :: p1 :: (m1 ++ [p0]))) : Hit p last (p0 :: p1 :: m1) := by
  obtain ⟨m, a, b, n, e, h1, h2⟩ := g.border s z
  exact ⟨a, b, (zip_ring g.hl).mpr ⟨m, n, e⟩, h1, h2⟩
theorem where_out (g : Rng rows p0 last p1 m1) (sub : ∀ x ∈ p0 :: p1 :: m1, x ∈ rows) (hd : 0 < p.d) (s : ¬ Pr (fun a b => 0 ≤ po a b p) (p0 :: p1 :: (m1 ++ [p0]))) : ¬ Hit p last (p0 :: p1 :: m1) ∧ ¬ InFan p p0 (p1 :: m1) := by
  obtain ⟨h1, h2⟩ := g.outside hd s
  refine ⟨fun ⟨a, b, h, z, d⟩ => ?_, fun ⟨m, b, c, n, e, a1, a2, a3, t⟩ => ?_⟩
  · obtain ⟨m, n, e⟩ := (zip_ring g.hl).mp h
    have nx := pr_all.mp g.ring m a b n e
    exact h1 a b nx.1.1 nx.1.2.1 nx.1.2.2.1 z d
  · exact h2 p0 b c (sub _ (by simp)) (sub _ (by rw [e]; simp)) (sub _ (by rw [e]; simp)) t a1 a2 a3
end
/-! ### the program's own defs: what a site is -/
abbrev sIsSite : Stmt := topS 6
abbrev sCheck : Stmt := topS 7
theorem scIsSite : FnScope ["value", "x", "y"] ["value"] (defScope sIsSite) := ⟨rfl, rfl, rfl, by decide +kernel, rfl, by decide +kernel, by decide +kernel⟩
theorem scCheck : FnScope ["value", "name"] ["value", "name"] (defScope sCheck) := ⟨rfl, rfl, rfl, by decide +kernel, rfl, by decide +kernel, by decide +kernel⟩
section
variable {P : Program} {w : World} {K : PySem.W.Frag} {mg : Str → Option Value} {base : Heap}
/-- a number is neither True nor False -/
theorem op_isIB {X : Cx} : OpR X (compareOp .Is) (fun x y H Q => ∃ (n : Int) (b : Bool), x = .int n ∧ y = .bl b ∧ Q (.bl false) H) := by
  intro pins s σ H x y v u Q I rx ry h
  obtain ⟨n, b, rfl, rfl, q⟩ := h
  obtain ⟨t, rfl⟩ := rx
  cases (show u = Value.bool b from ry)
  exact wpAny_is_other rfl (fun z => by cases z) ⟨.bl false, H, I, rfl, q⟩
theorem itf {p A B : Prop} [Decidable p] (h : ¬ p) (b : B) : if decide p = true then A else B := by
  rw [decide_eq_false h]
  exact b
theorem itt {p A B : Prop} [Decidable p] (h : p) (a : A) : if decide p = true then A else B := by
  rw [decide_eq_true h]
  exact a
theorem kTT (K : PySem.W.Frag) : PySem.W.kitOne K (.type "tuple") (.type "tuple") = some true := kit_ty (by decide +kernel)
theorem kII (K : PySem.W.Frag) : PySem.W.kitOne K (.type "int") (.type "int") = some true := kit_ty (by decide +kernel)
/-- a site -/
def spIsSite : Sp := fun vs H Q _ => ∃ (t : Addr) (x y : Int), vs = [.ref t] ∧ Sit H t x y ∧ Bd 1000000 x y ∧ Q (.bl true) H
theorem ok_issite {f : Addr} {fd : FuncData} {k : Nat} (F : Fun K "is_site" "is_site" sIsSite f fd) (misinstance : mg "isinstance" = none) (mtuple : mg "tuple" = none) (mint : mg "int" = none) (mlen : mg "len" = none) : FnOk P w K mg base CX0 (k + 1) f fd ["value"] spIsSite := by
  refine F.ok scIsSite (fun vs H Q E h => ?_) (fun cdv A outer s H vs Q E hr h => ?_)
  · obtain ⟨t, x, y, rfl, _⟩ := h
    rfl
  · obtain ⟨t, x, y, rfl, h, d, q⟩ := h
    have nd := scIsSite.nd
    obtain ⟨d1, d2, d3, d4⟩ := d
    refine ⟨_, (pss_cons (ps_if (PW.pt (pw_or (pt_not (pt_val (pe_callB call_isi (by rfl) misinstance (by decide +kernel) (pa_cons (pv 0) (pa_cons (pe_bltn (v := .ty "tuple") (by rfl) mtuple (by decide +kernel) rfl) pa_nil))))) (pw_or1 (pt_cmpR op_ne (pe_callB call_len_seq (by rfl) mlen (by decide +kernel) (pa_cons (pv 0) pa_nil)) pe_int (nomark _))))) (pss_one (ps_ret pe_bl)) pss_nil) (pss_cons (ps_asg (pv 0) (pg_tup (by rfl) (pgs_cons (pg_name (i := 1) nd rfl (.inl rfl)) (pgs_cons (pg_name (i := 2) nd rfl (.inl rfl)) pgs_nil)))) (pss_cons (ps_if (PW.pt (pw_or (pt_not (pt_val (pe_callB call_isi (by rfl) misinstance (by decide +kernel) (pa_cons (pv 1) (pa_cons (pe_bltn (v := .ty "int") (by rfl) mint (by decide +kernel) rfl) pa_nil))))) (pw_or1 (pt_not (pt_val (pe_callB call_isi (by rfl) misinstance (by decide +kernel) (pa_cons (pv 2) (pa_cons (pe_bltn (v := .ty "int") (by rfl) mint (by decide +kernel) rfl) pa_nil)))))))) (pss_one (ps_ret pe_bl)) pss_nil) (pss_cons (ps_if (PW.pt (pw_or (pt_cmpR op_isIB (pv 1) pe_bl (nomark _)) (pw_or (pt_cmpR op_isIB (pv 1) pe_bl (nomark _)) (pw_or (pt_cmpR op_isIB (pv 2) pe_bl (nomark _)) (pw_or1 (pt_cmpR op_isIB (pv 2) pe_bl (nomark _))))))) (pss_one (ps_ret pe_bl)) pss_nil) (pss_cons (ps_if (PW.pt (pw_or (pt_cmpR op_gt (pv 1) pe_int (nomark _)) (pw_or (pt_cmpR op_lt (pv 1) pe_neg (nomark _)) (pw_or (pt_cmpR op_gt (pv 2) pe_int (nomark _)) (pw_or1 (pt_cmpR op_lt (pv 2) pe_neg (nomark _))))))) (pss_one (ps_ret pe_bl)) pss_nil) (pss_one (ps_ret pe_bl))))))), ?_⟩
    exact ⟨_, rfl, _, _, _, _, _, rfl, .ty "tuple", .base (.tup h), kTT K, _, rfl, _, rfl, _, _, rfl, .inr (SqT.of h), rfl, _, rfl, _, rfl, _, _, rfl, SqT.of h, rfl, _, _, rfl, _, _, rfl, rfl, _, rfl, _, _, _, _, _, rfl, .ty "int", .base (.int _), kII K, _, rfl, _, rfl, _, _, _, _, _, rfl, .ty "int", .base (.int _), kII K, _, rfl, _, rfl, _, _, rfl, rfl, _, rfl, _, rfl, _, _, rfl, rfl, _, rfl, _, rfl, _, _, rfl, rfl, _, rfl, _, rfl, _, _, rfl, rfl, _, rfl, _, rfl, _, _, rfl, rfl, _, rfl, itf (by omega) ⟨_, rfl, _, _, rfl, rfl, _, rfl, itf (by omega) ⟨_, rfl, _, _, rfl, rfl, _, rfl, itf (by omega) ⟨_, rfl, _, _, rfl, rfl, _, rfl, itf (by omega) q⟩⟩⟩⟩
def spCheck : Sp := fun vs H Q _ => ∃ (t : Addr) (x y : Int) (z : Str), vs = [.ref t, .str z] ∧ Sit H t x y ∧ Bd 1000000 x y ∧ Q .non H
theorem ok_check {f fS : Addr} {fd fdS : FuncData} {k : Nat} (F : Fun K "check_site" "check_site" sCheck f fd)
    (GS : FnOk P w K mg base CX0 (k + 1) fS fdS ["value"] spIsSite) (gS : mg "is_site" = some (.ref fS)) (kS : PySem.W.keepIn K (.ref fS) = true) (bS : Binds K fdS ["value"] []) : FnOk P w K mg base CX0 (k + 2) f fd ["value", "name"] spCheck := by
  refine F.ok scCheck (fun vs H Q E h => ?_) (fun cdv A outer s H vs Q E hr h => ?_)
  · obtain ⟨t, x, y, z, rfl, _⟩ := h
    rfl
  · obtain ⟨t, x, y, z, rfl, hx, d, q⟩ := h
    exact ⟨_, pss_one (ps_if (pt_not (pt_val (pe_call GS hr (by rfl) gS kS bS .nil pass0 (pa_cons (pv 0) pa_nil)))) (pss_one ps_never) pss_nil), _, rfl, t, x, y, rfl, hx, d, _, rfl, q⟩
/-- the double area -/
def tri (ax ay bx by' cx cy : Int) : Int := (bx - ax) * (cy - ay) - (by' - ay) * (cx - ax)
/-- three sites, and what is told of their numbers -/
def sp3 (K : PySem.W.Frag) (v : Int → Int → Int → Int → Int → Int → V) : Sp := fun vs H Q _ => ∃ (a b c : Addr) (ax ay bx by' cx cy : Int), vs = [.ref a, .ref b, .ref c] ∧ Sit H a ax ay ∧ Sit H b bx by' ∧ Sit H c cx cy ∧
  Bd 1000000 ax ay ∧ Bd 1000000 bx by' ∧ Bd 1000000 cx cy ∧ Q (v ax ay bx by' cx cy) H
theorem tri_m1 {ax ay bx cy : Int} (a : -1000000 ≤ ax ∧ ax ≤ 1000000) (b : -1000000 ≤ bx ∧ bx ≤ 1000000) : CMul (bx - ax) (cy - ay) := .inl ⟨by omega, by omega⟩
end
/-! ### signs, sites that are alike -/
section
variable {P : Program} {w : World} {K : PySem.W.Frag} {mg : Str → Option Value} {base : Heap}
def sg (n : Int) : Int := if n = 0 then 0 else if 0 < n then 1 else -1
theorem dpSit {H : Hp} {t : Addr} {x y : Int} (h : Sit H t x y) : Dp K H (.ref t) (.tuple [.int x, .int y]) := .tup (SqT.of h) (.cons (.int x) (.cons (.int y) .nil))
theorem eqv_sit (x y u v : Int) : PyData.eqv (.tuple [.int x, .int y]) (.tuple [.int u, .int v]) = decide (x = u ∧ y = v) := by
  simp [PyData.eqv, PyData.eqvAll, Bool.decide_and, Bool.beq_eq_decide_eq]
theorem at0_ (u v : V) : atI [u, v] 0 = some u := rfl
theorem at1_ (u v : V) : atI [u, v] 1 = some v := rfl
end
section
variable {P : Program} {w : World} {K : PySem.W.Frag} {mg : Str → Option Value} {base : Heap}
def spSign : Sp := fun vs H Q _ => ∃ n : Int, vs = [.int n] ∧ Q (.int (sg n)) H
end
/-! ### places, fractions: the mathematics -/
def g3 (x y d : Int) : Nat := Nat.gcd (Nat.gcd x.natAbs y.natAbs) d.natAbs
theorem g3_is (x y d : Int) : Nat.gcd (((Nat.gcd x.natAbs y.natAbs : Nat) : Int)).natAbs d.natAbs = g3 x y d := by
  rw [Int.natAbs_natCast]
  rfl
theorem g3_dx (x y d : Int) : ((g3 x y d : Nat) : Int) ∣ x := Int.ofNat_dvd_left.mpr (Nat.dvd_trans (Nat.gcd_dvd_left _ _) (Nat.gcd_dvd_left _ _))
theorem g3_dy (x y d : Int) : ((g3 x y d : Nat) : Int) ∣ y := Int.ofNat_dvd_left.mpr (Nat.dvd_trans (Nat.gcd_dvd_left _ _) (Nat.gcd_dvd_right _ _))
theorem g3_dd (x y d : Int) : ((g3 x y d : Nat) : Int) ∣ d := Int.ofNat_dvd_left.mpr (Nat.gcd_dvd_right _ _)
theorem g3_pos {x y d : Int} (h : d ≠ 0) : 0 < g3 x y d := Nat.gcd_pos_of_pos_right _ (Int.natAbs_pos.mpr h)
theorem g3_le {x y d : Int} (h : d ≠ 0) : g3 x y d ≤ d.natAbs := Nat.le_of_dvd (Int.natAbs_pos.mpr h) (Nat.gcd_dvd_right _ _)
/-- the divisor that makes the last number one of 1 and more -/
def gs (x y d : Int) : Int := if d < 0 then -((g3 x y d : Nat) : Int) else ((g3 x y d : Nat) : Int)
theorem gs_ne {x y d : Int} (h : d ≠ 0) : gs x y d ≠ 0 := by
  have := g3_pos (x := x) (y := y) h
  unfold gs
  split <;> omega
theorem gs_abs (x y d : Int) : (gs x y d).natAbs = g3 x y d := by
  unfold gs
  split <;> omega
theorem gs_dvd {x y d z : Int} (h : ((g3 x y d : Nat) : Int) ∣ z) : gs x y d ∣ z := by
  unfold gs
  split
  · exact Int.neg_dvd.mpr h
  · exact h
/-- a tuple of three numbers is a place -/
structure PlOk (x y d : Int) : Prop where
  x1 : -(10 ^ 30) < x
  x2 : x < 10 ^ 30
  y1 : -(10 ^ 30) < y
  y2 : y < 10 ^ 30
  d1 : 1 ≤ d
  d2 : d < 10 ^ 30
  g1 : g3 x y d = 1
theorem mul_fdiv {g z : Int} (h : g ∣ z) : g * z.fdiv g = z := by
  rw [Int.fdiv_eq_ediv_of_dvd h]
  exact Int.mul_ediv_cancel' h
theorem abs_le_of_mul {g z x : Int} (e : g * z = x) (h : g ≠ 0) : z.natAbs ≤ x.natAbs := by
  rw [← e, Int.natAbs_mul]
  exact Nat.le_mul_of_pos_left _ (Int.natAbs_pos.mpr h)
theorem place_ok {x y d : Int} (h : d ≠ 0) (hx : x.natAbs < 10 ^ 30) (hy : y.natAbs < 10 ^ 30) (hd : d.natAbs < 10 ^ 30) : PlOk (x.fdiv (gs x y d)) (y.fdiv (gs x y d)) (d.fdiv (gs x y d)) := by
  have ex := mul_fdiv (gs_dvd (g3_dx x y d))
  have ey := mul_fdiv (gs_dvd (g3_dy x y d))
  have ed := mul_fdiv (gs_dvd (g3_dd x y d))
  have hn := gs_ne (x := x) (y := y) h
  have bx := abs_le_of_mul ex hn
  have by' := abs_le_of_mul ey hn
  have bd := abs_le_of_mul ed hn
  have pos : 0 < d.fdiv (gs x y d) := by
    have gp := g3_pos (x := x) (y := y) h
    generalize d.fdiv (gs x y d) = D at ed
    unfold gs at ed
    split at ed
    · rename_i hneg
      rcases Int.lt_trichotomy D 0 with z | z | z
      · exfalso
        have w : 0 < -((g3 x y d : Nat) : Int) * D := Int.mul_pos_of_neg_of_neg (by omega) z
        omega
      · rw [z, Int.mul_zero] at ed
        omega
      · exact z
    · rcases Int.lt_trichotomy D 0 with z | z | z
      · exfalso
        have w : ((g3 x y d : Nat) : Int) * D < 0 := Int.mul_neg_of_pos_of_neg (by omega) z
        omega
      · rw [z, Int.mul_zero] at ed
        omega
      · exact z
  refine ⟨by omega, by omega, by omega, by omega, by omega, by omega, ?_⟩
  have nx : g3 x y d * (x.fdiv (gs x y d)).natAbs = x.natAbs := by rw [← gs_abs, ← Int.natAbs_mul, ex]
  have ny : g3 x y d * (y.fdiv (gs x y d)).natAbs = y.natAbs := by rw [← gs_abs, ← Int.natAbs_mul, ey]
  have nd : g3 x y d * (d.fdiv (gs x y d)).natAbs = d.natAbs := by rw [← gs_abs, ← Int.natAbs_mul, ed]
  have key : g3 x y d * g3 (x.fdiv (gs x y d)) (y.fdiv (gs x y d)) (d.fdiv (gs x y d)) = g3 x y d := by
    generalize hg : g3 x y d = g at nx ny nd
    unfold g3
    rw [← Nat.gcd_mul_left, ← Nat.gcd_mul_left, nx, ny, nd]
    exact hg
  exact Nat.eq_of_mul_eq_mul_left (g3_pos (x := x) (y := y) h) (by rw [key, Nat.mul_one])
theorem nb_add {i j : Int} {a : Nat} (hi : i.natAbs < 2 ^ a) (hj : j.natAbs < 2 ^ a) : (i + j).natAbs < 2 ^ (a + 1) := by
  rw [Nat.pow_succ]
  omega
theorem nb_sub {i j : Int} {a : Nat} (hi : i.natAbs < 2 ^ a) (hj : j.natAbs < 2 ^ a) : (i - j).natAbs < 2 ^ (a + 1) := by
  rw [Nat.pow_succ]
  omega
theorem nb_up {i : Int} {a b : Nat} (hi : i.natAbs < 2 ^ a) (h : a ≤ b) : i.natAbs < 2 ^ b := Nat.lt_of_lt_of_le hi (Nat.pow_le_pow_right (by decide) h)
theorem PlOk.bits {x y d : Int} (h : PlOk x y d) : x.natAbs < 2 ^ 100 ∧ y.natAbs < 2 ^ 100 ∧ d.natAbs < 2 ^ 100 := by
  obtain ⟨h1, h2, h3, h4, h5, h6, _⟩ := h
  refine ⟨by omega, by omega, by omega⟩
/-- the squared distance of a place and a site, times d * d -/
def spread (x y d u v : Int) : Int := (x - d * u) * (x - d * u) + (y - d * v) * (y - d * v)
theorem sq_nn (x : Int) : 0 ≤ x * x := by
  rw [← Int.natAbs_mul_self]
  exact Int.natCast_nonneg _
theorem spread_nonneg (x y d u v : Int) : 0 ≤ spread x y d u v := Int.add_nonneg (sq_nn _) (sq_nn _)
theorem far_bits {x d u : Int} (hx : x.natAbs < 2 ^ 100) (hd : d.natAbs < 2 ^ 100) (hu : -1000000 ≤ u ∧ u ≤ 1000000) : (x - d * u).natAbs < 2 ^ 121 := by
  have h1 : (d * u).natAbs < 2 ^ (100 + 20) := wide_lt hd (by omega)
  exact nb_sub (nb_up hx (by decide)) h1
/-- what lifts from a site are -/
def lz (u v : Int) : Int := u * u + v * v
def vol (ax ay bx by' cx cy dx dy : Int) : Int :=
  (dx - ax) * ((by' - ay) * lz (cx - ax) (cy - ay) - lz (bx - ax) (by' - ay) * (cy - ay)) + (dy - ay) * (lz (bx - ax) (by' - ay) * (cx - ax) - (bx - ax) * lz (cx - ax) (cy - ay)) + lz (dx - ax) (dy - ay) * ((bx - ax) * (cy - ay) - (by' - ay) * (cx - ax))
theorem vol_turn (ax ay bx by' cx cy dx dy : Int) : vol cx cy ax ay bx by' dx dy = vol ax ay bx by' cx cy dx dy := by
  unfold vol lz
  grind
theorem tri_turn (ax ay bx by' cx cy : Int) : tri cx cy ax ay bx by' = tri ax ay bx by' cx cy := by
  unfold tri
  grind
/-! ### fractions, places, circles, lifts -/
section
variable {P : Program} {w : World} {K : PySem.W.Frag} {mg : Str → Option Value} {base : Heap}
theorem three_line : 3 ≤ sizeLine := by decide
theorem a30_ (u v z : V) : atI [u, v, z] 0 = some u := rfl
theorem a31_ (u v z : V) : atI [u, v, z] 1 = some v := rfl
theorem a32_ (u v z : V) : atI [u, v, z] 2 = some z := rfl
def Tup2 (H : Hp) (p : Addr) (x y : Int) : Prop := H p = some (.tup [.int x, .int y])
def Pla (H : Hp) (p : Addr) (x y d : Int) : Prop := H p = some (.tup [.int x, .int y, .int d])
/-- a new thing is handed back, all else stands -/
def newRes (H : Hp) (Q : VK) (o : HO) : Prop := ∀ (p : Addr) H', Same H H' → H p = none → H' p = some o → Q (.ref p) H'
/-! fraction -/
def gcf (t b : Int) : Int := ((Nat.gcd t.natAbs b.natAbs : Nat) : Int)
def spFrac : Sp := fun vs H Q _ => ∃ t b : Int, vs = [.int t, .int b] ∧ 0 < b ∧ b.natAbs < 2 ^ 8000 ∧ newRes H Q (.tup [.int (t / gcf t b), .int (b / gcf t b)])
theorem gcf_pos {t b : Int} (h : 0 < b) : 0 < gcf t b := Int.natCast_pos.mpr (Nat.gcd_pos_of_pos_right _ (by omega))
theorem gcf_le {t b : Int} (h : 0 < b) : (gcf t b).natAbs ≤ b.natAbs := by
  unfold gcf
  rw [Int.natAbs_natCast]
  exact Nat.le_of_dvd (by omega) (Nat.gcd_dvd_right _ _)
/-! places -/
/-- a place -/
def spIsPl : Sp := fun vs H Q _ => ∃ (t : Addr) (x y d : Int), vs = [.ref t] ∧ Pla H t x y d ∧ PlOk x y d ∧ Q (.bl true) H
set_option pp.maxSteps 300 in
def spCheckP : Sp := fun vs H Q _ => ∃ (t : Addr) (x y d : Int) (z : Str), vs = [.ref t, .str z] ∧ Pla H t x y d ∧ PlOk x y d ∧ Q .non H
end
/-! ### sites that are handed in -/
section
variable {P : Program} {w : World} {K : PySem.W.Frag} {mg : Str → Option Value} {base : Heap}
/-- sites at ts, f the pairs there -/
def SitF (f : Addr → Int × Int) (H : Hp) (ts : List Addr) : Prop := ∀ t ∈ ts, Sit H t (f t).1 (f t).2 ∧ Bd 1000000 (f t).1 (f t).2
theorem SitF.same {f : Addr → Int × Int} {H H' : Hp} {ts : List Addr} (h : SitF f H ts) (a : Same H H') : SitF f H' ts := fun t m => ⟨(h t m).1.same a, (h t m).2⟩
theorem SitF.sub {f : Addr → Int × Int} {H : Hp} {ts us : List Addr} (h : SitF f H ts) (a : ∀ u ∈ us, u ∈ ts) : SitF f H us := fun t m => h t (a t m)
theorem ref_at {ts : List Addr} {i : Nat} {x : V} (h : (ts.map V.ref)[i]? = some x) : ∃ t, ts[i]? = some t ∧ x = .ref t ∧ t ∈ ts := by
  rw [List.getElem?_map] at h
  obtain ⟨t, e, e2⟩ := Option.map_eq_some_iff.mp h
  exact ⟨t, e, e2.symm, List.mem_of_getElem? e⟩
/-- a list of sites, no two alike, at most 200 -/
structure Lot (f : Addr → Int × Int) (H : Hp) (p : Addr) (ts : List Addr) : Prop where
  at_ : H p = some (.lst (ts.map V.ref))
  pos : 0 < ts.length
  few : ts.length < 201
  sit : SitF f H ts
  nod : (ts.map f).Nodup
theorem Lot.same {f : Addr → Int × Int} {H H' : Hp} {p : Addr} {ts : List Addr} (h : Lot f H p ts) (s : Same H H') : Lot f H' p ts := ⟨s _ _ h.at_, h.pos, h.few, h.sit.same s, h.nod⟩
abbrev s_are_sites : Stmt := topS 8
abbrev n_are_sites : List Str := ["value", "item", "x", "y"]
theorem c_are_sites : FnScope n_are_sites ["value"] (defScope s_are_sites) := ⟨rfl, rfl, rfl, by decide +kernel, rfl, by decide +kernel, by decide +kernel⟩
def p_are_sites : Sp := fun vs H Q _ => ∃ (p : Addr) (ts : List Addr) (f : Addr → Int × Int), vs = [.ref p] ∧ Lot f H p ts ∧ ∀ H', Same H H' → Q (.bl true) H'
set_option pp.maxSteps 300 in
theorem ok_are_sites {tMOST_SITES : Tok} (D : Df K mg "are_sites" s_are_sites ["value"]) (mint : mg "int" = none) (misinstance : mg "isinstance" = none) (mlen : mg "len" = none) (mlist : mg "list" = none) (mset : mg "set" = none) (mtuple : mg "tuple" = none) (mMOST_SITES : mg "MOST_SITES" = some (.int 200 tMOST_SITES)) : Cl P w K mg base CX0 "are_sites" 1 ["value"] (p_are_sites) := by
  refine D.cl fun f fd F => F.ok c_are_sites (fun vs H Q E h => ?_) (fun cdv A outer s H vs Q E hr h => ?_)
  · obtain ⟨p, ts, g, rfl, ⟨hp, l0, l1, hs, nod⟩, q⟩ := h
    rfl
  · obtain ⟨p, ts, g, rfl, ⟨hp, l0, l1, hs, nod⟩, q⟩ := h
    have nd := c_are_sites.nd
    have hu : _ := hu_of hr
    refine ⟨_, (pss_cons (ps_if (PW.pt (pw_or (pt_not (pt_val (pe_callB call_isi (by rfl) misinstance (by decide +kernel) (pa_cons (pv 0) (pa_cons (pe_bltn (v := .ty "list") (by rfl) mlist (by decide +kernel) rfl) pa_nil))))) (pw_or1 (pt_not (pt_chain op_lt op_le pe_int (pe_callB call_len_seq (by rfl) mlen (by decide +kernel) (pa_cons (pv 0) pa_nil)) (pe_glob (v := .int 200) (by rfl) mMOST_SITES ⟨_, rfl⟩)))))) (pss_one (ps_ret pe_bl)) pss_nil) (pss_cons (ps_for PassesOwn.never rfl (pi_list (pv 0)) (pg_name (i := 1) nd rfl (.inl rfl)) (pss_cons (ps_if (PW.pt (pw_or (pt_not (pt_val (pe_callB call_isi (by rfl) misinstance (by decide +kernel) (pa_cons (pv 1) (pa_cons (pe_bltn (v := .ty "tuple") (by rfl) mtuple (by decide +kernel) rfl) pa_nil))))) (pw_or1 (pt_cmpR op_ne (pe_callB call_len_seq (by rfl) mlen (by decide +kernel) (pa_cons (pv 1) pa_nil)) pe_int (nomark _))))) (pss_one (ps_ret pe_bl)) pss_nil) (pss_cons (ps_asg (pv 1) (pg_tup (by rfl) (pgs_cons (pg_name (i := 2) nd rfl (.inl rfl)) (pgs_cons (pg_name (i := 3) nd rfl (.inl rfl)) pgs_nil)))) (pss_cons (ps_if (PW.pt (pw_or (pt_not (pt_val (pe_callB call_isi (by rfl) misinstance (by decide +kernel) (pa_cons (pv 2) (pa_cons (pe_bltn (v := .ty "int") (by rfl) mint (by decide +kernel) rfl) pa_nil))))) (pw_or1 (pt_not (pt_val (pe_callB call_isi (by rfl) misinstance (by decide +kernel) (pa_cons (pv 3) (pa_cons (pe_bltn (v := .ty "int") (by rfl) mint (by decide +kernel) rfl) pa_nil)))))))) (pss_one (ps_ret pe_bl)) pss_nil) (pss_cons (ps_if (PW.pt (pw_or (pt_cmpR op_isIB (pv 2) pe_bl (nomark _)) (pw_or (pt_cmpR op_isIB (pv 2) pe_bl (nomark _)) (pw_or (pt_cmpR op_isIB (pv 3) pe_bl (nomark _)) (pw_or1 (pt_cmpR op_isIB (pv 3) pe_bl (nomark _))))))) (pss_one (ps_ret pe_bl)) pss_nil) (pss_one (ps_if (PW.pt (pw_or (pt_cmpR op_gt (pv 2) pe_int (nomark _)) (pw_or (pt_cmpR op_lt (pv 2) pe_neg (nomark _)) (pw_or (pt_cmpR op_gt (pv 3) pe_int (nomark _)) (pw_or1 (pt_cmpR op_lt (pv 3) pe_neg (nomark _))))))) (pss_one (ps_ret pe_bl)) pss_nil))))))) (pss_one (ps_ret (pe_cmpR op_eq (pe_lenSetB (by rfl) hr.units (by rfl) mlen (by rfl) mset (pv 0)) (pe_callB call_len_seq (by rfl) mlen (by decide +kernel) (pa_cons (pv 0) pa_nil)) (nomark _)))))), ?_⟩
    have len : (ts.map V.ref).length = ts.length := List.length_map _
    repeat array_get_dec
    refine ⟨⟨_, SqL.of hp⟩, for_list (K := K) (a := p) (xs := ts.map V.ref) (fun i σ' H' => (∃ y1 y2 y3, σ' = [some (.ref p), y1, y2, y3]) ∧ H' = H) ⟨⟨_, _, _, rfl⟩, rfl⟩ (fun i σ' H' _ z => by rw [z.2]; exact SqL.of hp) (fun i x σ' H' hx z => ?_) fun σ' H' z => ?_⟩
    · obtain ⟨⟨y1, y2, y3, rfl⟩, rfl⟩ := z
      obtain ⟨t, _, rfl, mt⟩ := ref_at hx
      have st := (hs t mt).1
      obtain ⟨b1, b2, b3, b4⟩ := (hs t mt).2
      repeat array_get_dec
      exact ⟨⟨_, _, _, rfl⟩, rfl⟩
    · obtain ⟨⟨y1, y2, y3, rfl⟩, rfl⟩ := z
      have inj : ((ts.map fun t => (t, [(g t).1, (g t).2])).map (·.2)).Nodup := by
        rw [List.map_map, show ((fun x : Addr × List Int => x.2) ∘ fun t => (t, [(g t).1, (g t).2])) = (fun q : Int × Int => [q.1, q.2]) ∘ g from rfl, ← List.map_map]
        refine List.Pairwise.map _ (fun a b h e => h ?_) nod
        have e1 : a.1 = b.1 := (List.cons.inj e).1
        have e2 : a.2 = b.2 := (List.cons.inj (List.cons.inj e).2).1
        exact Prod.ext e1 e2
      refine ⟨_, rfl, p, ts.map fun t => (t, [(g t).1, (g t).2]), rfl, ?_, fun u m => ?_, by rw [List.length_map]; omega, fun n _ all => ?_⟩
      · rw [List.map_map]
        exact SqL.of hp
      · obtain ⟨t, mt, rfl⟩ := List.mem_map.mp m
        exact SqT.of (hs t mt).1
      · have eq : n = ts.length := by
          have z := all.mpr inj
          rwa [List.length_map] at z
        subst eq
        repeat array_get_dec
        show Q (.bl (decide (V.int (ts.length : Nat) = V.int ((ts.map V.ref).length : Nat)))) _
        rw [len, decide_eq_true rfl]
        exact q _ (Same.refl _)
abbrev s_ascending : Stmt := topS 10
abbrev n_ascending : List Str := ["sites"]
theorem c_ascending : FnScope n_ascending ["sites"] (defScope s_ascending) := ⟨rfl, rfl, rfl, by decide +kernel, rfl, by decide +kernel, by decide +kernel⟩
theorem lt2_of {p q : Int × Int} (h : lexLe p q) (n : p ≠ q) : lt2 p q := by
  unfold lexLe at h
  rcases h with h | ⟨h, k⟩
  · exact .inl h
  · refine .inr ⟨h, Int.lt_iff_le_and_ne.mpr ⟨k, fun e => n (Prod.ext h e)⟩⟩
def p_ascending : Sp := fun vs H Q _ => ∃ (p : Addr) (ts : List Addr) (f : Addr → Int × Int), vs = [.ref p] ∧ Lot f H p ts ∧ ∀ us p' H', us.Perm ts → (us.map f).Pairwise lt2 → Same H H' → H p' = none → Lot f H' p' us → Q (.ref p') H'
set_option pp.maxSteps 300 in
theorem ok_ascending  (D : Df K mg "ascending" s_ascending ["sites"]) (C_are_sites : Cl P w K mg base CX0 "are_sites" 1 ["value"] (p_are_sites)) (msorted : mg "sorted" = none) : Cl P w K mg base CX0 "ascending" 2 ["sites"] (p_ascending) := by
  refine D.cl fun f fd F => F.ok c_ascending (fun vs H Q E h => ?_) (fun cdv A outer s H vs Q E hr h => ?_)
  · obtain ⟨p, ts, g, rfl, hl, q⟩ := h
    rfl
  · obtain ⟨p, ts, g, rfl, hl, q⟩ := h
    have nd := c_ascending.nd
    have hu : _ := hu_of hr
    refine ⟨_, (pss_cons (ps_if (pt_not (pt_val (pe_cl C_are_sites (hr.mono (by decide)) (by rfl) pass0 (pa_cons (pv 0) pa_nil)))) (pss_one ps_never) pss_nil) (pss_one (ps_ret (pe_callB cr_sortS (by rfl) msorted (by decide +kernel) (pa_cons (pv 0) pa_nil))))), ?_⟩
    repeat array_get_dec
    refine ⟨p, ts, g, rfl, hl, fun H1 s1 => ?_⟩
    repeat array_get_dec
    have hl1 := hl.same s1
    refine ⟨p, ts, g, rfl, SqL.of hl1.at_, fun t m => (hl1.sit t m).1, fun us p' H2 pm so s2 n2 e2 => ?_⟩
    have nod' : (us.map g).Nodup := (pm.map g).nodup_iff.mpr hl.nod
    refine q us p' H2 pm ?_ (s1.trans s2) ?_ ⟨e2, by rw [pm.length_eq]; exact hl.pos, by rw [pm.length_eq]; exact hl.few, (hl1.sit.same s2).sub fun u m => pm.mem_iff.mp m, nod'⟩
    · rw [List.pairwise_map]
      have := List.pairwise_map.mp nod'
      exact (so.and this).imp fun h => lt2_of h.1 h.2
    · cases e : H p' with
      | none => rfl
      | some o => rw [s1 _ _ e] at n2; cases n2
end
/-! ### the chains of a hull -/
section
variable {P : Program} {w : World} {K : PySem.W.Frag} {mg : Str → Option Value} {base : Heap}
theorem Same.put {H H' : Hp} {p : Addr} {o : HO} (h : Same H H') (n : H p = none) : Same H (upd H' p o) := fun b x e => by
  rw [upd_ne (ne_of_none e n)]
  exact h b x e
def popA (f : Addr → Pt) (T : Sgt) (least : Int) (s : Addr) : List Addr → List Addr
  | b :: a :: r => if T (f a) (f b) (f s) < least then popA f T least s (a :: r) else b :: a :: r
  | l => l
theorem popA_map (f : Addr → Pt) (T : Sgt) (least : Int) (s : Addr) : ∀ st, (popA f T least s st).map f = popFG T least (f s) (st.map f)
  | [] => rfl
  | [_] => rfl
  | b :: a :: r => by
    rw [popA, List.map_cons, List.map_cons, popFG]
    split
    · exact popA_map f T least s (a :: r)
    · rfl
/-- a site that is not over the line is put on -/
def stepA (f : Addr → Pt) (T : Sgt) (least : Int) (p0 q : Pt) (st : List Addr) (s : Addr) : List Addr := if T p0 q (f s) ≤ 0 then s :: popA f T least s st else st
def stA (f : Addr → Pt) (T : Sgt) (least : Int) (p0 q : Pt) (ts : List Addr) : List Addr := ts.foldl (stepA f T least p0 q) []
theorem stA_map (f : Addr → Pt) (T : Sgt) (least : Int) (p0 q : Pt) (ts : List Addr) : (stA f T least p0 q ts).map f = stkG T least (part T p0 q (ts.map f)) := by
  have go : ∀ (ts st : List Addr), (ts.foldl (stepA f T least p0 q) st).map f = ((part T p0 q (ts.map f)).foldl (pushFG T least) (st.map f)) := by
    intro ts
    induction ts with
    | nil => intro st; rfl
    | cons t ts ih =>
      intro st
      rw [List.foldl_cons, ih, List.map_cons]
      unfold part
      by_cases h : T p0 q (f t) ≤ 0
      · rw [List.filter_cons_of_pos (by exact decide_eq_true h), List.foldl_cons, stepA, if_pos h, List.map_cons, popA_map]
        rfl
      · rw [List.filter_cons_of_neg (by simpa using h), stepA, if_neg h]
  exact go ts []
theorem stA_snoc (f : Addr → Pt) (T : Sgt) (least : Int) (p0 q : Pt) {ts : List Addr} {i : Nat} {t : Addr} (h : ts[i]? = some t) : stA f T least p0 q (ts.take (i + 1)) = stepA f T least p0 q (stA f T least p0 q (ts.take i)) t := by
  unfold stA
  rw [List.take_add_one, h, List.foldl_append]
  rfl
theorem popA_sub (f : Addr → Pt) (T : Sgt) (least : Int) (s : Addr) : ∀ st, ∀ x ∈ popA f T least s st, x ∈ st
  | [], _, h => h
  | [_], _, h => h
  | b :: a :: r, x, h => by
    rw [popA] at h
    split at h
    · exact List.mem_cons_of_mem _ (popA_sub f T least s (a :: r) x h)
    · exact h
theorem stA_sub (f : Addr → Pt) (T : Sgt) (least : Int) (p0 q : Pt) (ts : List Addr) : ∀ x ∈ stA f T least p0 q ts, x ∈ ts := by
  have go : ∀ (ts st : List Addr), ∀ x ∈ ts.foldl (stepA f T least p0 q) st, x ∈ ts ∨ x ∈ st := by
    intro ts
    induction ts with
    | nil => intro st x h; exact .inr h
    | cons t ts ih =>
      intro st x h
      rcases ih _ x h with m | m
      · exact .inl (List.mem_cons_of_mem _ m)
      · unfold stepA at m
        split at m
        · rcases List.mem_cons.mp m with rfl | m
          · exact .inl List.mem_cons_self
          · exact .inr (popA_sub f T least t st x m)
        · exact .inr m
  intro x h
  rcases go ts [] x h with m | m
  · exact m
  · cases m
theorem popA_len (f : Addr → Pt) (T : Sgt) (least : Int) (s : Addr) : ∀ st, (popA f T least s st).length ≤ st.length
  | [] => Nat.le_refl _
  | [_] => Nat.le_refl _
  | b :: a :: r => by
    rw [popA]
    split
    · exact Nat.le_trans (popA_len f T least s (a :: r)) (Nat.le_succ _)
    · exact Nat.le_refl _
theorem stA_len (f : Addr → Pt) (T : Sgt) (least : Int) (p0 q : Pt) (ts : List Addr) : (stA f T least p0 q ts).length ≤ ts.length := by
  have go : ∀ (ts st : List Addr), (ts.foldl (stepA f T least p0 q) st).length ≤ ts.length + st.length := by
    intro ts
    induction ts with
    | nil => intro st; simp
    | cons t ts ih =>
      intro st
      have := ih (stepA f T least p0 q st t)
      have h2 : (stepA f T least p0 q st t).length ≤ st.length + 1 := by
        unfold stepA
        split
        · have := popA_len f T least t st
          simp only [List.length_cons]
          omega
        · omega
      rw [List.foldl_cons, List.length_cons]
      omega
  have := go ts []
  rwa [List.length_nil, Nat.add_zero] at this
/-- the last two of a list -/
theorem last_two {b a : Addr} {r : List Addr} : atI (((b :: a :: r).reverse).map V.ref) (-1) = some (.ref b) ∧ atI (((b :: a :: r).reverse).map V.ref) (-2) = some (.ref a) := by
  have e : ((b :: a :: r).reverse).map V.ref = r.reverse.map V.ref ++ [V.ref a, V.ref b] := by simp
  rw [e]
  generalize r.reverse.map V.ref = xs
  have hl : (xs ++ [V.ref a, V.ref b]).length = xs.length + 2 := by simp
  have e1 : ixN (xs ++ [V.ref a, V.ref b]).length (-1) = some (xs.length + 1) := by
    unfold ixN
    rw [hl, if_neg (by decide), if_pos (by omega)]
    congr 1
    omega
  have e2 : ixN (xs ++ [V.ref a, V.ref b]).length (-2) = some xs.length := by
    unfold ixN
    rw [hl, if_neg (by decide), if_pos (by omega)]
    congr 1
    omega
  unfold atI
  rw [e1, e2]
  simp
theorem stepA_pos {f : Addr → Pt} {T : Sgt} {least : Int} {p0 q : Pt} {st : List Addr} {s : Addr} (h : T p0 q (f s) ≤ 0) : stepA f T least p0 q st s = s :: popA f T least s st := if_pos h
theorem stepA_neg {f : Addr → Pt} {T : Sgt} {least : Int} {p0 q : Pt} {st : List Addr} {s : Addr} (h : ¬ T p0 q (f s) ≤ 0) : stepA f T least p0 q st s = st := if_neg h
theorem put_top {t : Addr} {st : List Addr} : st.reverse.map V.ref ++ [V.ref t] = ((t :: st).reverse).map V.ref := by simp
theorem drop_top {b : Addr} {st : List Addr} : (((b :: st).reverse).map V.ref).dropLast = st.reverse.map V.ref := by
  rw [List.reverse_cons, List.map_append]
  exact List.dropLast_concat
theorem get_top {b : Addr} {st : List Addr} : (((b :: st).reverse).map V.ref)[(((b :: st).reverse).map V.ref).length - 1]? = some (V.ref b) := by
  rw [List.reverse_cons, List.map_append]
  simp
theorem headI {ts : List Addr} {t : Addr} (h : ts.head? = some t) : atI (ts.map V.ref) 0 = some (.ref t) := by
  cases ts with
  | nil => cases h
  | cons a ts =>
    cases h
    exact atI_nat (j := 0) rfl
theorem lastI {ts : List Addr} {t : Addr} (h : ts.getLast? = some t) : atI (ts.map V.ref) (-1) = some (.ref t) := by
  obtain ⟨ys, rfl⟩ := List.getLast?_eq_some_iff.mp h
  rw [List.map_append]
  exact atI_last _ _
abbrev s_chains_of : Stmt := topS 13
abbrev n_chains_of : List Str := ["rows", "least", "low", "high", "px", "py", "ux", "uy", "site", "x", "y", "area", "ax", "ay", "bx", "by"]
theorem c_chains_of : FnScope n_chains_of ["rows", "least"] (defScope s_chains_of) := ⟨rfl, rfl, rfl, by decide +kernel, rfl, by decide +kernel, by decide +kernel⟩
/-- the chains stand in two lists of their own -/
structure CS (H0 H : Hp) (l h : Addr) (a b : List Addr) : Prop where
  sm : Same H0 H
  el : H l = some (.lst (a.reverse.map V.ref))
  eh : H h = some (.lst (b.reverse.map V.ref))
def p_chains_of : Sp := fun vs H Q _ => ∃ (p : Addr) (least : Int) (ts : List Addr) (f : Addr → Int × Int) (p0 q : Pt), vs = [.ref p, .int least] ∧ Lot f H p ts ∧ least.natAbs ≤ 1 ∧ (ts.map f).head? = some p0 ∧ (ts.map f).getLast? = some q ∧
  ∀ T l h H', Same H H' → H' T = some (.tup [.ref l, .ref h]) → H l = none → H h = none → l ≠ h → H' l = some (.lst ((stA f tn least p0 q ts).reverse.map V.ref)) → H' h = some (.lst ((stA f tm least p0 q ts).reverse.map V.ref)) → Q (.ref T) H'
set_option pp.maxSteps 300 in
theorem ok_chains_of  (D : Df K mg "chains_of" s_chains_of ["rows", "least"]) (mlen : mg "len" = none) : Cl P w K mg base CX0 "chains_of" 1 ["rows", "least"] (p_chains_of) := by
  refine D.cl fun f fd F => F.ok c_chains_of (fun vs H Q E h => ?_) (fun cdv A outer s H vs Q E hr h => ?_)
  · obtain ⟨p, least, ts, g, p0, q0, rfl, hl, hle, h0, hq, q⟩ := h
    rfl
  · obtain ⟨p, least, ts, g, p0, q0, rfl, hl, hle, h0, hq, q⟩ := h
    have nd := c_chains_of.nd
    have hu : _ := hu_of hr
    refine ⟨_, (pss_cons (ps_par (i := 2) (j := 3) (by rfl) nd rfl rfl (by decide) rfl rfl (pa_cons (pe_lstG pa_nil) (pa_cons (pe_lstG pa_nil) pa_nil)) (by rfl)) (pss_cons (ps_asg (pe_ix ix_list (pv 0) pe_int (fun _ _ => rfl)) (pg_tup (by rfl) (pgs_cons (pg_name (i := 4) nd rfl (.inl rfl)) (pgs_cons (pg_name (i := 5) nd rfl (.inl rfl)) pgs_nil)))) (pss_cons (ps_par (i := 6) (j := 7) (by rfl) nd rfl rfl (by decide) rfl rfl (pa_cons (pe_op op_sub (pe_ix ix_tup (pe_ix ix_list (pv 0) pe_neg (fun _ _ => rfl)) pe_int (fun _ _ => rfl)) (pv 4)) (pa_cons (pe_op op_sub (pe_ix ix_tup (pe_ix ix_list (pv 0) pe_neg (fun _ _ => rfl)) pe_int (fun _ _ => rfl)) (pv 5)) pa_nil)) (by rfl)) (pss_cons (ps_for PassesOwn.never rfl (pi_list (pv 0)) (pg_name (i := 8) nd rfl (.inl rfl)) (pss_cons (ps_asg (pv 8) (pg_tup (by rfl) (pgs_cons (pg_name (i := 9) nd rfl (.inl rfl)) (pgs_cons (pg_name (i := 10) nd rfl (.inl rfl)) pgs_nil)))) (pss_cons (ps_set (i := 11) nd rfl (.inl rfl) (pe_op op_sub (pe_op op_mulW (pv 6) (pe_op op_sub (pv 10) (pv 5))) (pe_op op_mulW (pv 7) (pe_op op_sub (pv 9) (pv 4))))) (C8.pss_cut (ps_if (pt_cmpR op_le (pv 11) pe_int (nomark _)) (pss_cons (ps_while PassesOwn.never (pt_cmpR op_gt (pe_callB call_len_seq (by rfl) mlen (by decide +kernel) (pa_cons (pv 2) pa_nil)) pe_int (nomark _)) (pss_cons (ps_asg (pe_ix ix_list (pv 2) pe_neg (fun _ _ => rfl)) (pg_tup (by rfl) (pgs_cons (pg_name (i := 12) nd rfl (.inl rfl)) (pgs_cons (pg_name (i := 13) nd rfl (.inl rfl)) pgs_nil)))) (pss_cons (ps_asg (pe_ix ix_list (pv 2) pe_neg (fun _ _ => rfl)) (pg_tup (by rfl) (pgs_cons (pg_name (i := 14) nd rfl (.inl rfl)) (pgs_cons (pg_name (i := 15) nd rfl (.inl rfl)) pgs_nil)))) (pss_cons (ps_if (pt_cmpR op_ge (pe_op op_sub (pe_op op_mulW (pe_op op_sub (pv 14) (pv 12)) (pe_op op_sub (pv 10) (pv 13))) (pe_op op_mulW (pe_op op_sub (pv 15) (pv 13)) (pe_op op_sub (pv 9) (pv 12)))) (pv 1) (nomark _)) (pss_one ps_break) pss_nil) (pss_one (ps_expr (pe_bm0 PySem.F.plainAttrs_list PySem.F.slot_list_pop PySem.F.type_list_pop mt_pop (pv 2)))))))) (pss_one (ps_expr (pe_bm PySem.F.plainAttrs_list PySem.F.slot_list_append PySem.F.type_list_append mt_append (pv 2) (pa_cons (pv 8) pa_nil))))) pss_nil) (pss_one (ps_if (pt_cmpR op_ge (pv 11) pe_int (nomark _)) (pss_cons (ps_while PassesOwn.never (pt_cmpR op_gt (pe_callB call_len_seq (by rfl) mlen (by decide +kernel) (pa_cons (pv 3) pa_nil)) pe_int (nomark _)) (pss_cons (ps_asg (pe_ix ix_list (pv 3) pe_neg (fun _ _ => rfl)) (pg_tup (by rfl) (pgs_cons (pg_name (i := 12) nd rfl (.inl rfl)) (pgs_cons (pg_name (i := 13) nd rfl (.inl rfl)) pgs_nil)))) (pss_cons (ps_asg (pe_ix ix_list (pv 3) pe_neg (fun _ _ => rfl)) (pg_tup (by rfl) (pgs_cons (pg_name (i := 14) nd rfl (.inl rfl)) (pgs_cons (pg_name (i := 15) nd rfl (.inl rfl)) pgs_nil)))) (pss_cons (ps_if (pt_cmpR op_ge (pe_op op_sub (pe_op op_mulW (pe_op op_sub (pv 15) (pv 13)) (pe_op op_sub (pv 9) (pv 12))) (pe_op op_mulW (pe_op op_sub (pv 14) (pv 12)) (pe_op op_sub (pv 10) (pv 13)))) (pv 1) (nomark _)) (pss_one ps_break) pss_nil) (pss_one (ps_expr (pe_bm0 PySem.F.plainAttrs_list PySem.F.slot_list_pop PySem.F.type_list_pop mt_pop (pv 3)))))))) (pss_one (ps_expr (pe_bm PySem.F.plainAttrs_list PySem.F.slot_list_append PySem.F.type_list_append mt_append (pv 3) (pa_cons (pv 8) pa_nil))))) pss_nil)))))) (pss_one (ps_ret (pe_tupG (pa_cons (pv 2) (pa_cons (pv 3) pa_nil))))))))), ?_⟩
    have len : (ts.map V.ref).length = ts.length := List.length_map _
    obtain ⟨t0, e0, rfl⟩ : ∃ t0, ts.head? = some t0 ∧ g t0 = p0 := by
      rw [List.head?_map] at h0
      exact Option.map_eq_some_iff.mp h0
    obtain ⟨tz, ez, rfl⟩ : ∃ tz, ts.getLast? = some tz ∧ g tz = q0 := by
      rw [List.getLast?_map] at hq
      exact Option.map_eq_some_iff.mp hq
    have m0 := List.mem_of_head? e0
    have mz := List.mem_of_getLast? ez
    repeat array_get_dec
    refine fun l H1 s1 n1 e1 => ?_
    repeat array_get_dec
    refine fun h H2 s2 n2 e2 => ?_
    repeat array_get_dec
    refine ⟨p, _, 0, _, rfl, rfl, SqL.of (s2 _ _ (s1 _ _ hl.at_)), headI e0, ?_⟩
    have st0 := (hl.sit t0 m0).1
    have stz := (hl.sit tz mz).1
    obtain ⟨u1, u2, u3, u4⟩ := (hl.sit t0 m0).2
    obtain ⟨z1, z2, z3, z4⟩ := (hl.sit tz mz).2
    repeat array_get_dec
    refine ⟨p, _, -1, _, rfl, rfl, SqL.of (s2 _ _ (s1 _ _ hl.at_)), lastI ez, ?_⟩
    repeat array_get_dec
    refine ⟨p, _, -1, _, rfl, rfl, SqL.of (s2 _ _ (s1 _ _ hl.at_)), lastI ez, ?_⟩
    repeat array_get_dec
    have nl : H l = none := n1
    have nh : H h = none := s1.free n2
    have lh : l ≠ h := ne_of_none e1 n2
    have S2 := s1.trans s2
    refine ⟨⟨_, SqL.of (S2 _ _ hl.at_)⟩, for_list (K := K) (a := p) (xs := ts.map V.ref) (fun i σ' H' => (∃ y8 y9 y10 y11 y12 y13 y14 y15, σ' = [some (.ref p), some (.int least), some (.ref l), some (.ref h), some (.int (g t0).1), some (.int (g t0).2), some (.int ((g tz).1 - (g t0).1)), some (.int ((g tz).2 - (g t0).2)), y8, y9, y10, y11, y12, y13, y14, y15]) ∧ CS H H' l h (stA g tn least (g t0) (g tz) (ts.take i)) (stA g tm least (g t0) (g tz) (ts.take i))) ⟨⟨_, _, _, _, _, _, _, _, rfl⟩, ⟨S2, s2 _ _ e1, e2⟩⟩ (fun i σ' H' _ z => SqL.of (z.2.sm _ _ hl.at_)) (fun i x σ' H' hx z => ?_) fun σ' H' z => ?_⟩
    · obtain ⟨⟨y8, y9, y10, y11, y12, y13, y14, y15, rfl⟩, C⟩ := z
      obtain ⟨t, et, rfl, mt⟩ := ref_at hx
      have hst := C.sm _ _ (hl.sit t mt).1
      obtain ⟨b1, b2, b3, b4⟩ := (hl.sit t mt).2
      have ht3 : (ts.take i).length ≤ ts.length := by rw [List.length_take]; omega
      have lenL : (stA g tn least (g t0) (g tz) (ts.take i)).length < 201 := Nat.lt_of_le_of_lt (Nat.le_trans (stA_len _ _ _ _ _ _) ht3) hl.few
      have lenH : (stA g tm least (g t0) (g tz) (ts.take i)).length < 201 := Nat.lt_of_le_of_lt (Nat.le_trans (stA_len _ _ _ _ _ _) ht3) hl.few
      have subL : ∀ x ∈ stA g tn least (g t0) (g tz) (ts.take i), x ∈ ts := fun x hx => List.mem_of_mem_take (stA_sub _ _ _ _ _ _ x hx)
      have subH : ∀ x ∈ stA g tm least (g t0) (g tz) (ts.take i), x ∈ ts := fun x hx => List.mem_of_mem_take (stA_sub _ _ _ _ _ _ x hx)
      repeat array_get_dec
      refine ⟨fun σ1 Hd => (∃ y12 y13 y14 y15, σ1 = [some (.ref p), some (.int least), some (.ref l), some (.ref h), some (.int (g t0).1), some (.int (g t0).2), some (.int ((g tz).1 - (g t0).1)), some (.int ((g tz).2 - (g t0).2)), some (.ref t), some (.int (g t).1), some (.int (g t).2), some (.int (tn (g t0) (g tz) (g t))), y12, y13, y14, y15]) ∧ CS H Hd l h (stepA g tn least (g t0) (g tz) (stA g tn least (g t0) (g tz) (ts.take i)) t) (stA g tm least (g t0) (g tz) (ts.take i)), ?_, ?_⟩
      · repeat array_get_dec
        refine w_ifd (fun c => ?_) fun c => ?_
        · have c0 : tn (g t0) (g tz) (g t) ≤ 0 := c
          have few : (stA g tn least (g t0) (g tz) (ts.take i)).length < 201 := lenL
          refine ⟨fun m σ4 H4 => ∃ y12 y13 y14 y15 st, m = st.length ∧ σ4 = [some (.ref p), some (.int least), some (.ref l), some (.ref h), some (.int (g t0).1), some (.int (g t0).2), some (.int ((g tz).1 - (g t0).1)), some (.int ((g tz).2 - (g t0).2)), some (.ref t), some (.int (g t).1), some (.int (g t).2), some (.int (tn (g t0) (g tz) (g t))), y12, y13, y14, y15] ∧ CS H H4 l h st (stA g tm least (g t0) (g tz) (ts.take i)) ∧ popA g tn least t (stA g tn least (g t0) (g tz) (ts.take i)) = popA g tn least t st ∧ st.length ≤ (stA g tn least (g t0) (g tz) (ts.take i)).length ∧ ∀ x ∈ st, x ∈ ts, ⟨_, _, _, _, _, _, rfl, rfl, C, rfl, Nat.le_refl _, subL⟩, ?_⟩
          rintro m σ4 H4 ⟨y12, y13, y14, y15, st, rfl, rfl, C4, pe, le4, sub4⟩
          have eA4 := C4.el
          have lst : (st.reverse.map V.ref).length = st.length := by rw [List.length_map, List.length_reverse]
          repeat array_get_dec
          rcases st with _ | ⟨b, _ | ⟨a, r⟩⟩
          · refine w_itf (fun z => by have z : (1 : Int) < ((([] : List Addr).reverse.map V.ref).length : Nat) := z; rw [lst] at z; simp at z) ?_
            have ps : popA g tn least t (stA g tn least (g t0) (g tz) (ts.take i)) = [] := by rw [pe]; rfl
            refine ⟨_, rfl, .inl ⟨rfl, _, SqL.of eA4⟩, _, rfl, l, _, .ref t, rfl, rfl, eA4, by rw [List.length_map, List.length_reverse]; exact Nat.lt_of_le_of_lt le4 (Nat.lt_of_lt_of_le few (by decide)), ?_⟩
            refine ⟨⟨_, _, _, _, rfl⟩, ?_⟩
            rw [stepA_pos c0, ps]
            exact ⟨Same.put C4.sm nl, by rw [upd_same, put_top], by rw [upd_ne (Ne.symm lh)]; exact C4.eh⟩
          · refine w_itf (fun z => by have z : (1 : Int) < ((([b] : List Addr).reverse.map V.ref).length : Nat) := z; rw [lst] at z; simp at z) ?_
            have ps : popA g tn least t (stA g tn least (g t0) (g tz) (ts.take i)) = [b] := by rw [pe]; rfl
            refine ⟨_, rfl, .inl ⟨rfl, _, SqL.of eA4⟩, _, rfl, l, _, .ref t, rfl, rfl, eA4, by rw [List.length_map, List.length_reverse]; exact Nat.lt_of_le_of_lt le4 (Nat.lt_of_lt_of_le few (by decide)), ?_⟩
            refine ⟨⟨_, _, _, _, rfl⟩, ?_⟩
            rw [stepA_pos c0, ps]
            exact ⟨Same.put C4.sm nl, by rw [upd_same, put_top], by rw [upd_ne (Ne.symm lh)]; exact C4.eh⟩
          refine w_itt (by show (1 : Int) < (((b :: a :: r).reverse.map V.ref).length : Nat); rw [lst]; simp only [List.length_cons]; omega) ?_
          refine ⟨fun σ5 H5 => ∃ y12 y13 y14 y15, σ5 = [some (.ref p), some (.int least), some (.ref l), some (.ref h), some (.int (g t0).1), some (.int (g t0).2), some (.int ((g tz).1 - (g t0).1)), some (.int ((g tz).2 - (g t0).2)), some (.ref t), some (.int (g t).1), some (.int (g t).2), some (.int (tn (g t0) (g tz) (g t))), y12, y13, y14, y15] ∧ CS H H5 l h (a :: r) (stA g tm least (g t0) (g tz) (ts.take i)) ∧ popA g tn least t (stA g tn least (g t0) (g tz) (ts.take i)) = popA g tn least t (a :: r), ?_, ?_⟩
          · rintro σ5 H5 ⟨y12, y13, y14, y15, rfl, C5, pe5⟩
            exact ⟨_, Nat.lt_succ_self _, _, _, _, _, a :: r, rfl, rfl, C5, pe5, Nat.le_trans (Nat.le_succ _) le4, fun x hx => sub4 x (List.mem_cons_of_mem _ hx)⟩
          have ma := sub4 a (List.mem_cons_of_mem _ List.mem_cons_self)
          have mb := sub4 b List.mem_cons_self
          have sa := C4.sm _ _ (hl.sit a ma).1
          have sb := C4.sm _ _ (hl.sit b mb).1
          obtain ⟨a1, a2, a3, a4⟩ := (hl.sit a ma).2
          obtain ⟨b1, b2, b3, b4⟩ := (hl.sit b mb).2
          refine ⟨_, rfl, _, _, _, _, rfl, rfl, SqL.of eA4, last_two.2, ?_⟩
          repeat array_get_dec
          refine ⟨_, _, _, _, rfl, rfl, SqL.of eA4, last_two.1, ?_⟩
          repeat array_get_dec
          refine w_ifd (fun d => ?_) fun d => ?_
          · have d : least ≤ tn (g a) (g b) (g t) := d
            have ps : popA g tn least t (stA g tn least (g t0) (g tz) (ts.take i)) = (b :: a :: r) := by rw [pe]; rw [popA, if_neg (Int.not_lt.mpr d)]
            refine ⟨_, rfl, .inl ⟨rfl, _, SqL.of eA4⟩, _, rfl, l, _, .ref t, rfl, rfl, eA4, by rw [List.length_map, List.length_reverse]; exact Nat.lt_of_le_of_lt le4 (Nat.lt_of_lt_of_le few (by decide)), ?_⟩
            refine ⟨⟨_, _, _, _, rfl⟩, ?_⟩
            rw [stepA_pos c0, ps]
            exact ⟨Same.put C4.sm nl, by rw [upd_same, put_top], by rw [upd_ne (Ne.symm lh)]; exact C4.eh⟩
          · have d : tn (g a) (g b) (g t) < least := Int.not_le.mp d
            refine ⟨_, rfl, .inl ⟨rfl, _, SqL.of eA4⟩, l, _, .ref b, rfl, rfl, eA4, get_top, ?_⟩
            exact ⟨_, _, _, _, rfl, ⟨Same.put C4.sm nl, by rw [upd_same, drop_top], by rw [upd_ne (Ne.symm lh)]; exact C4.eh⟩, by rw [pe, popA, if_pos d]⟩
        · have c0 : ¬ tn (g t0) (g tz) (g t) ≤ 0 := c
          refine ⟨⟨_, _, _, _, rfl⟩, ?_⟩
          rw [stepA_neg c0]
          exact C
      · rintro σ1 Hd ⟨⟨y12, y13, y14, y15, rfl⟩, C1⟩
        repeat array_get_dec
        refine w_ifd (fun c => ?_) fun c => ?_
        · have c0 : tm (g t0) (g tz) (g t) ≤ 0 := by unfold tm; have c : 0 ≤ tn (g t0) (g tz) (g t) := c; omega
          have few : (stA g tm least (g t0) (g tz) (ts.take i)).length < 201 := lenH
          refine ⟨fun m σ4 H4 => ∃ y12 y13 y14 y15 st, m = st.length ∧ σ4 = [some (.ref p), some (.int least), some (.ref l), some (.ref h), some (.int (g t0).1), some (.int (g t0).2), some (.int ((g tz).1 - (g t0).1)), some (.int ((g tz).2 - (g t0).2)), some (.ref t), some (.int (g t).1), some (.int (g t).2), some (.int (tn (g t0) (g tz) (g t))), y12, y13, y14, y15] ∧ CS H H4 l h (stepA g tn least (g t0) (g tz) (stA g tn least (g t0) (g tz) (ts.take i)) t) st ∧ popA g tm least t (stA g tm least (g t0) (g tz) (ts.take i)) = popA g tm least t st ∧ st.length ≤ (stA g tm least (g t0) (g tz) (ts.take i)).length ∧ ∀ x ∈ st, x ∈ ts, ⟨_, _, _, _, _, _, rfl, rfl, C1, rfl, Nat.le_refl _, subH⟩, ?_⟩
          rintro m σ4 H4 ⟨y12, y13, y14, y15, st, rfl, rfl, C4, pe, le4, sub4⟩
          have eA4 := C4.eh
          have lst : (st.reverse.map V.ref).length = st.length := by rw [List.length_map, List.length_reverse]
          repeat array_get_dec
          rcases st with _ | ⟨b, _ | ⟨a, r⟩⟩
          · refine w_itf (fun z => by have z : (1 : Int) < ((([] : List Addr).reverse.map V.ref).length : Nat) := z; rw [lst] at z; simp at z) ?_
            have ps : popA g tm least t (stA g tm least (g t0) (g tz) (ts.take i)) = [] := by rw [pe]; rfl
            refine ⟨_, rfl, .inl ⟨rfl, _, SqL.of eA4⟩, _, rfl, h, _, .ref t, rfl, rfl, eA4, by rw [List.length_map, List.length_reverse]; exact Nat.lt_of_le_of_lt le4 (Nat.lt_of_lt_of_le few (by decide)), ?_⟩
            refine ⟨⟨_, _, _, _, _, _, _, _, rfl⟩, ?_⟩
            rw [stA_snoc _ _ _ _ _ et, stA_snoc _ _ _ _ _ et, stepA_pos c0, ps]
            exact ⟨Same.put C4.sm nh, by rw [upd_ne lh]; exact C4.el, by rw [upd_same, put_top]⟩
          · refine w_itf (fun z => by have z : (1 : Int) < ((([b] : List Addr).reverse.map V.ref).length : Nat) := z; rw [lst] at z; simp at z) ?_
            have ps : popA g tm least t (stA g tm least (g t0) (g tz) (ts.take i)) = [b] := by rw [pe]; rfl
            refine ⟨_, rfl, .inl ⟨rfl, _, SqL.of eA4⟩, _, rfl, h, _, .ref t, rfl, rfl, eA4, by rw [List.length_map, List.length_reverse]; exact Nat.lt_of_le_of_lt le4 (Nat.lt_of_lt_of_le few (by decide)), ?_⟩
            refine ⟨⟨_, _, _, _, _, _, _, _, rfl⟩, ?_⟩
            rw [stA_snoc _ _ _ _ _ et, stA_snoc _ _ _ _ _ et, stepA_pos c0, ps]
            exact ⟨Same.put C4.sm nh, by rw [upd_ne lh]; exact C4.el, by rw [upd_same, put_top]⟩
          refine w_itt (by show (1 : Int) < (((b :: a :: r).reverse.map V.ref).length : Nat); rw [lst]; simp only [List.length_cons]; omega) ?_
          refine ⟨fun σ5 H5 => ∃ y12 y13 y14 y15, σ5 = [some (.ref p), some (.int least), some (.ref l), some (.ref h), some (.int (g t0).1), some (.int (g t0).2), some (.int ((g tz).1 - (g t0).1)), some (.int ((g tz).2 - (g t0).2)), some (.ref t), some (.int (g t).1), some (.int (g t).2), some (.int (tn (g t0) (g tz) (g t))), y12, y13, y14, y15] ∧ CS H H5 l h (stepA g tn least (g t0) (g tz) (stA g tn least (g t0) (g tz) (ts.take i)) t) (a :: r) ∧ popA g tm least t (stA g tm least (g t0) (g tz) (ts.take i)) = popA g tm least t (a :: r), ?_, ?_⟩
          · rintro σ5 H5 ⟨y12, y13, y14, y15, rfl, C5, pe5⟩
            exact ⟨_, Nat.lt_succ_self _, _, _, _, _, a :: r, rfl, rfl, C5, pe5, Nat.le_trans (Nat.le_succ _) le4, fun x hx => sub4 x (List.mem_cons_of_mem _ hx)⟩
          have ma := sub4 a (List.mem_cons_of_mem _ List.mem_cons_self)
          have mb := sub4 b List.mem_cons_self
          have sa := C4.sm _ _ (hl.sit a ma).1
          have sb := C4.sm _ _ (hl.sit b mb).1
          obtain ⟨a1, a2, a3, a4⟩ := (hl.sit a ma).2
          obtain ⟨b1, b2, b3, b4⟩ := (hl.sit b mb).2
          refine ⟨_, rfl, _, _, _, _, rfl, rfl, SqL.of eA4, last_two.2, ?_⟩
          repeat array_get_dec
          refine ⟨_, _, _, _, rfl, rfl, SqL.of eA4, last_two.1, ?_⟩
          repeat array_get_dec
          refine w_ifd (fun d => ?_) fun d => ?_
          · have d : least ≤ tm (g a) (g b) (g t) := by unfold tm tn; have d : least ≤ ((g b).2 - (g a).2) * ((g t).1 - (g a).1) - ((g b).1 - (g a).1) * ((g t).2 - (g a).2) := d; omega
            have ps : popA g tm least t (stA g tm least (g t0) (g tz) (ts.take i)) = (b :: a :: r) := by rw [pe]; rw [popA, if_neg (Int.not_lt.mpr d)]
            refine ⟨_, rfl, .inl ⟨rfl, _, SqL.of eA4⟩, _, rfl, h, _, .ref t, rfl, rfl, eA4, by rw [List.length_map, List.length_reverse]; exact Nat.lt_of_le_of_lt le4 (Nat.lt_of_lt_of_le few (by decide)), ?_⟩
            refine ⟨⟨_, _, _, _, _, _, _, _, rfl⟩, ?_⟩
            rw [stA_snoc _ _ _ _ _ et, stA_snoc _ _ _ _ _ et, stepA_pos c0, ps]
            exact ⟨Same.put C4.sm nh, by rw [upd_ne lh]; exact C4.el, by rw [upd_same, put_top]⟩
          · have d : tm (g a) (g b) (g t) < least := by unfold tm tn; have d : ¬ least ≤ ((g b).2 - (g a).2) * ((g t).1 - (g a).1) - ((g b).1 - (g a).1) * ((g t).2 - (g a).2) := d; omega
            refine ⟨_, rfl, .inl ⟨rfl, _, SqL.of eA4⟩, h, _, .ref b, rfl, rfl, eA4, get_top, ?_⟩
            exact ⟨_, _, _, _, rfl, ⟨Same.put C4.sm nh, by rw [upd_ne lh]; exact C4.el, by rw [upd_same, drop_top]⟩, by rw [pe, popA, if_pos d]⟩
        · have c0 : ¬ tm (g t0) (g tz) (g t) ≤ 0 := by unfold tm; have c : ¬ 0 ≤ tn (g t0) (g tz) (g t) := c; omega
          refine ⟨⟨_, _, _, _, _, _, _, _, rfl⟩, ?_⟩
          rw [stA_snoc _ _ _ _ _ et, stA_snoc _ _ _ _ _ et, stepA_neg c0]
          exact C1
    · obtain ⟨⟨y8, y9, y10, y11, y12, y13, y14, y15, rfl⟩, C⟩ := z
      rw [len, List.take_length] at C
      repeat array_get_dec
      exact fun T HT sT nT eT => q T l h HT (Same.trans C.sm sT) eT nl nh lh (sT _ _ C.el) (sT _ _ C.eh)
end
/-! ### border and corners -/
section
variable {P : Program} {w : World} {K : PySem.W.Frag} {mg : Str → Option Value} {base : Heap}
theorem inner_map {α β : Type} (f : α → β) (l : List α) : (inner l).map f = inner (l.map f) := by
  unfold inner
  rw [List.map_reverse, List.map_dropLast, List.map_drop]
theorem inner_mem {α : Type} {l : List α} {x : α} (h : x ∈ inner l) : x ∈ l := List.mem_of_mem_drop (List.dropLast_subset _ (List.mem_reverse.mp h))
/-- both chains, joined -/
def joinA (f : Addr → Pt) (least : Int) (p0 q : Pt) (ts : List Addr) : List Addr := (stA f tn least p0 q ts).reverse ++ inner (stA f tm least p0 q ts).reverse
theorem joinA_mem {f : Addr → Pt} {least : Int} {p0 q : Pt} {ts : List Addr} : ∀ x ∈ joinA f least p0 q ts, x ∈ ts := fun x h => by
  rcases List.mem_append.mp h with m | m
  · exact stA_sub _ _ _ _ _ _ _ (List.mem_reverse.mp m)
  · exact stA_sub _ _ _ _ _ _ _ (List.mem_reverse.mp (inner_mem m))
theorem joinA_len {f : Addr → Pt} {least : Int} {p0 q : Pt} {ts : List Addr} : (joinA f least p0 q ts).length ≤ 2 * ts.length := by
  have h1 := stA_len f tn least p0 q ts
  have h2 := stA_len f tm least p0 q ts
  have h3 := (picks_inner.len) (((stA f tm least p0 q ts).reverse).map V.ref)
  rw [← inner_map, List.length_map, List.length_map, List.length_reverse] at h3
  unfold joinA
  rw [List.length_append, List.length_reverse]
  omega
theorem joinA_bord {f : Addr → Pt} {p0 q : Pt} {ts : List Addr} : (joinA f 0 p0 q ts).map f = bordN p0 q (ts.map f) := by
  unfold joinA bordN
  rw [List.map_append, inner_map, List.map_reverse, List.map_reverse, stA_map, stA_map]
  rfl
theorem joinA_corn {f : Addr → Pt} {p0 q : Pt} {ts : List Addr} : (joinA f 1 p0 q ts).map f = cornN p0 q (ts.map f) := by
  unfold joinA cornN
  rw [List.map_append, inner_map, List.map_reverse, List.map_reverse, stA_map, stA_map]
  rfl
/-- in a row none goes -/
theorem stA_row {f : Addr → Pt} {T : Sgt} {p0 q : Pt} {ts : List Addr} (h : ∀ a ∈ ts, ∀ b ∈ ts, ∀ c ∈ ts, T (f a) (f b) (f c) = 0) (h0 : ∀ a ∈ ts, T p0 q (f a) = 0) : stA f T 0 p0 q ts = ts.reverse := by
  have go : ∀ (us st : List Addr), (∀ x ∈ us, x ∈ ts) → (∀ x ∈ st, x ∈ ts) → us.foldl (stepA f T 0 p0 q) st = us.reverse ++ st := by
    intro us
    induction us with
    | nil => intro st _ _; rfl
    | cons u us ih =>
      intro st hu hs
      have mu := hu u List.mem_cons_self
      have pp : popA f T 0 u st = st := by
        match st, hs with
        | [], _ => rfl
        | [_], _ => rfl
        | b :: a :: r, hs => rw [popA, h a (hs a (by simp)) b (hs b (by simp)) u mu, if_neg (by decide)]
      rw [List.foldl_cons, stepA_pos (Int.le_of_eq (h0 u mu)), pp, ih (u :: st) (fun x m => hu x (List.mem_cons_of_mem _ m)) (fun x m => by
        rcases List.mem_cons.mp m with rfl | m
        · exact mu
        · exact hs x m), List.reverse_cons, List.append_assoc]
      rfl
  have := go ts [] (fun _ m => m) (fun _ m => by cases m)
  rwa [List.append_nil] at this
/-- if none goes, all are on the line of the ends -/
theorem stA_full {f : Addr → Pt} {T : Sgt} {p0 q : Pt} {ts : List Addr} (h : (stA f T 0 p0 q ts).length = ts.length) : ∀ a ∈ ts, T p0 q (f a) ≤ 0 := by
  have go : ∀ (us st : List Addr), (us.foldl (stepA f T 0 p0 q) st).length ≤ us.length + st.length ∧ ((us.foldl (stepA f T 0 p0 q) st).length = us.length + st.length → ∀ a ∈ us, T p0 q (f a) ≤ 0) := by
    intro us
    induction us with
    | nil => intro st; exact ⟨by simp, fun _ a m => by cases m⟩
    | cons u us ih =>
      intro st
      rw [List.foldl_cons, List.length_cons]
      have k := ih (stepA f T 0 p0 q st u)
      by_cases c : T p0 q (f u) ≤ 0
      · rw [stepA_pos c] at k ⊢
        have := popA_len f T 0 u st
        rw [List.length_cons] at k
        refine ⟨by omega, fun e a m => ?_⟩
        rcases List.mem_cons.mp m with rfl | m
        · exact c
        · exact k.2 (by omega) a m
      · rw [stepA_neg c] at k ⊢
        exact ⟨by omega, fun e => by omega⟩
  have := (go ts []).2
  rw [List.length_nil, Nat.add_zero] at this
  exact this h
theorem row_ts {f : Addr → Pt} {ts : List Addr} : Row (ts.map f) ↔ ∀ a ∈ ts, ∀ b ∈ ts, ∀ c ∈ ts, tn (f a) (f b) (f c) = 0 := by
  constructor
  · exact fun h a ha b hb c hc => h _ (List.mem_map_of_mem ha) _ (List.mem_map_of_mem hb) _ (List.mem_map_of_mem hc)
  · intro h a ha b hb c hc
    obtain ⟨a', ha', rfl⟩ := List.mem_map.mp ha
    obtain ⟨b', hb', rfl⟩ := List.mem_map.mp hb
    obtain ⟨c', hc', rfl⟩ := List.mem_map.mp hc
    exact h a' ha' b' hb' c' hc'
/-- rows in order: their ends -/
structure Ends2 (rows : List Pt) (p0 q : Pt) : Prop where
  so : rows.Pairwise lt2
  h0 : rows.head? = some p0
  hq : rows.getLast? = some q
theorem full_row {f : Addr → Pt} {p0 q : Pt} {ts : List Addr} (e : Ends2 (ts.map f) p0 q) : Row (ts.map f) ↔ (stA f tn 0 p0 q ts).length = ts.length ∧ (stA f tm 0 p0 q ts).length = ts.length := by
  constructor
  · intro r
    have r2 := row_ts.mp r
    have z := (row_iff e.so e.h0 e.hq).mp r
    rw [stA_row r2 fun a m => z _ (List.mem_map_of_mem m), stA_row (fun a ha b hb c hc => tm_zero (r2 a ha b hb c hc)) fun a m => tm_zero (z _ (List.mem_map_of_mem m))]
    simp
  · intro ⟨a, b⟩
    refine (row_iff e.so e.h0 e.hq).mpr fun p hp => ?_
    obtain ⟨t, m, rfl⟩ := List.mem_map.mp hp
    have h1 := stA_full a t m
    have h2 := stA_full b t m
    unfold tm at h2
    omega
abbrev s_border_of : Stmt := topS 14
abbrev n_border_of : List Str := ["rows", "low", "high"]
theorem c_border_of : FnScope n_border_of ["rows"] (defScope s_border_of) := ⟨rfl, rfl, rfl, by decide +kernel, rfl, by decide +kernel, by decide +kernel⟩
/-- a new list of some of the sites -/
def Tells (f : Addr → Pt) (ts : List Addr) (out : List Pt) (H : Hp) (Q : V → Hp → Prop) : Prop := ∀ (us : List Addr) (b : Addr) (H' : Hp), Same H H' → H b = none → H' b = some (.lst (us.map V.ref)) → us.map f = out → (∀ u ∈ us, u ∈ ts) → Q (.ref b) H'
def p_border_of : Sp := fun vs H Q _ => ∃ (p : Addr) (ts : List Addr) (f : Addr → Int × Int) (p0 q : Pt) (out : List Pt), vs = [.ref p] ∧ Lot f H p ts ∧ Ends2 (ts.map f) p0 q ∧ Brd p0 q (ts.map f) out ∧ Tells f ts out H Q
set_option pp.maxSteps 300 in
theorem ok_border_of  (D : Df K mg "border_of" s_border_of ["rows"]) (C_chains_of : Cl P w K mg base CX0 "chains_of" 1 ["rows", "least"] (p_chains_of)) (mlen : mg "len" = none) : Cl P w K mg base CX0 "border_of" 2 ["rows"] (p_border_of) := by
  refine D.cl fun f fd F => F.ok c_border_of (fun vs H Q E h => ?_) (fun cdv A outer s H vs Q E hr h => ?_)
  · obtain ⟨p, ts, g, p0, q0, out, rfl, hl, he, hb, q⟩ := h
    rfl
  · obtain ⟨p, ts, g, p0, q0, out, rfl, hl, he, hb, q⟩ := h
    have nd := c_border_of.nd
    have hu : _ := hu_of hr
    refine ⟨_, (pss_cons (ps_asg (pe_cl C_chains_of (hr.mono (by decide)) (by rfl) pass0 (pa_cons (pv 0) (pa_cons pe_int pa_nil))) (pg_tup (by rfl) (pgs_cons (pg_name (i := 1) nd rfl (.inl rfl)) (pgs_cons (pg_name (i := 2) nd rfl (.inl rfl)) pgs_nil)))) (pss_cons (ps_if (pt_chain op_eq op_eq (pe_callB call_len_seq (by rfl) mlen (by decide +kernel) (pa_cons (pv 1) pa_nil)) (pe_callB call_len_seq (by rfl) mlen (by decide +kernel) (pa_cons (pv 2) pa_nil)) (pe_callB call_len_seq (by rfl) mlen (by decide +kernel) (pa_cons (pv 0) pa_nil))) (pss_one (ps_ret (pv 1))) pss_nil) (pss_one (ps_ret (pe_op op_catG (pv 1) (pe_slB picks_inner (pv 2) (po_some pe_neg) (fun _ _ _ h => ⟨_, rfl, h⟩) (po_some pe_int) (fun _ _ _ h => ⟨_, rfl, h⟩))))))), ?_⟩
    repeat array_get_dec
    refine ⟨p, 0, ts, g, p0, q0, rfl, hl, by decide, he.h0, he.hq, fun T l h H1 s1 eT nl nh lh el eh => ?_⟩
    repeat array_get_dec
    have lenL : ((stA g tn 0 p0 q0 ts).reverse.map V.ref).length = (stA g tn 0 p0 q0 ts).length := by rw [List.length_map, List.length_reverse]
    have lenH : ((stA g tm 0 p0 q0 ts).reverse.map V.ref).length = (stA g tm 0 p0 q0 ts).length := by rw [List.length_map, List.length_reverse]
    have lenR : (ts.map V.ref).length = ts.length := List.length_map _
    have fr := full_row he
    by_cases row : Row (ts.map g)
    · obtain ⟨k1, k2⟩ := fr.mp row
      rw [lenL, lenH, if_pos (by rw [k1, k2]; exact decide_eq_true rfl)]
      repeat array_get_dec
      refine ⟨p, _, rfl, .inl (SqL.of (s1 _ _ hl.at_)), ?_⟩
      repeat array_get_dec
      repeat array_get_dec
      refine q _ _ _ s1 nl el ?_ fun u m => stA_sub _ _ _ _ _ _ _ (List.mem_reverse.mp m)
      rw [hb.1 row, stA_row (row_ts.mp row) fun a m => (row_iff he.so he.h0 he.hq).mp row _ (List.mem_map_of_mem m), List.reverse_reverse]
    · have out1 : (joinA g 0 p0 q0 ts).map g = out := by rw [hb.2 row]; exact joinA_bord
      rw [lenL, lenH]
      by_cases c1 : (stA g tn 0 p0 q0 ts).length = (stA g tm 0 p0 q0 ts).length
      · rw [if_pos (by rw [c1]; exact decide_eq_true rfl)]
        repeat array_get_dec
        refine ⟨p, _, rfl, .inl (SqL.of (s1 _ _ hl.at_)), ?_⟩
        repeat array_get_dec
        have c2 : (stA g tm 0 p0 q0 ts).length ≠ ts.length := fun z => row (fr.mpr ⟨c1.trans z, z⟩)
        rw [lenR]
        refine w_itf (p := V.int ((stA g tm 0 p0 q0 ts).length : Nat) = V.int (ts.length : Nat)) (fun z => c2 (by injection z with this; omega)) ?_
        repeat array_get_dec
        refine ⟨h, _, rfl, SqL.of eh, fun a2 H2 s2 n2 e2 => ?_⟩
        refine ⟨l, a2, _, _, rfl, rfl, s2 _ _ el, e2, Nat.le_trans (Nat.add_le_add (by rw [lenL]; exact stA_len _ _ _ _ _ _) (Nat.le_trans (picks_inner.len _) (by rw [lenH]; exact stA_len _ _ _ _ _ _))) (Nat.le_trans (Nat.add_le_add (Nat.le_of_lt hl.few) (Nat.le_of_lt hl.few)) (by decide)), fun b H3 s3 n3 e3 => ?_⟩
        have e4 : H3 b = some (.lst ((joinA g 0 p0 q0 ts).map V.ref)) := by rw [e3, ← inner_map, ← List.map_append]; rfl
        exact q _ _ _ (s1.trans (s2.trans s3)) (s1.free (s2.free n3)) e4 out1 joinA_mem
      · rw [if_neg fun z => c1 (by have := of_decide_eq_true z; injection this with this; omega)]
        repeat array_get_dec
        refine ⟨h, _, rfl, SqL.of eh, fun a2 H2 s2 n2 e2 => ?_⟩
        refine ⟨l, a2, _, _, rfl, rfl, s2 _ _ el, e2, Nat.le_trans (Nat.add_le_add (by rw [lenL]; exact stA_len _ _ _ _ _ _) (Nat.le_trans (picks_inner.len _) (by rw [lenH]; exact stA_len _ _ _ _ _ _))) (Nat.le_trans (Nat.add_le_add (Nat.le_of_lt hl.few) (Nat.le_of_lt hl.few)) (by decide)), fun b H3 s3 n3 e3 => ?_⟩
        have e4 : H3 b = some (.lst ((joinA g 0 p0 q0 ts).map V.ref)) := by rw [e3, ← inner_map, ← List.map_append]; rfl
        exact q _ _ _ (s1.trans (s2.trans s3)) (s1.free (s2.free n3)) e4 out1 joinA_mem
end
theorem getD_at {α : Type} {l : List α} {i : Nat} {x d : α} (h : l[i]? = some x) : l.getD i d = x := by
  rw [List.getD_eq_getElem?_getD, h]
  rfl
/-! ### a purse of draws -/
section
variable {P : Program} {w : World} {K : PySem.W.Frag} {mg : Str → Option Value} {base : Heap}
/-- a source whose count of draws is at most N -/
def SrcB (N : Nat) (H : Hp) (s : Addr) : Prop := ∃ a b c : Int, H s = some (.lst [.int a, .int b, .int c]) ∧ b.natAbs < 2 ^ 31 ∧ c.natAbs ≤ N
theorem SrcB.src {N : Nat} {H : Hp} {s : Addr} (h : SrcB N H s) : Src H s := by
  obtain ⟨a, b, c, e, _⟩ := h
  exact ⟨a, b, c, e⟩
theorem SrcB.up {N M : Nat} {H : Hp} {s : Addr} (h : SrcB N H s) (le : N ≤ M) : SrcB M H s := by
  obtain ⟨a, b, c, e, k, l⟩ := h
  exact ⟨a, b, c, e, k, Nat.le_trans l le⟩
theorem SrcB.same {N : Nat} {H H' : Hp} {s : Addr} (h : SrcB N H s) (k : Same H H') : SrcB N H' s := by
  obtain ⟨a, b, c, e, r⟩ := h
  exact ⟨a, b, c, k _ _ e, r⟩
abbrev s__law_purse : Stmt := topS 22
abbrev n__law_purse : List Str := ["_law_figure"]
theorem c__law_purse : FnScope n__law_purse ["_law_figure"] (defScope s__law_purse) := ⟨rfl, rfl, rfl, by decide +kernel, rfl, by decide +kernel, by decide +kernel⟩
def p__law_purse : Sp := fun vs H Q _ => ∃ n : Int, vs = [.int n] ∧ ∀ p H', Same H H' → H p = none → SrcB 3 H' p → Q (.ref p) H'
set_option pp.maxSteps 300 in
theorem ok__law_purse  (D : Df K mg "_law_purse" s__law_purse ["_law_figure"]) (mabs : mg "abs" = none) (mint : mg "int" = none) : Cl P w K mg base CX0 "_law_purse" 1 ["_law_figure"] (p__law_purse) := by
  refine D.cl fun f fd F => F.ok c__law_purse (fun vs H Q E h => ?_) (fun cdv A outer s H vs Q E hr h => ?_)
  · obtain ⟨n, rfl, q⟩ := h
    rfl
  · obtain ⟨n, rfl, q⟩ := h
    have nd := c__law_purse.nd
    have hu : _ := hu_of hr
    refine ⟨_, (pss_one (ps_ret (pe_lstG (pa_cons (pe_op op_mul (pe_callB call_abs (by rfl) mabs (by decide +kernel) (pa_cons (pv 0) pa_nil)) (pe_callTy call_int1 (by rfl) mint (by decide +kernel) (pa_cons (pe_cmpR op_ge (pe_callB call_abs (by rfl) mabs (by decide +kernel) (pa_cons (pv 0) pa_nil)) (pe_op op_pow pe_int pe_int) (nomark _)) pa_nil))) (pa_cons (pe_op op_mod (pe_callTy call_int1 (by rfl) mint (by decide +kernel) (pa_cons (pv 0) pa_nil)) pe_int) (pa_cons pe_int pa_nil)))))), ?_⟩
    refine ⟨_, rfl, _, rfl, _, rfl, _, rfl, _, _, rfl, rfl, ⟨by decide, by decide, by decide⟩, _, _, rfl, rfl, .inr ⟨_, rfl, _, _, rfl, rfl, .inr (b2i_small _), ?_⟩⟩
    refine ⟨_, rfl, .inl ⟨_, rfl, _, _, rfl, rfl, (by decide : (0 : Int) < 2147483563), by show 3 ≤ sizeLine; decide, fun p H' sm np e => q p H' sm np ⟨_, _, _, e, ?_, by decide⟩⟩⟩
    have h1 : 0 ≤ n % 2147483563 := Int.emod_nonneg _ (by decide)
    have h2 : n % 2147483563 < 2147483563 := Int.emod_lt_of_pos _ (by decide)
    omega
abbrev s__law_coin : Stmt := topS 23
abbrev n__law_coin : List Str := ["_law_purse_here", "_law_many", "_law_got_so", "_law_hashed"]
theorem c__law_coin : FnScope n__law_coin ["_law_purse_here", "_law_many"] (defScope s__law_coin) := ⟨rfl, rfl, rfl, by decide +kernel, rfl, by decide +kernel, by decide +kernel⟩
def p__law_coin : Sp := fun vs H Q _ => ∃ (s : Addr) (m : Int) (N : Nat), vs = [.ref s, .int m] ∧ SrcB N H s ∧ N < 2 ^ 40 ∧ 0 < m ∧ m.natAbs < 2 ^ 8000 ∧ ∀ (r : Int) H', 0 ≤ r → r < m → Stp s H H' → SrcB (N + 1) H' s → Q (.int r) H'
set_option pp.maxSteps 300 in
theorem ok__law_coin  (D : Df K mg "_law_coin" s__law_coin ["_law_purse_here", "_law_many"]) (mint : mg "int" = none) : Cl P w K mg base CX0 "_law_coin" 1 ["_law_purse_here", "_law_many"] (p__law_coin) := by
  refine D.cl fun f fd F => F.ok c__law_coin (fun vs H Q E h => ?_) (fun cdv A outer s H vs Q E hr h => ?_)
  · obtain ⟨s, m, N, rfl, ⟨a, b, c, hs, hb, hc⟩, hN, hm, hw, q⟩ := h
    rfl
  · obtain ⟨s, m, N, rfl, ⟨a, b, c, hs, hb, hc⟩, hN, hm, hw, q⟩ := h
    have nd := c__law_coin.nd
    have hu : _ := hu_of hr
    refine ⟨_, (pss_cons (ps_if (pt_cmpR op_gt (pe_ix ix_list (pv 0) pe_int (fun _ _ => rfl)) pe_int (nomark _)) (pss_cons (ps_set (i := 2) nd rfl (.inl rfl) (pe_op op_mod (pe_callTy call_int1 (by rfl) mint (by decide +kernel) (pa_cons (pe_ix ix_list (pv 0) pe_int (fun _ _ => rfl)) pa_nil)) (pv 1))) (pss_cons (ps_asg (pe_op op_fdivE (pe_ix ix_list (pv 0) pe_int (fun _ _ => rfl)) (pv 1)) (pg_sub (pv 0) pe_int set_list)) (pss_one (ps_ret (pv 2))))) pss_nil) (pss_cons (ps_asg (pe_op op_add (pe_ix ix_list (pv 0) pe_int (fun _ _ => rfl)) pe_int) (pg_sub (pv 0) pe_int set_list)) (pss_cons (ps_set (i := 3) nd rfl (.inl rfl) (pe_op op_mod (pe_callTy call_int1 (by rfl) mint (by decide +kernel) (pa_cons (pe_op op_pow (pe_op op_add (pe_op op_add (pe_ix ix_list (pv 0) pe_int (fun _ _ => rfl)) (pe_op op_mul pe_int (pe_ix ix_list (pv 0) pe_int (fun _ _ => rfl)))) pe_int) pe_int) pa_nil)) pe_int)) (pss_cons (ps_set (i := 3) nd rfl (.inl rfl) (pe_op op_mod (pe_callTy call_int1 (by rfl) mint (by decide +kernel) (pa_cons (pe_op op_mul (pe_op op_add (pv 3) (pe_op op_mul pe_int (pe_ix ix_list (pv 0) pe_int (fun _ _ => rfl)))) (pe_op op_add (pe_op op_fdiv (pv 3) pe_int) pe_int)) pa_nil)) pe_int)) (pss_one (ps_ret (pe_op op_mod (pe_callTy call_int1 (by rfl) mint (by decide +kernel) (pa_cons (pe_op op_fdiv (pe_op op_mod (pe_callTy call_int1 (by rfl) mint (by decide +kernel) (pa_cons (pe_op op_mul (pv 3) (pe_op op_add (pe_op op_fdiv (pv 3) pe_int) pe_int)) pa_nil)) pe_int) pe_int) pa_nil)) (pv 1)))))))), ?_⟩
    have at0 : ∀ x y z : V, atI [x, y, z] 0 = some x := fun _ _ _ => rfl
    refine ⟨_, rfl, s, _, _, _, rfl, rfl, SqL.of hs, at0 _ _ _, _, _, rfl, rfl, _, rfl, ite2 (fun g => ?_) fun g => ?_⟩
    · refine ⟨_, rfl, s, _, _, _, rfl, rfl, SqL.of hs, at0 _ _ _, .inl ⟨_, rfl, _, rfl, _, _, rfl, rfl, hm, ?_⟩⟩
      refine ⟨_, rfl, s, _, _, _, rfl, rfl, SqL.of hs, at0 _ _ _, _, rfl, _, _, rfl, rfl, ⟨by omega, hw⟩, ?_⟩
      refine ⟨_, rfl, s, _, 0, 0, rfl, rfl, hs, rfl, ?_⟩
      exact ⟨_, rfl, q _ _ (Int.emod_nonneg _ (Int.ne_of_gt hm)) (Int.emod_lt_of_pos _ hm) ((Stp.refl ⟨a, b, c, hs⟩).turn _ _ _) ⟨_, b, c, upd_same, hb, Nat.le_succ_of_le hc⟩⟩
    · refine ⟨_, rfl, s, _, _, _, rfl, rfl, SqL.of hs, rfl, _, _, rfl, rfl, ?_⟩
      refine ⟨_, rfl, s, _, 2, 2, rfl, rfl, hs, rfl, ?_⟩
      have h2 : (upd H s (.lst [.int a, .int b, .int (c + 1)])) s = some (.lst [.int a, .int b, .int (c + 1)]) := upd_same
      have p1 : (0 : Int) < 2147483587 := by decide
      have p2 : (0 : Int) < 2147483549 := by decide
      have p3 : (0 : Int) < 2147483543 := by decide
      have small : (b + 70001 * (c + 1) + 7).natAbs < 2 ^ 64 := by omega
      refine ⟨_, rfl, s, _, _, _, rfl, rfl, SqL.of h2, rfl, _, rfl, s, _, _, _, rfl, rfl, SqL.of h2, rfl, _, _, rfl, rfl, .inl ⟨by decide, by decide⟩, _, _, rfl, rfl, _, _, rfl, rfl, _, _, rfl, rfl, ⟨by decide, by decide, small⟩, .inl ⟨_, rfl, _, _, rfl, rfl, p1, ?_⟩⟩
      have b1 : 0 ≤ (b + 70001 * (c + 1) + 7) ^ (3 : Int).toNat % 2147483587 := Int.emod_nonneg _ (Int.ne_of_gt p1)
      have b2 : (b + 70001 * (c + 1) + 7) ^ (3 : Int).toNat % 2147483587 < 2147483587 := Int.emod_lt_of_pos _ p1
      generalize (b + 70001 * (c + 1) + 7) ^ (3 : Int).toNat % 2147483587 = n1 at b1 b2
      refine ⟨_, rfl, _, rfl, s, _, _, _, rfl, rfl, SqL.of h2, rfl, _, _, rfl, rfl, .inl ⟨by decide, by decide⟩, _, _, rfl, rfl, _, rfl, _, _, rfl, rfl, ⟨by decide, by decide⟩, _, _, rfl, rfl, _, _, rfl, rfl, .inr ⟨by omega, by omega⟩, .inl ⟨_, rfl, _, _, rfl, rfl, p2, ?_⟩⟩
      have c1 : 0 ≤ (n1 + 11 * (c + 1)) * (n1 / 1009 + 48611) % 2147483549 := Int.emod_nonneg _ (Int.ne_of_gt p2)
      have c2 : (n1 + 11 * (c + 1)) * (n1 / 1009 + 48611) % 2147483549 < 2147483549 := Int.emod_lt_of_pos _ p2
      generalize (n1 + 11 * (c + 1)) * (n1 / 1009 + 48611) % 2147483549 = n2 at c1 c2
      refine ⟨_, rfl, _, rfl, _, _, rfl, rfl, ⟨by decide, by decide⟩, _, _, rfl, rfl, _, _, rfl, rfl, .inl ⟨by omega, by omega⟩, .inl ⟨_, rfl, _, _, rfl, rfl, p3, ?_⟩⟩
      refine ⟨_, _, rfl, rfl, ⟨by decide, by decide⟩, .inl ⟨_, rfl, _, rfl, _, _, rfl, rfl, hm, ?_⟩⟩
      exact q _ _ (Int.emod_nonneg _ (Int.ne_of_gt hm)) (Int.emod_lt_of_pos _ hm) ((Stp.refl ⟨a, b, c, hs⟩).turn _ _ _) ⟨a, b, c + 1, upd_same, hb, by omega⟩
abbrev s__law_pick : Stmt := topS 24
abbrev n__law_pick : List Str := ["_law_purse_here", "_law_some"]
theorem c__law_pick : FnScope n__law_pick ["_law_purse_here", "_law_some"] (defScope s__law_pick) := ⟨rfl, rfl, rfl, by decide +kernel, rfl, by decide +kernel, by decide +kernel⟩
/-- one of some, the source at s -/
def p__law_pick : Sp := fun vs H Q _ => ∃ (s l : Addr) (xs : List V) (N : Nat), vs = [.ref s, .ref l] ∧ SrcB N H s ∧ N < 2 ^ 40 ∧ H l = some (.lst xs) ∧ l ≠ s ∧ 0 < xs.length ∧ xs.length ≤ 1000 ∧ ∀ x H', x ∈ xs → Stp s H H' → SrcB (N + 1) H' s → Q x H'
set_option pp.maxSteps 300 in
theorem ok__law_pick  (D : Df K mg "_law_pick" s__law_pick ["_law_purse_here", "_law_some"]) (C__law_coin : Cl P w K mg base CX0 "_law_coin" 1 ["_law_purse_here", "_law_many"] (p__law_coin)) (mlen : mg "len" = none) : Cl P w K mg base CX0 "_law_pick" 2 ["_law_purse_here", "_law_some"] (p__law_pick) := by
  refine D.cl fun f fd F => F.ok c__law_pick (fun vs H Q E h => ?_) (fun cdv A outer s H vs Q E hr h => ?_)
  · obtain ⟨s, l, xs, N, rfl, hs, hN, hl, hne, h0, h1, q⟩ := h
    rfl
  · obtain ⟨s, l, xs, N, rfl, hs, hN, hl, hne, h0, h1, q⟩ := h
    have nd := c__law_pick.nd
    have hu : _ := hu_of hr
    refine ⟨_, (pss_one (ps_ret (pe_ix ix_list (pv 1) (pe_cl C__law_coin (hr.mono (by decide)) (by rfl) pass0 (pa_cons (pv 0) (pa_cons (pe_callB call_len_seq (by rfl) mlen (by decide +kernel) (pa_cons (pv 1) pa_nil)) pa_nil))) (fun _ _ => rfl)))), ?_⟩
    refine ⟨_, rfl, _, rfl, _, rfl, l, xs, rfl, .inl (SqL.of hl), ?_⟩
    have small : ((xs.length : Nat) : Int).natAbs < 2 ^ 8000 := by
      rw [Int.natAbs_natCast]
      exact Nat.lt_of_le_of_lt h1 (Nat.lt_of_lt_of_le (by decide : 1000 < 2 ^ 10) (Nat.pow_le_pow_right (by decide) (by decide)))
    refine ⟨s, xs.length, N, rfl, hs, hN, by omega, small, fun r H' r0 r1 st sb => ?_⟩
    have hl' := st.keep l _ hne hl
    have hr : r.toNat < xs.length := by omega
    have at1 : atI xs r = some xs[r.toNat] := by
      have z := atI_nat (List.getElem?_eq_getElem hr)
      rwa [Int.toNat_of_nonneg r0] at z
    exact ⟨l, xs, r, _, rfl, rfl, SqL.of hl', at1, q _ _ (List.getElem_mem hr) st sb⟩
/-- from H0 all stands but the source, of which at most N were drawn -/
structure SB (s : Addr) (N : Nat) (H0 H : Hp) : Prop where
  st : Stp s H0 H
  sb : SrcB N H s
theorem SB.refl {s : Addr} {N : Nat} {H : Hp} (h : SrcB N H s) : SB s N H H := ⟨Stp.refl h.src, h⟩
theorem SB.same {s : Addr} {N : Nat} {H0 H H' : Hp} (h : SB s N H0 H) (k : Same H H') : SB s N H0 H' := ⟨h.st.same k, h.sb.same k⟩
theorem SB.step {s : Addr} {N M : Nat} {H0 H H' : Hp} (h : SB s N H0 H) (a : Stp s H H') (b : SrcB M H' s) : SB s M H0 H' := ⟨h.st.trans a, b⟩
theorem SrcB.ne {N : Nat} {H : Hp} {s p : Addr} (h : SrcB N H s) (e : H p = none) : p ≠ s := h.src.nen e
theorem i_small {m : Int} (h : m.natAbs < 2 ^ 64) : m.natAbs < 2 ^ 8000 := Nat.lt_of_lt_of_le h (Nat.pow_le_pow_right (by decide) (by decide))
end
/-! ### sites that are drawn -/
section
variable {P : Program} {w : World} {K : PySem.W.Frag} {mg : Str → Option Value} {base : Heap}
/-- a spot: two numbers within bounds -/
def Spot (a b : Int) (H : Hp) (k : Addr) : Prop := ∃ x y : Int, Sit H k x y ∧ a ≤ x ∧ x ≤ b ∧ a ≤ y ∧ y ≤ b
theorem Spot.same {a b : Int} {H H' : Hp} {k : Addr} (h : Spot a b H k) (s : Same H H') : Spot a b H' k := by
  obtain ⟨x, y, e, r⟩ := h
  exact ⟨x, y, s _ _ e, r⟩
theorem Spot.wide {a b c d : Int} {H : Hp} {k : Addr} (h : Spot a b H k) (h1 : c ≤ a) (h2 : b ≤ d) : Spot c d H k := by
  obtain ⟨x, y, e, r1, r2, r3, r4⟩ := h
  exact ⟨x, y, e, by omega, by omega, by omega, by omega⟩
theorem Spot.ne {a b : Int} {H : Hp} {k s : Addr} {N : Nat} (h : Spot a b H k) (hs : SrcB N H s) : k ≠ s := by
  obtain ⟨x, y, e, _⟩ := h
  obtain ⟨_, _, _, e2, _⟩ := hs
  rintro rfl
  unfold Sit at e
  rw [e] at e2
  cases e2
/-- a list of spots -/
structure Spots (a b : Int) (H : Hp) (p : Addr) (ks : List Addr) : Prop where
  at_ : H p = some (.lst (ks.map V.ref))
  each : ∀ k ∈ ks, Spot a b H k
theorem Spots.same {a b : Int} {H H' : Hp} {p : Addr} {ks : List Addr} (h : Spots a b H p ks) (s : Same H H') : Spots a b H' p ks := ⟨s _ _ h.at_, fun k m => (h.each k m).same s⟩
theorem Spots.wide {a b c d : Int} {H : Hp} {p : Addr} {ks : List Addr} (h : Spots a b H p ks) (h1 : c ≤ a) (h2 : b ≤ d) : Spots c d H p ks := ⟨h.at_, fun k m => (h.each k m).wide h1 h2⟩
theorem refs_ne {H : Hp} {p s : Addr} {ks : List Addr} {N : Nat} (h : H p = some (.lst (ks.map V.ref))) (hs : SrcB N H s) : p ≠ s := by
  obtain ⟨_, _, _, e2, _⟩ := hs
  rintro rfl
  rw [h] at e2
  cases ks with
  | nil => cases e2
  | cons k ks => cases e2
theorem Spots.stp {a b : Int} {H H' : Hp} {p s : Addr} {ks : List Addr} {N : Nat} (h : Spots a b H p ks) (hs : SrcB N H s) (st : Stp s H H') : Spots a b H' p ks := by
  refine ⟨st.keep _ _ (refs_ne h.at_ hs) h.at_, fun k m => ?_⟩
  have n := (h.each k m).ne hs
  obtain ⟨x, y, e, r⟩ := h.each k m
  exact ⟨x, y, st.keep _ _ n e, r⟩
theorem News.spots {a b : Int} {H : Hp} {D : Addr} {p : Nat → Int × Int} {L : List Nat} {ks : List Addr} (h : News H D (fun i => .tup [.int (p i).1, .int (p i).2]) L ks) (e : H D = some (.lst (ks.map V.ref))) (r : ∀ i ∈ L, a ≤ (p i).1 ∧ (p i).1 ≤ b ∧ a ≤ (p i).2 ∧ (p i).2 ≤ b) : Spots a b H D ks := by
  refine ⟨e, fun k m => ?_⟩
  obtain ⟨_, e1, i, mi, e2⟩ := h.at_ k m
  have := r i mi
  rw [← e2] at this
  exact ⟨_, _, e1, this⟩
theorem Spot.hv {a b : Int} {H : Hp} {k : Addr} (h : Spot a b H k) : Sit H k (hv H k).1 (hv H k).2 ∧ a ≤ (hv H k).1 ∧ (hv H k).1 ≤ b ∧ a ≤ (hv H k).2 ∧ (hv H k).2 ≤ b := by
  obtain ⟨x, y, e, r⟩ := h
  rw [hv_of e]
  exact ⟨e, r⟩
theorem two_at {a b : Addr} {i : Nat} {x : V} (h : [V.ref a, V.ref b][i]? = some x) : x = .ref a ∨ x = .ref b := by
  match i, h with
  | 0, h => exact .inl (Option.some.inj h).symm
  | 1, h => exact .inr (Option.some.inj h).symm
theorem Spots.cat {a b : Int} {H : Hp} {p q r : Addr} {ks ls : List Addr} (h : Spots a b H p ks) (k : Spots a b H q ls) (e : H r = some (.lst (ks.map V.ref ++ ls.map V.ref))) : Spots a b H r (ks ++ ls) :=
  ⟨by rw [List.map_append]; exact e, fun x m => (List.mem_append.mp m).elim (h.each x) (k.each x)⟩
theorem hv_same {a b : Int} {H H' : Hp} {k : Addr} (h : Spot a b H k) (s : Same H H') : hv H' k = hv H k := by
  obtain ⟨x, y, e, _⟩ := h
  rw [hv_of e, hv_of (s _ _ e)]
theorem st12_free {s p : Addr} {H H1 H2 : Hp} (a : Stp s H H1) (b : Stp s H1 H2) (n : H2 p = none) : H p = none := by
  have ab := a.trans b
  cases e : H p with
  | none => rfl
  | some o =>
    by_cases c : p = s
    · obtain ⟨_, _, _, z⟩ := ab.src
      rw [c, z] at n
      cases n
    · rw [ab.keep _ _ c e] at n
      cases n
abbrev s__law_ring : Stmt := topS 25
abbrev n__law_ring : List Str := ["_law_purse_here", "_law_x", "_law_y", "_law_rows_so", "_law_u", "_law_v"]
theorem c__law_ring : FnScope n__law_ring ["_law_purse_here"] (defScope s__law_ring) := ⟨rfl, rfl, rfl, by decide +kernel, rfl, by decide +kernel, by decide +kernel⟩
def p__law_ring : Sp := fun vs H Q _ => ∃ (s : Addr) (N : Nat), vs = [.ref s] ∧ SrcB N H s ∧ N < 2 ^ 39 ∧ ∀ p ks H', SB s (N + 2) H H' → Spots (-9) 9 H' p ks → ks.length = 12 → H p = none → Q (.ref p) H'
set_option pp.maxSteps 300 in
theorem ok__law_ring  (D : Df K mg "_law_ring" s__law_ring ["_law_purse_here"]) (C__law_coin : Cl P w K mg base CX0 "_law_coin" 1 ["_law_purse_here", "_law_many"] (p__law_coin)) : Cl P w K mg base CX0 "_law_ring" 2 ["_law_purse_here"] (p__law_ring) := by
  refine D.cl fun f fd F => F.ok c__law_ring (fun vs H Q E h => ?_) (fun cdv A outer s H vs Q E hr h => ?_)
  · obtain ⟨s, N, rfl, hs, hN, q⟩ := h
    rfl
  · obtain ⟨s, N, rfl, hs, hN, q⟩ := h
    have nd := c__law_ring.nd
    have hu : _ := hu_of hr
    refine ⟨_, (pss_cons (ps_asg (pe_tupG (pa_cons (pe_op op_sub (pe_cl C__law_coin (hr.mono (by decide)) (by rfl) pass0 (pa_cons (pv 0) (pa_cons pe_int pa_nil))) pe_int) (pa_cons (pe_op op_sub (pe_cl C__law_coin (hr.mono (by decide)) (by rfl) pass0 (pa_cons (pv 0) (pa_cons pe_int pa_nil))) pe_int) pa_nil))) (pg_tup (by rfl) (pgs_cons (pg_name (i := 1) nd rfl (.inr rfl)) (pgs_cons (pg_name (i := 2) nd rfl (.inr rfl)) pgs_nil)))) (pss_cons (ps_set (i := 3) nd rfl (.inl rfl) (pe_lstG (pa_cons (pe_tupG (pa_cons pe_int (pa_cons pe_int pa_nil))) (pa_cons (pe_tupG (pa_cons pe_int (pa_cons pe_int pa_nil))) (pa_cons (pe_tupG (pa_cons pe_neg (pa_cons pe_int pa_nil))) (pa_cons (pe_tupG (pa_cons pe_int (pa_cons pe_neg pa_nil))) pa_nil)))))) (pss_cons (ps_for PassesOwn.never rfl (pi_tup (pe_tupG (pa_cons (pe_tupG (pa_cons pe_int (pa_cons pe_int pa_nil))) (pa_cons (pe_tupG (pa_cons pe_int (pa_cons pe_int pa_nil))) pa_nil)))) (pg_tup (by rfl) (pgs_cons (pg_name (i := 4) nd rfl (.inl rfl)) (pgs_cons (pg_name (i := 5) nd rfl (.inl rfl)) pgs_nil))) (pss_one (ps_set (i := 3) nd rfl (.inl rfl) (pe_op op_catG (pv 3) (pe_lstG (pa_cons (pe_tupG (pa_cons (pv 4) (pa_cons (pv 5) pa_nil))) (pa_cons (pe_tupG (pa_cons (pe_op op_sub pe_int (pv 4)) (pa_cons (pv 5) pa_nil))) (pa_cons (pe_tupG (pa_cons (pv 4) (pa_cons (pe_op op_sub pe_int (pv 5)) pa_nil))) (pa_cons (pe_tupG (pa_cons (pe_op op_sub pe_int (pv 4)) (pa_cons (pe_op op_sub pe_int (pv 5)) pa_nil))) pa_nil))))))))) (pss_one (ps_ret (pe_lc (own := [("_law_u", 4), ("_law_v", 5)]) (g := (gTup K 2 (gCons (gName 4) (gCons (gName 5) gNil)))) (tt := tYes)  rfl nd (pi_list (pv 3)) (blkOk_by (own := [("_law_u", 4), ("_law_v", 5)]) (N := n__law_ring) (sc := defScope s__law_ring) (by decide +kernel)) (fun _ _ _ _ _ => by exact (pg_tup (by rfl) (pgs_cons (pg_name (i := 4) nd rfl (.inl rfl)) (pgs_cons (pg_name (i := 5) nd rfl (.inl rfl)) pgs_nil)))) (fun _ _ _ _ _ => by exact pts_nil) (fun _ _ _ _ _ => by exact (pe_tupG (pa_cons (pe_op op_add (pv 1) (pv 4)) (pa_cons (pe_op op_add (pv 2) (pv 5)) pa_nil)))))))))), ?_⟩
    repeat array_get_dec
    refine ⟨s, 9, N, rfl, hs, by omega, by decide, by decide, fun x H1 x0 x1 st1 sb1 => ?_⟩
    repeat array_get_dec
    refine ⟨s, 9, N + 1, rfl, sb1, by omega, by decide, by decide, fun y H2 y0 y1 st2 sb2 => ?_⟩
    have B2 := ((SB.refl hs).step st1 sb1).step st2 sb2
    repeat array_get_dec
    refine fun p3 H3 s3 n3 e3 => ?_
    repeat array_get_dec
    refine fun p4 H4 s4 n4 e4 => ?_
    repeat array_get_dec
    refine fun p5 H5 s5 n5 e5 => ?_
    repeat array_get_dec
    refine fun p6 H6 s6 n6 e6 => ?_
    repeat array_get_dec
    refine fun p7 H7 s7 n7 e7 => ?_
    repeat array_get_dec
    refine fun p8 H8 s8 n8 e8 => ?_
    repeat array_get_dec
    refine fun p9 H9 s9 n9 e9 => ?_
    repeat array_get_dec
    refine fun p10 H10 s10 n10 e10 => ?_
    repeat array_get_dec
    refine fun p11 H11 s11 n11 e11 => ?_
    repeat array_get_dec
    have S11 : Same H2 H11 := ((((((((s3.trans s4).trans s5).trans s6).trans s7).trans s8).trans s9).trans s10).trans s11)
    have fst4 : Spots (-5) 5 H11 p8 [p4, p5, p6, p7] := ⟨(s11 _ _ (s10 _ _ (s9 _ _ e8))), fun k m => by
      simp only [List.mem_cons, List.not_mem_nil, or_false] at m
      rcases m with rfl | rfl | rfl | rfl
      · exact ⟨_, _, (s11 _ _ (s10 _ _ (s9 _ _ (s8 _ _ (s7 _ _ (s6 _ _ (s5 _ _ e4))))))), by decide, by decide, by decide, by decide⟩
      · exact ⟨_, _, (s11 _ _ (s10 _ _ (s9 _ _ (s8 _ _ (s7 _ _ (s6 _ _ e5)))))), by decide, by decide, by decide, by decide⟩
      · exact ⟨_, _, (s11 _ _ (s10 _ _ (s9 _ _ (s8 _ _ (s7 _ _ e6))))), by decide, by decide, by decide, by decide⟩
      · exact ⟨_, _, (s11 _ _ (s10 _ _ (s9 _ _ (s8 _ _ e7)))), by decide, by decide, by decide, by decide⟩⟩
    have f9 := (s11 _ _ (s10 _ _ e9))
    have f10 := (s11 _ _ e10)
    refine ⟨⟨_, SqT.of e11⟩, for_tup (K := K) (a := p11) (xs := [V.ref p9, V.ref p10]) (fun i σ' H' => (∃ L' y4 y5, σ' = [some (.ref s), some (.int (x - 4)), some (.int (y - 4)), some (.ref L'), y4, y5] ∧ Same H11 H' ∧ H2 L' = none ∧ ∃ ks, Spots (-5) 5 H' L' ks ∧ ks.length = 4 + 4 * i)) ⟨_, _, _, rfl, Same.refl _, ?_, _, fst4, rfl⟩ (fun i σ' H' _ z => ?_) (fun i x' σ' H' hx z => ?_) fun σ' H' z => ?_⟩
    · exact ((((s3.trans s4).trans s5).trans s6).trans s7).free n8
    · obtain ⟨L', y4, y5, rfl, sH, nL, ks, sp, len⟩ := z
      exact SqT.of (sH _ _ e11)
    · obtain ⟨L', y4, y5, rfl, sH, nL, ks, sp, len⟩ := z
      obtain ⟨t, u, v, rfl, et, u0, u1, v0, v1⟩ : ∃ t u v, x' = .ref t ∧ Sit H' t u v ∧ -5 ≤ u ∧ u ≤ 5 ∧ -5 ≤ v ∧ v ≤ 5 := by
        rcases two_at hx with rfl | rfl
        · exact ⟨_, _, _, rfl, sH _ _ f9, by decide, by decide, by decide, by decide⟩
        · exact ⟨_, _, _, rfl, sH _ _ f10, by decide, by decide, by decide, by decide⟩
      refine ⟨t, _, rfl, SqT.of et, rfl, ?_⟩
      repeat array_get_dec
      refine fun p12 H12 s12 n12 e12 => ?_
      repeat array_get_dec
      refine fun p13 H13 s13 n13 e13 => ?_
      repeat array_get_dec
      refine fun p14 H14 s14 n14 e14 => ?_
      repeat array_get_dec
      refine fun p15 H15 s15 n15 e15 => ?_
      repeat array_get_dec
      refine fun p16 H16 s16 n16 e16 => ?_
      repeat array_get_dec
      have spx := sp.same ((((s12.trans s13).trans s14).trans s15).trans s16)
      have nw4 : Spots (-5) 5 H16 p16 [p12, p13, p14, p15] := ⟨e16, fun k m => by
        simp only [List.mem_cons, List.not_mem_nil, or_false] at m
        rcases m with rfl | rfl | rfl | rfl
        · exact ⟨_, _, (s16 _ _ (s15 _ _ (s14 _ _ (s13 _ _ e12)))), by omega, by omega, by omega, by omega⟩
        · exact ⟨_, _, (s16 _ _ (s15 _ _ (s14 _ _ e13))), by omega, by omega, by omega, by omega⟩
        · exact ⟨_, _, (s16 _ _ (s15 _ _ e14)), by omega, by omega, by omega, by omega⟩
        · exact ⟨_, _, (s16 _ _ e15), by omega, by omega, by omega, by omega⟩⟩
      have hi := (List.getElem?_eq_some_iff.mp hx).1
      have hi : i < 2 := hi
      refine ⟨L', p16, _, _, rfl, rfl, spx.at_, e16, by rw [List.length_map, len]; exact Nat.le_trans (m := 64) (by show 4 + 4 * i + 4 ≤ 64; omega) (by decide), fun p17 H17 s17 n17 e17 => ?_⟩
      refine ⟨p17, _, _, rfl, sH.trans (((((s12.trans s13).trans s14).trans s15).trans s16).trans s17), ?_, _, (spx.same s17).cat (nw4.same s17) (by rw [e17]; rfl), by rw [List.length_append, len]; show 4 + 4 * i + 4 = 4 + 4 * (i + 1); omega⟩
      exact (S11.trans (sH.trans ((((s12.trans s13).trans s14).trans s15).trans s16))).free n17
    · obtain ⟨L', y4, y5, rfl, sH, nL, ks, sp, len⟩ := z
      repeat array_get_dec
      have sp : Spots (-5) 5 H' L' ks := sp
      have len : ks.length = 12 := len
      have lks : (ks.map V.ref).length = ks.length := List.length_map _
      refine ⟨⟨_, SqL.of sp.at_⟩, fun D nD => ?_⟩
      refine lc_newA (walk_list (xs := ks.map V.ref)) nD (by omega) (fun H3 s3 => SqL.of (s3 _ _ sp.at_)) (fun i => .tup [.int (x - 4 + (hv H' (ks.getD i s)).1), .int (y - 4 + (hv H' (ks.getD i s)).2)]) (fun i x' H3 H4 Kp hi s3 eD yi fin => ?_) fun H3 us s3 eD nw => ?_
      · obtain ⟨rfl, hx⟩ := yi
        obtain ⟨k, ek, rfl, mk⟩ := ref_at hx
        have zk := (sp.each k mk).hv
        have ez := s3 _ _ zk.1
        rw [getD_at ek] at fin
        refine ⟨k, _, rfl, SqT.of ez, rfl, ?_⟩
        repeat array_get_dec
        exact fun t H5 s5 n5 e5 => fin t H5 s5 n5 e5
      · have zsp := News.spots (a := -9) (b := 9) (p := fun i => (x - 4 + (hv H' (ks.getD i s)).1, y - 4 + (hv H' (ks.getD i s)).2)) nw eD fun i mi => by
          have hi : i < ks.length := by rw [List.mem_range, lks] at mi; exact mi
          have ek : ks[i]? = some ks[i] := List.getElem?_eq_getElem hi
          rw [getD_at ek]
          have zk := (sp.each ks[i] (List.getElem_mem hi)).hv
          omega
        refine q _ us _ (((B2.same S11).same sH).same s3) zsp ?_ ?_
        · rw [nw.1, List.length_range, lks, len]
        · exact st12_free st1 st2 ((S11.trans sH).free nD)
end
/-! ### places that are drawn -/
section
variable {P : Program} {w : World} {K : PySem.W.Frag} {mg : Str → Option Value} {base : Heap}
/-- new spots, the source goes on -/
theorem lc_spots {J : It} {n : Nat} {G : Hp → Prop} {Y : Nat → Hp → V → Hp → Prop} {g : TG} {te : TE} {vs : List Nat} {σ : L2.St} {H1 : Hp} {D : Addr} {Qd : Hp → Prop} {a b : Int} {s : Addr} {N c : Nat}
    (w : Walk J n G Y) (nD : H1 D = none) (few : n ≤ 100000) (hs0 : SrcB N H1 s) (Gs : ∀ H, Stp s H1 H → G H)
    (hs : ∀ i x H H' (Kp : VK), i < n → SB s (N + c * i) H1 H → Y i H x H' → (∀ t H4, Stp s H H4 → SrcB (N + c * (i + 1)) H4 s → Spot a b H4 t → Kp (.ref t) H4) → g x (wipe σ vs) H' fun σ2 H2 => wipe σ2 vs = wipe σ vs ∧ te σ2 H2 Kp)
    (hd : ∀ H' ks, SB s (N + c * n) H1 H' → Spots a b H' D ks → ks.length = n → Qd H') :
    ∃ W : Nat → Nat → Hp → Prop, (∃ m, W 0 m (upd H1 D (.lst []))) ∧ ∀ i m H, W i m H →
      (J.stop i H ∧ Qd H) ∨ (J.go i H ∧ ∃ Nx : Hp → Prop, (∀ H', Nx H' → ∃ m', m' < m ∧ W (i + 1) m' H') ∧ ∀ x H', J.yld i H x H' → g x (wipe σ vs) H' fun σ2 H2 => wipe σ2 vs = wipe σ vs ∧ tYes σ2 H2 fun b H3 =>
        if b = true then te σ2 H3 fun y H4 => ∃ acc, H4 D = some (.lst acc) ∧ acc.length < sizeLine ∧ Nx (upd H4 D (.lst (acc ++ [y]))) else Nx H3) := by
  have Ds : D ≠ s := hs0.ne nD
  refine lc_it w (tt := tYes) (fun i H => SB s (N + c * i) H1 H ∧ ∃ ks, Spots a b H D ks ∧ ks.length = i) ⟨(SB.refl hs0).same (Same.upd nD), [], ⟨upd_same, fun _ m => nomatch m⟩, rfl⟩ (fun i H _ z => Gs H z.1.st) (fun i x H H' hi z y => ?_) fun H z => ?_
  · obtain ⟨B, ks, sp, len⟩ := z
    refine hs i x H H' _ hi B y fun t H4 st4 sb4 sp4 => ?_
    have sp' := sp.stp B.sb st4
    have tD : t ≠ D := by
      obtain ⟨x, y, e, _⟩ := sp4
      rintro rfl
      have := sp'.at_
      unfold Sit at e
      rw [e] at this
      cases this
    have up : ∀ k, k ≠ D → ∀ o, H4 k = some o → (upd H4 D (.lst (ks.map V.ref ++ [.ref t]))) k = some o := fun k nk o e => by rw [upd_ne nk]; exact e
    have up2 : ∀ k, Spot a b H4 k → Spot a b (upd H4 D (.lst (ks.map V.ref ++ [.ref t]))) k := fun k z => by
      obtain ⟨x, y, e, r⟩ := z
      have nk : k ≠ D := by
        rintro rfl
        have := sp'.at_
        unfold Sit at e
        rw [e] at this
        cases this
      exact ⟨x, y, up k nk _ e, r⟩
    have B4 := B.st.trans st4
    refine ⟨_, sp'.at_, by rw [List.length_map, len]; exact Nat.lt_of_lt_of_le (show i < 100001 by omega) (by decide), ⟨⟨fun k o nk e => up k (ne_of_none e nD) o (B4.keep k o nk e), ?_⟩, ?_⟩, ks ++ [t], ⟨by rw [upd_same, List.map_append]; rfl, fun k m => ?_⟩, by rw [List.length_append, len]; rfl⟩
    · obtain ⟨x, y, z, e⟩ := B4.src
      exact ⟨x, y, z, up s (Ne.symm Ds) _ e⟩
    · obtain ⟨x, y, z, e, r⟩ := sb4
      exact ⟨x, y, z, up s (Ne.symm Ds) _ e, r⟩
    · rcases List.mem_append.mp m with m | m
      · exact up2 k (sp'.each k m)
      · rw [List.mem_singleton.mp m]
        exact up2 t sp4
  · obtain ⟨B, ks, sp, len⟩ := z
    exact hd H ks B sp len
theorem SB.mono {s : Addr} {N M : Nat} {H0 H : Hp} (h : SB s N H0 H) (le : N ≤ M) : SB s M H0 H := ⟨h.st, h.sb.up le⟩
theorem SB.free {s p : Addr} {N : Nat} {H0 H : Hp} (h : SB s N H0 H) (n : H p = none) : H0 p = none := by
  cases e : H0 p with
  | none => rfl
  | some o =>
    by_cases c : p = s
    · obtain ⟨_, _, _, z⟩ := h.st.src
      rw [c, z] at n
      cases n
    · rw [h.st.keep _ _ c e] at n
      cases n
abbrev s__law_places : Stmt := topS 26
abbrev n__law_places : List Str := ["_law_purse_here", "_law_kind_so", "_law_u", "_law_v", "_law_spot", "_law_k", "_law_turn_so"]
theorem c__law_places : FnScope n__law_places ["_law_purse_here"] (defScope s__law_places) := ⟨rfl, rfl, rfl, by decide +kernel, rfl, by decide +kernel, by decide +kernel⟩
def p__law_places : Sp := fun vs H Q _ => ∃ (s : Addr) (N : Nat), vs = [.ref s] ∧ SrcB N H s ∧ N < 2 ^ 38 ∧ ∀ p ks H', SB s (N + 50) H H' → Spots (-9) 24 H' p ks → 0 < ks.length → ks.length ≤ 20 → H p = none → Q (.ref p) H'
set_option pp.maxSteps 300 in
theorem ok__law_places  (D : Df K mg "_law_places" s__law_places ["_law_purse_here"]) (C__law_coin : Cl P w K mg base CX0 "_law_coin" 1 ["_law_purse_here", "_law_many"] (p__law_coin)) (C__law_pick : Cl P w K mg base CX0 "_law_pick" 2 ["_law_purse_here", "_law_some"] (p__law_pick)) (C__law_ring : Cl P w K mg base CX0 "_law_ring" 2 ["_law_purse_here"] (p__law_ring)) (mint : mg "int" = none) (mrange : mg "range" = none) : Cl P w K mg base CX0 "_law_places" 3 ["_law_purse_here"] (p__law_places) := by
  refine D.cl fun f fd F => F.ok c__law_places (fun vs H Q E h => ?_) (fun cdv A outer s H vs Q E hr h => ?_)
  · obtain ⟨s, N, rfl, hs, hN, q⟩ := h
    rfl
  · obtain ⟨s, N, rfl, hs, hN, q⟩ := h
    have nd := c__law_places.nd
    have hu : _ := hu_of hr
    refine ⟨_, (pss_cons (ps_set (i := 1) nd rfl (.inl rfl) (pe_cl C__law_coin (hr.mono (by decide)) (by rfl) pass0 (pa_cons (pv 0) (pa_cons pe_int pa_nil)))) (pss_cons (ps_if (pt_cmpR op_lt (pv 1) pe_int (nomark _)) (pss_one (ps_ret (pe_lc (own := [("_law_spot", 4)]) (g := (gName 4)) (tt := tYes)  rfl nd (pi_range1 (by rfl) mrange (pa_cons pe_int pa_nil)) (blkOk_by (own := [("_law_spot", 4)]) (N := n__law_places) (sc := defScope s__law_places) (by decide +kernel)) (fun _ _ _ _ _ => by exact (pg_name (i := 4) nd rfl (.inl rfl))) (fun _ _ _ _ _ => by exact pts_nil) (fun _ _ _ _ _ => by exact (pe_tupG (pa_cons (pe_op op_mod (pe_callTy call_int1 (by rfl) mint (by decide +kernel) (pa_cons (pv 4) pa_nil)) pe_int) (pa_cons (pe_op op_fdiv (pv 4) pe_int) pa_nil))))))) pss_nil) (pss_cons (ps_if (pt_cmpR op_eq (pv 1) pe_int (nomark _)) (pss_cons (ps_asg (pe_cl C__law_pick (hr.mono (by decide)) (by rfl) pass0 (pa_cons (pv 0) (pa_cons (pe_lstG (pa_cons (pe_tupG (pa_cons pe_int (pa_cons pe_int pa_nil))) (pa_cons (pe_tupG (pa_cons pe_int (pa_cons pe_int pa_nil))) (pa_cons (pe_tupG (pa_cons pe_int (pa_cons pe_int pa_nil))) (pa_cons (pe_tupG (pa_cons pe_neg (pa_cons pe_int pa_nil))) pa_nil))))) pa_nil))) (pg_tup (by rfl) (pgs_cons (pg_name (i := 2) nd rfl (.inr rfl)) (pgs_cons (pg_name (i := 3) nd rfl (.inr rfl)) pgs_nil)))) (pss_one (ps_ret (pe_lc (own := [("_law_k", 5)]) (g := (gName 5)) (tt := tYes)  rfl nd (pi_range1 (by rfl) mrange (pa_cons pe_int pa_nil)) (blkOk_by (own := [("_law_k", 5)]) (N := n__law_places) (sc := defScope s__law_places) (by decide +kernel)) (fun _ _ _ _ _ => by exact (pg_name (i := 5) nd rfl (.inl rfl))) (fun _ _ _ _ _ => by exact pts_nil) (fun _ _ _ _ _ => by exact (pe_tupG (pa_cons (pe_op op_mulW (pv 2) (pv 5)) (pa_cons (pe_op op_mulW (pv 3) (pv 5)) pa_nil)))))))) pss_nil) (pss_cons (ps_if (pt_cmpR op_eq (pv 1) pe_int (nomark _)) (pss_one (ps_ret (pe_op op_catG (pe_cl C__law_ring (hr.mono (by decide)) (by rfl) pass0 (pa_cons (pv 0) pa_nil)) (pe_lstG (pa_cons (pe_tupG (pa_cons pe_int (pa_cons pe_int pa_nil))) (pa_cons (pe_tupG (pa_cons pe_int (pa_cons pe_int pa_nil))) (pa_cons (pe_tupG (pa_cons pe_int (pa_cons pe_neg pa_nil))) pa_nil))))))) pss_nil) (pss_cons (ps_if (pt_cmpR op_eq (pv 1) pe_int (nomark _)) (pss_one (ps_ret (pe_op op_catG (pe_op op_catG (pe_lc (own := [("_law_k", 5)]) (g := (gName 5)) (tt := tYes)  rfl nd (pi_range1 (by rfl) mrange (pa_cons pe_int pa_nil)) (blkOk_by (own := [("_law_k", 5)]) (N := n__law_places) (sc := defScope s__law_places) (by decide +kernel)) (fun _ _ _ _ _ => by exact (pg_name (i := 5) nd rfl (.inl rfl))) (fun _ _ _ _ _ => by exact pts_nil) (fun _ _ _ _ _ => by exact (pe_tupG (pa_cons (pv 5) (pa_cons pe_int pa_nil))))) (pe_lc (own := [("_law_k", 5)]) (g := (gName 5)) (tt := tYes)  rfl nd (pi_range1 (by rfl) mrange (pa_cons pe_int pa_nil)) (blkOk_by (own := [("_law_k", 5)]) (N := n__law_places) (sc := defScope s__law_places) (by decide +kernel)) (fun _ _ _ _ _ => by exact (pg_name (i := 5) nd rfl (.inl rfl))) (fun _ _ _ _ _ => by exact pts_nil) (fun _ _ _ _ _ => by exact (pe_tupG (pa_cons (pv 5) (pa_cons pe_int pa_nil)))))) (pe_lstG (pa_cons (pe_tupG (pa_cons pe_int (pa_cons pe_int pa_nil))) (pa_cons (pe_tupG (pa_cons pe_int (pa_cons pe_int pa_nil))) pa_nil)))))) pss_nil) (pss_one (ps_ret (pe_lc (own := [("_law_turn_so", 6)]) (g := (gName 6)) (tt := tYes)  rfl nd (pi_range1 (by rfl) mrange (pa_cons pe_int pa_nil)) (blkOk_by (own := [("_law_turn_so", 6)]) (N := n__law_places) (sc := defScope s__law_places) (by decide +kernel)) (fun _ _ _ _ _ => by exact (pg_name (i := 6) nd rfl (.inl rfl))) (fun _ _ _ _ _ => by exact pts_nil) (fun _ _ _ _ _ => by exact (pe_tupG (pa_cons (pe_cl C__law_coin (hr.mono (by decide)) (by rfl) pass0 (pa_cons (pv 0) (pa_cons pe_int pa_nil))) (pa_cons (pe_cl C__law_coin (hr.mono (by decide)) (by rfl) pass0 (pa_cons (pv 0) (pa_cons pe_int pa_nil))) pa_nil)))))))))))), ?_⟩
    repeat array_get_dec
    refine ⟨s, 7, N, rfl, hs, by omega, by decide, by decide, fun x H1 x0 x1 st1 sb1 => ?_⟩
    have B1 := (SB.refl hs).step st1 sb1
    repeat array_get_dec
    refine w_ifd (fun c => ?_) fun c => ?_
    · repeat array_get_dec
      refine ⟨by decide, by decide, fun D nD => ?_⟩
      refine lc_newA (walk_range (lo := 0) (n := 16)) nD (by decide) (fun _ _ => trivial) (fun i => .tup [.int ((0 + (i : Nat) : Int) % 4), .int ((0 + (i : Nat) : Int) / 4)]) (fun i x' H3 H4 Kp hi s3 eD yi fin => ?_) fun H3 us s3 eD nw => ?_
      · obtain ⟨rfl, rfl⟩ := yi
        repeat array_get_dec
        refine ⟨(by decide : (0 : Int) < 4), ?_⟩
        repeat array_get_dec
        refine ⟨⟨by decide, by omega⟩, ?_⟩
        repeat array_get_dec
        exact fun t H5 s5 n5 e5 => fin t H5 s5 n5 e5
      · have zsp := News.spots (a := -9) (b := 24) (p := fun i => ((0 + (i : Nat) : Int) % 4, (0 + (i : Nat) : Int) / 4)) nw eD fun i mi => by
          have hi := List.mem_range.mp mi
          show -9 ≤ (0 + (i : Nat) : Int) % 4 ∧ (0 + (i : Nat) : Int) % 4 ≤ 24 ∧ -9 ≤ (0 + (i : Nat) : Int) / 4 ∧ (0 + (i : Nat) : Int) / 4 ≤ 24
          omega
        have ln : us.length = 16 := by rw [nw.1]; rfl
        exact q _ us _ ((B1.same s3).mono (by omega)) zsp (by omega) (by omega) (B1.free nD)
    repeat array_get_dec
    refine w_ifd (fun c => ?_) fun c => ?_
    · repeat array_get_dec
      refine fun p3 H3 s3 n3 e3 => ?_
      repeat array_get_dec
      refine fun p4 H4 s4 n4 e4 => ?_
      repeat array_get_dec
      refine fun p5 H5 s5 n5 e5 => ?_
      repeat array_get_dec
      refine fun p6 H6 s6 n6 e6 => ?_
      repeat array_get_dec
      refine fun p7 H7 s7 n7 e7 => ?_
      repeat array_get_dec
      have B7 := B1.same ((((s3.trans s4).trans s5).trans s6).trans s7)
      refine ⟨s, p7, _, N + 1, rfl, B7.sb, by omega, e7, B1.sb.ne ((((s3.trans s4).trans s5).trans s6).free n7), by simp, by simp, fun x2 H8 hx st8 sb8 => ?_⟩
      have B8 := B7.step st8 sb8
      obtain ⟨t, u, v, rfl, et, huv⟩ : ∃ t u v, x2 = .ref t ∧ Sit H7 t u v ∧ ((u = 1 ∧ v = 0) ∨ (u = 0 ∧ v = 2) ∨ (u = 2 ∧ v = 1) ∨ (u = -1 ∧ v = 3)) := by
        simp only [List.mem_cons, List.not_mem_nil, or_false] at hx
        rcases hx with rfl | rfl | rfl | rfl
        · exact ⟨_, _, _, rfl, (s7 _ _ (s6 _ _ (s5 _ _ (s4 _ _ e3)))), by decide⟩
        · exact ⟨_, _, _, rfl, (s7 _ _ (s6 _ _ (s5 _ _ e4))), by decide⟩
        · exact ⟨_, _, _, rfl, (s7 _ _ (s6 _ _ e5)), by decide⟩
        · exact ⟨_, _, _, rfl, (s7 _ _ e6), by decide⟩
      have et8 := st8.keep _ _ (Spot.ne (a := u + v - 100) (b := u + v + 100) ⟨u, v, et, by omega, by omega, by omega, by omega⟩ B7.sb) et
      refine ⟨t, _, rfl, SqT.of et8, rfl, ?_⟩
      repeat array_get_dec
      refine ⟨by decide, by decide, fun D nD => ?_⟩
      refine lc_newA (walk_range (lo := 0) (n := 9)) nD (by decide) (fun _ _ => trivial) (fun i => .tup [.int (u * (0 + (i : Nat) : Int)), .int (v * (0 + (i : Nat) : Int))]) (fun i x' H9 H4 Kp hi s9 eD yi fin => ?_) fun H9 us s9 eD nw => ?_
      · obtain ⟨rfl, rfl⟩ := yi
        repeat array_get_dec
        exact fun t H5 s5 n5 e5 => fin t H5 s5 n5 e5
      · have zsp := News.spots (a := -9) (b := 24) (p := fun i => (u * (0 + (i : Nat) : Int), v * (0 + (i : Nat) : Int))) nw eD fun i mi => by
          have hi := List.mem_range.mp mi
          show -9 ≤ u * (0 + (i : Nat) : Int) ∧ u * (0 + (i : Nat) : Int) ≤ 24 ∧ -9 ≤ v * (0 + (i : Nat) : Int) ∧ v * (0 + (i : Nat) : Int) ≤ 24
          rcases huv with ⟨rfl, rfl⟩ | ⟨rfl, rfl⟩ | ⟨rfl, rfl⟩ | ⟨rfl, rfl⟩ <;> omega
        have ln : us.length = 9 := by rw [nw.1]; rfl
        exact q _ us _ ((B8.same s9).mono (by omega)) zsp (by omega) (by omega) (B8.free nD)
    repeat array_get_dec
    refine w_ifd (fun c => ?_) fun c => ?_
    · repeat array_get_dec
      refine ⟨s, N + 1, rfl, sb1, by omega, fun p ks H2 B2 sp len np => ?_⟩
      have B2 := B1.step B2.st B2.sb
      repeat array_get_dec
      refine fun p3 H3 s3 n3 e3 => ?_
      repeat array_get_dec
      refine fun p4 H4 s4 n4 e4 => ?_
      repeat array_get_dec
      refine fun p5 H5 s5 n5 e5 => ?_
      repeat array_get_dec
      refine fun p6 H6 s6 n6 e6 => ?_
      repeat array_get_dec
      have sp6 := (sp.wide (c := -9) (d := 24) (by decide) (by decide)).same (((s3.trans s4).trans s5).trans s6)
      have nw3 : Spots (-9) 24 H6 p6 [p3, p4, p5] := ⟨e6, fun k m => by
        simp only [List.mem_cons, List.not_mem_nil, or_false] at m
        rcases m with rfl | rfl | rfl
        · exact ⟨_, _, (s6 _ _ (s5 _ _ (s4 _ _ e3))), by decide, by decide, by decide, by decide⟩
        · exact ⟨_, _, (s6 _ _ (s5 _ _ e4)), by decide, by decide, by decide, by decide⟩
        · exact ⟨_, _, (s6 _ _ e5), by decide, by decide, by decide, by decide⟩⟩
      refine ⟨p, p6, _, _, rfl, rfl, sp6.at_, e6, by rw [List.length_map, len]; exact Nat.le_trans (m := 64) (by simp) (by decide), fun p7 H7 s7 n7 e7 => ?_⟩
      have B7 := (B2.same (((s3.trans s4).trans s5).trans s6)).same s7
      exact q _ _ _ (B7.mono (by omega)) ((sp6.same s7).cat (nw3.same s7) (by rw [e7]; rfl)) (by simp) (by rw [List.length_append, len]; simp) ((B2.same (((s3.trans s4).trans s5).trans s6)).free n7)
    repeat array_get_dec
    refine w_ifd (fun c => ?_) fun c => ?_
    · repeat array_get_dec
      refine ⟨by decide, by decide, fun D nD => ?_⟩
      refine lc_newA (walk_range (lo := 0) (n := 6)) nD (by decide) (fun _ _ => trivial) (fun i => .tup [.int (0 + (i : Nat) : Int), .int 0]) (fun i x' H9 H4 Kp hi s9 eD yi fin => ?_) fun H3 us s3 eD nw => ?_
      · obtain ⟨rfl, rfl⟩ := yi
        repeat array_get_dec
        exact fun t H5 s5 n5 e5 => fin t H5 s5 n5 e5
      have zsp := News.spots (a := -9) (b := 24) (p := fun i => ((0 + (i : Nat) : Int), 0)) nw eD fun i mi => by
        have hi := List.mem_range.mp mi
        show -9 ≤ (0 + (i : Nat) : Int) ∧ (0 + (i : Nat) : Int) ≤ 24 ∧ -9 ≤ (0 : Int) ∧ (0 : Int) ≤ 24
        omega
      have ln : us.length = 6 := by rw [nw.1]; rfl
      repeat array_get_dec
      refine ⟨by decide, by decide, fun D4 nD4 => ?_⟩
      refine lc_newA (walk_range (lo := 0) (n := 6)) nD4 (by decide) (fun _ _ => trivial) (fun i => .tup [.int (0 + (i : Nat) : Int), .int 2]) (fun i x' H9 H4 Kp hi s9 eD yi fin => ?_) fun H4 us4 s4 eD4 nw4 => ?_
      · obtain ⟨rfl, rfl⟩ := yi
        repeat array_get_dec
        exact fun t H5 s5 n5 e5 => fin t H5 s5 n5 e5
      have zsp4 := News.spots (a := -9) (b := 24) (p := fun i => ((0 + (i : Nat) : Int), 2)) nw4 eD4 fun i mi => by
        have hi := List.mem_range.mp mi
        show -9 ≤ (0 + (i : Nat) : Int) ∧ (0 + (i : Nat) : Int) ≤ 24 ∧ -9 ≤ (2 : Int) ∧ (2 : Int) ≤ 24
        omega
      have ln4 : us4.length = 6 := by rw [nw4.1]; rfl
      have z4 := zsp.same s4
      refine ⟨D, D4, _, _, rfl, rfl, z4.at_, eD4, by rw [List.length_map, List.length_map, ln, ln4]; decide, fun p5 H5 s5 n5 e5 => ?_⟩
      have z5 := (z4.same s5).cat (zsp4.same s5) e5
      repeat array_get_dec
      refine fun p6 H6 s6 n6 e6 => ?_
      repeat array_get_dec
      refine fun p7 H7 s7 n7 e7 => ?_
      repeat array_get_dec
      refine fun p8 H8 s8 n8 e8 => ?_
      repeat array_get_dec
      have z8 := z5.same ((s6.trans s7).trans s8)
      have nw2 : Spots (-9) 24 H8 p8 [p6, p7] := ⟨e8, fun k m => by
        simp only [List.mem_cons, List.not_mem_nil, or_false] at m
        rcases m with rfl | rfl
        · exact ⟨_, _, (s8 _ _ (s7 _ _ e6)), by decide, by decide, by decide, by decide⟩
        · exact ⟨_, _, (s8 _ _ e7), by decide, by decide, by decide, by decide⟩⟩
      refine ⟨p5, p8, _, _, rfl, rfl, z8.at_, e8, by rw [List.length_map, List.length_append, ln, ln4]; exact Nat.le_trans (m := 64) (by simp) (by decide), fun p9 H9 s9 n9 e9 => ?_⟩
      have S8 := ((s3.trans s4).trans s5).trans ((s6.trans s7).trans s8)
      exact q _ _ _ (((B1.same S8).same s9).mono (by omega)) ((z8.same s9).cat (nw2.same s9) (by rw [e9]; rfl)) (by rw [List.length_append]; exact Nat.add_pos_right _ (by simp)) (by rw [List.length_append, List.length_append, ln, ln4]; simp) ((B1.same S8).free n9)
    repeat array_get_dec
    refine ⟨by decide, by decide, fun D nD => ?_⟩
    refine lc_spots (a := -9) (b := 24) (c := 2) (walk_range (lo := 0) (n := 20)) nD (by decide) sb1 (fun _ _ => trivial) (fun i x' H3 H4 Kp hi B3 yi fin => ?_) fun H3 us B3 sp len => ?_
    · obtain ⟨rfl, rfl⟩ := yi
      repeat array_get_dec
      refine ⟨s, 12, _, rfl, B3.sb, by omega, by decide, by decide, fun x2 H5 x20 x21 st5 sb5 => ?_⟩
      repeat array_get_dec
      refine ⟨s, 12, _, rfl, sb5, by omega, by decide, by decide, fun y2 H6 y20 y21 st6 sb6 => ?_⟩
      repeat array_get_dec
      refine fun t H7 s7 n7 e7 => fin t H7 ((st5.trans st6).same s7) ((sb6.up (by omega)).same s7) ⟨_, _, e7, by omega, by omega, by omega, by omega⟩
    · exact q _ us _ ((B1.step B3.st B3.sb).mono (by omega)) sp (by omega) (by omega) (B1.free nD)
end
/-! ### sites that are drawn -/
section
variable {P : Program} {w : World} {K : PySem.W.Frag} {mg : Str → Option Value} {base : Heap}
/-! lists of sites, by value -/
def dS (p : Int × Int) : PyData := .tuple [.int p.1, .int p.2]
theorem dS_eqv (p q : Int × Int) : PyData.eqv (dS p) (dS q) = decide (p = q) := by
  unfold dS
  rw [eqv_sit, Bool.eq_iff_iff, decide_eq_true_eq, decide_eq_true_eq]
  exact ⟨fun h => Prod.ext h.1 h.2, fun h => by rw [h]; exact ⟨rfl, rfl⟩⟩
theorem dS_all (ps : List (Int × Int)) : PyData.canLayAll0 (ps.map dS) = true ∧ PyData.depthAll (ps.map dS) ≤ 10 := by
  induction ps with
  | nil => exact ⟨rfl, Nat.zero_le _⟩
  | cons p ps ih =>
    obtain ⟨h1, h2⟩ := ih
    refine ⟨?_, ?_⟩
    · rw [List.map_cons]
      show (PyData.canLay0 (dS p) && _) = true
      rw [h1]
      simp [dS, PyData.canLay0, PyData.canLayAll0]
    · simp only [List.map_cons, PyData.depthAll]
      have : (dS p).depth ≤ 10 := by simp [dS, PyData.depth, PyData.depthAll]
      omega
theorem dS_shaped (ps : List (Int × Int)) : SeqAt.shaped (.list (ps.map dS)) = true := by
  obtain ⟨h1, h2⟩ := dS_all ps
  unfold SeqAt.shaped
  rw [Bool.and_eq_true]
  refine ⟨by simp [PyData.canLay0, h1], decide_eq_true ?_⟩
  simp only [PyData.depth]
  omega
theorem u65 {k : Nat} {A : Around} (r : Room k A) : A.units + 65 < cLine := by
  have := r.un
  omega
theorem dS_shaped1 (p : Int × Int) : SeqAt.shaped (dS p) = true := rfl
theorem dS_eqvA : ∀ ps qs : List (Int × Int), PyData.eqvAll (ps.map dS) (qs.map dS) = decide (ps = qs)
  | [], [] => rfl
  | [], _ :: _ => rfl
  | _ :: _, [] => rfl
  | p :: ps, q :: qs => by
    rw [List.map_cons, List.map_cons, PyData.eqvAll, dS_eqv, dS_eqvA ps qs]
    by_cases h : p = q <;> by_cases k : ps = qs <;> simp [h, k]
theorem dS_eqvL (ps qs : List (Int × Int)) : PyData.eqv (.list (ps.map dS)) (.list (qs.map dS)) = decide (ps = qs) := by
  rw [← dS_eqvA]
  simp only [PyData.eqv]
theorem dS_any (p : Int × Int) (qs : List (Int × Int)) : ((qs.map dS).any fun z => PyData.eqv z (dS p)) = decide (p ∈ qs) := by
  induction qs with
  | nil => rfl
  | cons q qs ih =>
    rw [List.map_cons, List.any_cons, ih, dS_eqv]
    by_cases h : q = p
    · simp [h]
    · have h2 : ¬ p = q := fun e => h e.symm
      by_cases k : p ∈ qs <;> simp [h, h2, k]
theorem dpS {H : Hp} {t : Addr} {p : Int × Int} (h : Sit H t p.1 p.2) : Dp K H (.ref t) (dS p) := dpSit h
theorem dpS_all {H : Hp} {f : Addr → Int × Int} : ∀ {ts : List Addr}, (∀ t ∈ ts, Sit H t (f t).1 (f t).2) → DpAll K H (ts.map V.ref) ((ts.map f).map dS)
  | [], _ => .nil
  | t :: ts, h => .cons (dpS (h t List.mem_cons_self)) (dpS_all fun u m => h u (List.mem_cons_of_mem _ m))
theorem dpS_list {H : Hp} {a : Addr} {f : Addr → Int × Int} {ts : List Addr} (e : H a = some (.lst (ts.map V.ref))) (h : ∀ t ∈ ts, Sit H t (f t).1 (f t).2) : Dp K H (.ref a) (.list ((ts.map f).map dS)) := .lst (SqL.of e) (dpS_all h)
section
variable {H : Hp} {Q : VK} {a b t : Addr} {f g : Addr → Int × Int} {ts us : List Addr} {p q : Int × Int}
theorem w_inS (hp : Sit H t p.1 p.2) (e : H a = some (.lst (ts.map V.ref))) (h : ∀ t ∈ ts, Sit H t (f t).1 (f t).2) (z : Q (.bl (decide (p ∈ ts.map f))) H) : rInD K (.ref t) (.ref a) H Q := ⟨_, _, dpS hp, dpS_list e h, dS_shaped1 _, dS_shaped _, by rw [dS_any]; exact z⟩
theorem w_ninS (hp : Sit H t p.1 p.2) (e : H a = some (.lst (ts.map V.ref))) (h : ∀ t ∈ ts, Sit H t (f t).1 (f t).2) (z : Q (.bl (!decide (p ∈ ts.map f))) H) : rNotInD K (.ref t) (.ref a) H Q := ⟨_, _, dpS hp, dpS_list e h, dS_shaped1 _, dS_shaped _, by rw [dS_any]; exact z⟩
theorem w_eqS (hp : Sit H a p.1 p.2) (hq : Sit H b q.1 q.2) (z : Q (.bl (decide (p = q))) H) : rEqD K (.ref a) (.ref b) H Q := ⟨_, _, dpS hp, dpS hq, dS_shaped1 _, dS_shaped1 _, by rw [dS_eqv]; exact z⟩
theorem w_neS (hp : Sit H a p.1 p.2) (hq : Sit H b q.1 q.2) (z : Q (.bl (!decide (p = q))) H) : rNeD K (.ref a) (.ref b) H Q := ⟨_, _, dpS hp, dpS hq, dS_shaped1 _, dS_shaped1 _, by rw [dS_eqv]; exact z⟩
theorem w_eqSs (e : H a = some (.lst (ts.map V.ref))) (h : ∀ t ∈ ts, Sit H t (f t).1 (f t).2) (e2 : H b = some (.lst (us.map V.ref))) (h2 : ∀ t ∈ us, Sit H t (g t).1 (g t).2) (z : Q (.bl (decide (ts.map f = us.map g))) H) : rEqD K (.ref a) (.ref b) H Q := ⟨_, _, dpS_list e h, dpS_list e2 h2, dS_shaped _, dS_shaped _, by rw [dS_eqvL]; exact z⟩
theorem w_neSs (e : H a = some (.lst (ts.map V.ref))) (h : ∀ t ∈ ts, Sit H t (f t).1 (f t).2) (e2 : H b = some (.lst (us.map V.ref))) (h2 : ∀ t ∈ us, Sit H t (g t).1 (g t).2) (z : Q (.bl (!decide (ts.map f = us.map g))) H) : rNeD K (.ref a) (.ref b) H Q := ⟨_, _, dpS_list e h, dpS_list e2 h2, dS_shaped _, dS_shaped _, by rw [dS_eqvL]; exact z⟩
end
abbrev s__law_sites : Stmt := topS 27
abbrev n__law_sites : List Str := ["_law_purse_here", "_law_least_so", "_law_most_so", "_law_some", "_law_found", "_law_size", "_law_turn_so", "_law_spot", "_law_by", "_law_u", "_law_v", "_law_x", "_law_y"]
theorem c__law_sites : FnScope n__law_sites ["_law_purse_here", "_law_least_so", "_law_most_so"] (defScope s__law_sites) := ⟨rfl, rfl, rfl, by decide +kernel, rfl, by decide +kernel, by decide +kernel⟩
theorem spots_vals {a b : Int} {H H' : Hp} {p s : Addr} {ks : List Addr} {N : Nat} (h : Spots a b H p ks) (hs : SrcB N H s) (st : Stp s H H') : ks.map (hv H') = ks.map (hv H) :=
  List.map_congr_left fun t mt => hv_of (st.keep _ _ ((h.each t mt).ne hs) (h.each t mt).hv.1)
theorem nodup_map {α β : Type} {l : List α} {f : α → β} (n : l.Nodup) (h : ∀ a b, f a = f b → a = b) : (l.map f).Nodup :=
  List.pairwise_map.mpr (List.Pairwise.imp (fun ne e => ne (h _ _ e)) n)
/-- drawn sites: a list of its own, each tuple's value told by hv -/
def p__law_sites : Sp := fun vs H Q _ => ∃ (s : Addr) (l m : Int) (N : Nat), vs = [.ref s, .int l, .int m] ∧ SrcB N H s ∧ N < 2 ^ 38 ∧ 1 ≤ l ∧ l ≤ m ∧ m ≤ 40 ∧ ∀ p ks H', SB s (N + 300) H H' → Lot (hv H') H' p ks → (ks.length : Int) ≤ m → H p = none → Q (.ref p) H'
set_option pp.maxSteps 300 in
theorem ok__law_sites  (D : Df K mg "_law_sites" s__law_sites ["_law_purse_here", "_law_least_so", "_law_most_so"]) (C__law_coin : Cl P w K mg base CX0 "_law_coin" 1 ["_law_purse_here", "_law_many"] (p__law_coin)) (C__law_pick : Cl P w K mg base CX0 "_law_pick" 2 ["_law_purse_here", "_law_some"] (p__law_pick)) (C__law_places : Cl P w K mg base CX0 "_law_places" 3 ["_law_purse_here"] (p__law_places)) (mlen : mg "len" = none) (mrange : mg "range" = none) : Cl P w K mg base CX0 "_law_sites" 4 ["_law_purse_here", "_law_least_so", "_law_most_so"] (p__law_sites) := by
  refine D.cl fun f fd F => F.ok c__law_sites (fun vs H Q E h => ?_) (fun cdv A outer s H vs Q E hr h => ?_)
  · obtain ⟨s, l, m, N, rfl, hs, hN, hl1, hlm, hm, q⟩ := h
    rfl
  · obtain ⟨s, l, m, N, rfl, hs, hN, hl1, hlm, hm, q⟩ := h
    have nd := c__law_sites.nd
    have hu : _ := hu_of hr
    refine ⟨_, (pss_cons (ps_par (i := 3) (j := 4) (by rfl) nd rfl rfl (by decide) rfl rfl (pa_cons (pe_cl C__law_places (hr.mono (by decide)) (by rfl) pass0 (pa_cons (pv 0) pa_nil)) (pa_cons (pe_lstG pa_nil) pa_nil)) (by rfl)) (pss_cons (ps_set (i := 5) nd rfl (.inl rfl) (pe_op op_add (pv 1) (pe_cl C__law_coin (hr.mono (by decide)) (by rfl) pass0 (pa_cons (pv 0) (pa_cons (pe_op op_add (pe_op op_sub (pv 2) (pv 1)) pe_int) pa_nil))))) (pss_cons (ps_for PassesOwn.never rfl (pi_range1 (by rfl) mrange (pa_cons (pe_op op_mulW pe_int (pv 5)) pa_nil)) (pg_name (i := 6) nd rfl (.inl rfl)) (pss_cons (ps_set (i := 7) nd rfl (.inl rfl) (pe_ix ix_list (pv 3) (pe_cl C__law_coin (hr.mono (by decide)) (by rfl) pass0 (pa_cons (pv 0) (pa_cons (pe_callB call_len_seq (by rfl) mlen (by decide +kernel) (pa_cons (pv 3) pa_nil)) pa_nil))) (fun _ _ => rfl))) (pss_one (ps_if (PW.pt (pw_and (pt_cmpR (op_notInD (u65 hr)) (pv 7) (pv 4) rfl) (pw_and1 (pt_cmpR op_lt (pe_callB call_len_seq (by rfl) mlen (by decide +kernel) (pa_cons (pv 4) pa_nil)) (pv 5) (nomark _))))) (pss_one (ps_expr (pe_bm PySem.F.plainAttrs_list PySem.F.slot_list_append PySem.F.type_list_append mt_append (pv 4) (pa_cons (pv 7) pa_nil)))) pss_nil)))) (pss_cons (ps_asg (pe_tupG (pa_cons (pe_cl C__law_pick (hr.mono (by decide)) (by rfl) pass0 (pa_cons (pv 0) (pa_cons (pe_lstG (pa_cons pe_int (pa_cons pe_int (pa_cons pe_int (pa_cons pe_int (pa_cons pe_int pa_nil)))))) pa_nil))) (pa_cons (pe_cl C__law_pick (hr.mono (by decide)) (by rfl) pass0 (pa_cons (pv 0) (pa_cons (pe_lstG (pa_cons (pe_tupG (pa_cons pe_int (pa_cons pe_int pa_nil))) (pa_cons (pe_tupG (pa_cons pe_int (pa_cons pe_int pa_nil))) (pa_cons (pe_tupG (pa_cons pe_neg (pa_cons pe_int pa_nil))) (pa_cons (pe_tupG (pa_cons pe_int (pa_cons pe_int pa_nil))) pa_nil))))) pa_nil))) pa_nil))) (pg_tup (by rfl) (pgs_cons (pg_name (i := 8) nd rfl (.inr rfl)) (pgs_cons (pg_tup (by rfl) (pgs_cons (pg_name (i := 9) nd rfl (.inr rfl)) (pgs_cons (pg_name (i := 10) nd rfl (.inr rfl)) pgs_nil))) pgs_nil)))) (C8.pss_cut (ps_if (pt_cmpR op_eq (pe_cl C__law_coin (hr.mono (by decide)) (by rfl) pass0 (pa_cons (pv 0) (pa_cons pe_int pa_nil))) pe_int (nomark _)) (pss_one (ps_setLc (i := 4) (own := [("_law_x", 11), ("_law_y", 12)]) (g := (gTup K 2 (gCons (gName 11) (gCons (gName 12) gNil)))) (tt := tYes)  rfl nd rfl rfl (sw_true rfl rfl rfl (by decide +kernel)) (pi_list (pv 4)) (blkOk_by (own := [("_law_x", 11), ("_law_y", 12)]) (N := n__law_sites) (sc := defScope s__law_sites) (by decide +kernel)) (fun _ _ _ _ _ => by exact (pg_tup (by rfl) (pgs_cons (pg_name (i := 11) nd rfl (.inl rfl)) (pgs_cons (pg_name (i := 12) nd rfl (.inl rfl)) pgs_nil)))) (fun _ _ _ _ _ => by exact pts_nil) (fun _ _ _ _ _ => by exact (pe_tupG (pa_cons (pv 12) (pa_cons (pv 11) pa_nil)))))) pss_nil) (pss_one (ps_ret (pe_lc (own := [("_law_x", 11), ("_law_y", 12)]) (g := (gTup K 2 (gCons (gName 11) (gCons (gName 12) gNil)))) (tt := tYes)  rfl nd (pi_list (pv 4)) (blkOk_by (own := [("_law_x", 11), ("_law_y", 12)]) (N := n__law_sites) (sc := defScope s__law_sites) (by decide +kernel)) (fun _ _ _ _ _ => by exact (pg_tup (by rfl) (pgs_cons (pg_name (i := 11) nd rfl (.inl rfl)) (pgs_cons (pg_name (i := 12) nd rfl (.inl rfl)) pgs_nil)))) (fun _ _ _ _ _ => by exact pts_nil) (fun _ _ _ _ _ => by exact (pe_tupG (pa_cons (pe_op op_add (pe_op op_mulW (pv 8) (pv 11)) (pv 9)) (pa_cons (pe_op op_add (pe_op op_mulW (pv 8) (pv 12)) (pv 10)) pa_nil)))))))))))), ?_⟩
    repeat array_get_dec
    refine ⟨s, N, rfl, hs, by omega, fun ps ks H1 B1 sp k0 k20 nps => ?_⟩
    repeat array_get_dec
    refine fun pf H2 s2 n2 e2 => ?_
    have B2 := B1.same s2
    have sp2 := sp.same s2
    repeat array_get_dec
    refine ⟨s, m - l + 1, N + 50, rfl, B2.sb, by omega, by omega, i_small (by omega), fun c H3 c0 c1 st3 sb3 => ?_⟩
    have B3 := B2.step st3 sb3
    have sp3 := sp2.stp B2.sb st3
    have pfs : pf ≠ s := B1.sb.ne n2
    have ef3 := st3.keep _ _ pfs e2
    have lks : (ks.map V.ref).length = ks.length := List.length_map _
    repeat array_get_dec
    refine ⟨by omega, by omega, for_range (lo := 0) (n := (3 * (l + c)).toNat) (fun i σ' H' => (∃ y6 y7 y8 y9 y10 y11 y12, σ' = [some (.ref s), some (.int l), some (.int m), some (.ref ps), some (.ref pf), some (.int (l + c)), y6, y7, y8, y9, y10, y11, y12]) ∧ SB s (N + 51 + i) H1 H' ∧ ∃ fs : List Addr, H' pf = some (.lst (fs.map V.ref)) ∧ (∀ t ∈ fs, t ∈ ks) ∧ (fs.map (hv H1)).Nodup ∧ (fs.length : Int) ≤ l + c ∧ (0 < i → 0 < fs.length)) ⟨⟨_, _, _, _, _, _, _, rfl⟩, (SB.refl B1.sb).same s2 |>.step st3 (sb3.up (by omega)), [], ef3, fun _ h => (nomatch h), List.nodup_nil, by show (0 : Int) ≤ _; omega, fun h => absurd h (by decide)⟩ (fun i σ' H' hi z => ?_) fun σ' H' z => ?_⟩
    · obtain ⟨⟨y6, y7, y8, y9, y10, y11, y12, rfl⟩, B, fs, eF, sub, nod, lF, pos⟩ := z
      have spx := sp.stp B1.sb B.st
      have hi : i < 120 := by omega
      repeat array_get_dec
      refine ⟨ps, _, rfl, .inl (SqL.of spx.at_), ?_⟩
      repeat array_get_dec
      rw [lks]
      refine ⟨s, _, N + 51 + i, rfl, B.sb, by omega, by omega, i_small (by omega), fun r H5 r0 r1 st5 sb5 => ?_⟩
      obtain ⟨j, rfl⟩ := Int.eq_ofNat_of_zero_le r0
      have hj : j < ks.length := by omega
      have ek : ks[j]? = some ks[j] := List.getElem?_eq_getElem hj
      have mk : ks[j] ∈ ks := List.getElem_mem hj
      generalize ks[j] = k at ek mk
      have B5 := B.step st5 sb5
      have sp5 := sp.stp B1.sb B5.st
      have eF5 := st5.keep _ _ (refs_ne eF B.sb) eF
      refine ⟨ps, _, (j : Nat), _, rfl, rfl, SqL.of sp5.at_, atI_nat (by rw [List.getElem?_map, ek]; rfl), ?_⟩
      have val : ∀ t ∈ ks, Sit H5 t (hv H1 t).1 (hv H1 t).2 := fun t mt => B5.st.keep _ _ ((sp.each t mt).ne B1.sb) (sp.each t mt).hv.1
      repeat array_get_dec
      refine w_ninS (p := hv H1 k) (val k mk) eF5 (fun t mt => val t (sub t mt)) ?_
      have lfs : (fs.map V.ref).length = fs.length := List.length_map _
      have stay : ∀ (σ6 : L2.St), (0 < fs.length) → (∃ y6 y7 y8 y9 y10 y11 y12, σ6 = [some (.ref s), some (.int l), some (.int m), some (.ref ps), some (.ref pf), some (.int (l + c)), y6, y7, y8, y9, y10, y11, y12]) → (∃ y6 y7 y8 y9 y10 y11 y12, σ6 = [some (.ref s), some (.int l), some (.int m), some (.ref ps), some (.ref pf), some (.int (l + c)), y6, y7, y8, y9, y10, y11, y12]) ∧ SB s (N + 51 + (i + 1)) H1 H5 ∧ ∃ fs : List Addr, H5 pf = some (.lst (fs.map V.ref)) ∧ (∀ t ∈ fs, t ∈ ks) ∧ (fs.map (hv H1)).Nodup ∧ (fs.length : Int) ≤ l + c ∧ (0 < i + 1 → 0 < fs.length) := fun σ6 p0 h => ⟨h, B5.mono (by omega), fs, eF5, sub, nod, lF, fun _ => p0⟩
      refine ⟨_, rfl, ?_⟩
      by_cases inn : hv H1 k ∈ fs.map (hv H1)
      · refine w_ntt inn ?_
        refine stay _ ?_ ⟨_, _, _, _, _, _, _, rfl⟩
        cases fs with
        | nil => cases inn
        | cons _ _ => simp
      refine w_ntf inn ?_
      repeat array_get_dec
      rw [lfs]
      refine w_ifd (fun d => ?_) fun d => ?_
      · refine ⟨_, rfl, .inl ⟨rfl, _, SqL.of eF5⟩, _, rfl, pf, _, .ref k, rfl, rfl, eF5, by rw [lfs]; exact Nat.lt_of_lt_of_le (show fs.length < 64 by omega) (by decide), ?_⟩
        have hup : ∀ b o, b ≠ pf → H5 b = some o → (upd H5 pf (.lst (fs.map V.ref ++ [.ref k]))) b = some o := fun b o nb e => by rw [upd_ne nb]; exact e
        refine ⟨⟨_, _, _, _, _, _, _, rfl⟩, ⟨⟨fun b o nb e => hup b o (ne_of_none e n2) (B5.st.keep b o nb e), ?_⟩, ?_⟩, fs ++ [k], ?_, ?_, ?_, ?_, ?_⟩
        · obtain ⟨x, y, z, e⟩ := B5.st.src
          exact ⟨x, y, z, hup s _ (Ne.symm pfs) e⟩
        · obtain ⟨x, y, z, e, r1, r2⟩ := B5.sb
          exact ⟨x, y, z, hup s _ (Ne.symm pfs) e, r1, by omega⟩
        · rw [upd_same, List.map_append]
          rfl
        · intro t mt
          rcases List.mem_append.mp mt with mt | mt
          · exact sub t mt
          · rw [List.mem_singleton.mp mt]
            exact mk
        · rw [List.map_append]
          refine List.nodup_append.mpr ⟨nod, by simp, ?_⟩
          intro a ha b hb e
          simp only [List.map_cons, List.map_nil, List.mem_singleton] at hb
          rw [e, hb] at ha
          exact inn ha
        · rw [List.length_append]
          show ((fs.length + 1 : Nat) : Int) ≤ l + c
          omega
        · intro _
          simp
      · exact stay _ (by omega) ⟨_, _, _, _, _, _, _, rfl⟩
    · obtain ⟨⟨y6, y7, y8, y9, y10, y11, y12, rfl⟩, B, fs, eF, sub, nod, lF, pos⟩ := z
      have pos := pos (by omega)
      have spF : Spots (-9) 24 H' pf fs := ⟨eF, fun t mt => (sp.stp B1.sb B.st).each t (sub t mt)⟩
      have nodF : (fs.map (hv H')).Nodup := by
        rw [show fs.map (hv H') = fs.map (hv H1) from List.map_congr_left fun t mt => hv_of (B.st.keep _ _ ((sp.each t (sub t mt)).ne B1.sb) (sp.each t (sub t mt)).hv.1)]
        exact nod
      replace B := B1.step B.st (B.sb.up (show N + 51 + (3 * (l + c)).toNat ≤ N + 180 by omega))
      clear nod
      show tSeq _ _ _ _ _
      repeat array_get_dec
      refine fun p6 H6 s6 n6 e6 => ?_
      have B6 := (SB.refl B.sb).same s6
      refine ⟨s, p6, _, N + 180, rfl, B6.sb, by omega, e6, B.sb.ne n6, by simp, by simp, fun x7 H7 hx7 st7 sb7 => ?_⟩
      have B7 := B6.step st7 sb7
      obtain ⟨by', rfl, hby⟩ : ∃ b : Int, x7 = .int b ∧ (b = 1 ∨ b = 7 ∨ b = 20000) := by
        simp only [List.mem_cons, List.not_mem_nil, or_false] at hx7
        rcases hx7 with rfl | rfl | rfl | rfl | rfl <;> exact ⟨_, rfl, by decide⟩
      repeat array_get_dec
      refine fun p8 H8 s8 n8 e8 => ?_
      repeat array_get_dec
      refine fun p9 H9 s9 n9 e9 => ?_
      repeat array_get_dec
      refine fun p10 H10 s10 n10 e10 => ?_
      repeat array_get_dec
      refine fun p11 H11 s11 n11 e11 => ?_
      repeat array_get_dec
      refine fun p12 H12 s12 n12 e12 => ?_
      repeat array_get_dec
      have B12 := B7.same ((((s8.trans s9).trans s10).trans s11).trans s12)
      refine ⟨s, p12, _, N + 181, rfl, B12.sb, by omega, e12, B7.sb.ne ((((s8.trans s9).trans s10).trans s11).free n12), by simp, by simp, fun x13 H13 hx st13 sb13 => ?_⟩
      have B13 := B12.step st13 sb13
      obtain ⟨t, u, v, rfl, et, huv⟩ : ∃ t u v, x13 = .ref t ∧ Sit H12 t u v ∧ ((u = 0 ∧ v = 0) ∨ (u = -600000 ∧ v = 7) ∨ (u = 31 ∧ v = 500000)) := by
        simp only [List.mem_cons, List.not_mem_nil, or_false] at hx
        rcases hx with rfl | rfl | rfl | rfl
        · exact ⟨_, _, _, rfl, (s12 _ _ (s11 _ _ (s10 _ _ (s9 _ _ e8)))), by decide⟩
        · exact ⟨_, _, _, rfl, (s12 _ _ (s11 _ _ (s10 _ _ e9))), by decide⟩
        · exact ⟨_, _, _, rfl, (s12 _ _ (s11 _ _ e10)), by decide⟩
        · exact ⟨_, _, _, rfl, (s12 _ _ e11), by decide⟩
      have et13 := st13.keep _ _ (Spot.ne (a := u + v - 1000000) (b := u + v + 1000000) ⟨u, v, et, by omega, by omega, by omega, by omega⟩ B12.sb) et
      repeat array_get_dec
      refine fun p14 H14 s14 n14 e14 => ?_
      have et14 : H14 t = some (.tup [V.int u, V.int v]) := s14 _ _ et13
      refine ⟨p14, _, rfl, SqT.of e14, rfl, ?_⟩
      repeat array_get_dec
      have B14 := B13.same s14
      have spF14 := spF.stp B.sb B14.st
      have nod14 : (fs.map (hv H14)).Nodup := by rw [spots_vals spF B.sb B14.st]; exact nodF
      have lfs : (fs.map V.ref).length = fs.length := List.length_map _
      refine ⟨fun σ1 Hd => ∃ y6 y7 y11 y12 pg gs, σ1 = [some (.ref s), some (.int l), some (.int m), some (.ref ps), some (.ref pg), some (.int (l + c)), y6, y7, some (.int by'), some (.int u), some (.int v), y11, y12] ∧ SB s (N + 200) H' Hd ∧ Spots (-9) 24 Hd pg gs ∧ (gs.map (hv Hd)).Nodup ∧ gs.length = fs.length, ?_, ?_⟩
      · repeat array_get_dec
        refine ⟨s, 2, _, rfl, B14.sb, by omega, by decide, by decide, fun r H15 r0 r1 st15 sb15 => ?_⟩
        have B15 := B14.step st15 sb15
        have spF15 := spF.stp B.sb B15.st
        have nod15 : (fs.map (hv H15)).Nodup := by rw [spots_vals spF B.sb B15.st]; exact nodF
        repeat array_get_dec
        refine w_ifd (fun d => ?_) fun d => ?_
        · repeat array_get_dec
          refine ⟨⟨_, SqL.of spF15.at_⟩, fun D nD => ?_⟩
          refine lc_newA (walk_list (xs := fs.map V.ref)) nD (by omega) (fun H3 s3 => SqL.of (s3 _ _ spF15.at_)) (fun i => .tup [.int (hv H15 (fs.getD i s)).2, .int (hv H15 (fs.getD i s)).1]) (fun i x' H3 H4 Kp hi s3 eD yi fin => ?_) fun H3 us s3 eD nw => ?_
          · obtain ⟨rfl, hx⟩ := yi
            obtain ⟨k, ek, rfl, mk⟩ := ref_at hx
            have zk := (spF15.each k mk).hv
            have ez := s3 _ _ zk.1
            rw [getD_at ek] at fin
            refine ⟨k, _, rfl, SqT.of ez, rfl, ?_⟩
            repeat array_get_dec
            exact fun t H5 s5 n5 e5 => fin t H5 s5 n5 e5
          · rw [lfs] at nw
            have zsp := News.spots (a := -9) (b := 24) (p := fun i => ((hv H15 (fs.getD i s)).2, (hv H15 (fs.getD i s)).1)) nw eD fun i mi => by
              have hi : i < fs.length := List.mem_range.mp mi
              have ek : fs[i]? = some fs[i] := List.getElem?_eq_getElem hi
              rw [getD_at ek]
              have zk := (spF15.each fs[i] (List.getElem_mem hi)).hv
              omega
            have vals : us.map (hv H3) = (fs.map (hv H15)).map fun q => (q.2, q.1) := by
              rw [News.map (p := fun i => ((hv H15 (fs.getD i s)).2, (hv H15 (fs.getD i s)).1)) nw, List.map_map]
              conv => rhs; rw [← range_getD fs s]
              rw [List.map_map]
              rfl
            refine ⟨_, _, _, _, D, us, rfl, (B15.same s3).mono (by omega), zsp, ?_, by rw [nw.1, List.length_range]⟩
            rw [vals]
            exact nodup_map nod15 fun a b h => Prod.ext (Prod.mk.inj h).2 (Prod.mk.inj h).1
        · exact ⟨_, _, _, _, pf, fs, rfl, B15.mono (by omega), spF15, nod15, rfl⟩
      rintro σ1 Hd ⟨y6, y7, y11, y12, pg, gs, rfl, Bd', spG, nodG, lG⟩
      have lgs : (gs.map V.ref).length = gs.length := List.length_map _
      have hb1 : 1 ≤ by' := by rcases hby with rfl | rfl | rfl <;> decide
      have bby : by'.natAbs < 2 ^ 21 := by rcases hby with rfl | rfl | rfl <;> decide
      repeat array_get_dec
      refine ⟨⟨_, SqL.of spG.at_⟩, fun D nD => ?_⟩
      refine lc_newA (walk_list (xs := gs.map V.ref)) nD (by omega) (fun H3 s3 => SqL.of (s3 _ _ spG.at_)) (fun i => .tup [.int (by' * (hv Hd (gs.getD i s)).1 + u), .int (by' * (hv Hd (gs.getD i s)).2 + v)]) (fun i x' H3 H4 Kp hi s3 eD yi fin => ?_) fun H3 us s3 eD nw => ?_
      · obtain ⟨rfl, hx⟩ := yi
        obtain ⟨k, ek, rfl, mk⟩ := ref_at hx
        have zk := (spG.each k mk).hv
        have ez := s3 _ _ zk.1
        obtain ⟨_, g1, g2, g3, g4⟩ := zk
        rw [getD_at ek] at fin
        refine ⟨k, _, rfl, SqT.of ez, rfl, ?_⟩
        repeat array_get_dec
        exact fun t H5 s5 n5 e5 => fin t H5 s5 n5 e5
      · rw [lgs] at nw
        have bnd : ∀ x : Int, -9 ≤ x → x ≤ 24 → by' * x + u ≤ 1000000 ∧ -1000000 ≤ by' * x + u ∧ by' * x + v ≤ 1000000 ∧ -1000000 ≤ by' * x + v := fun x h1 h2 => by
          rcases hby with rfl | rfl | rfl <;> rcases huv with ⟨rfl, rfl⟩ | ⟨rfl, rfl⟩ | ⟨rfl, rfl⟩ <;> omega
        have vals : us.map (hv H3) = (gs.map (hv Hd)).map fun q => (by' * q.1 + u, by' * q.2 + v) := by
          rw [News.map (p := fun i => (by' * (hv Hd (gs.getD i s)).1 + u, by' * (hv Hd (gs.getD i s)).2 + v)) nw, List.map_map]
          conv => rhs; rw [← range_getD gs s]
          rw [List.map_map]
          rfl
        have lus : us.length = gs.length := by rw [nw.1, List.length_range]
        have hBd : SB s (N + 200) H Hd := B.step Bd'.st Bd'.sb
        refine q D us H3 ((hBd.same s3).mono (by omega)) ⟨eD, by omega, by omega, fun k mk => ?_, ?_⟩ (by omega) (hBd.free nD)
        · obtain ⟨_, e1, i, mi, e2⟩ := News.at_ (p := fun i => (by' * (hv Hd (gs.getD i s)).1 + u, by' * (hv Hd (gs.getD i s)).2 + v)) nw k mk
          have hi : i < gs.length := List.mem_range.mp mi
          have ek : gs[i]? = some gs[i] := List.getElem?_eq_getElem hi
          rw [getD_at ek] at e2
          have zk := (spG.each gs[i] (List.getElem_mem hi)).hv
          have b1 := bnd _ zk.2.1 zk.2.2.1
          have b2 := bnd _ zk.2.2.2.1 zk.2.2.2.2
          refine ⟨e1, ?_⟩
          rw [e2]
          exact ⟨b1.2.1, b1.1, b2.2.2.2, b2.2.2.1⟩
        · rw [vals]
          refine nodup_map nodG fun a b h => ?_
          have h1 : by' * a.1 + u = by' * b.1 + u := (Prod.mk.inj h).1
          have h2 : by' * a.2 + v = by' * b.2 + v := (Prod.mk.inj h).2
          exact Prod.ext (Int.eq_of_mul_eq_mul_left (by omega) (show by' * a.1 = by' * b.1 by omega)) (Int.eq_of_mul_eq_mul_left (by omega) (show by' * a.2 = by' * b.2 by omega))
end
/-! ### k07: sites, ends, border -/
section
variable {P : Program} {w : World} {K : PySem.W.Frag} {mg : Str → Option Value} {base : Heap}
/-- a list of sites, one at least -/
structure Pts (f : Addr → Pt) (H : Hp) (p : Addr) (us : List Addr) : Prop where
  at_ : H p = some (.lst (us.map V.ref))
  pos : 0 < us.length
  few : us.length < 200
  sit : SitF f H us
theorem Pts.same {f : Addr → Int × Int} {H H' : Hp} {p : Addr} {ts : List Addr} (h : Pts f H p ts) (s : Same H H') : Pts f H' p ts := ⟨s _ _ h.at_, h.pos, h.few, h.sit.same s⟩
theorem cut_from {xs : List V} {n : Nat} (h : n ≤ xs.length) : cutV xs (some (n : Int)) none = xs.drop n := by
  unfold cutV
  rw [HT.sIx_nat, HT.sIx_none, Nat.min_eq_left h]
  exact List.take_of_length_le (by rw [List.length_drop]; omega)
theorem cut_to {xs : List V} {n : Nat} (h : n ≤ xs.length) : cutV xs none (some (n : Int)) = xs.take n := by
  unfold cutV
  rw [HT.sIx_nat, HT.sIx_none, Nat.min_eq_left h]
  rfl
theorem cut_1 {xs : List V} (h : 1 ≤ xs.length) : cutV xs (some 1) none = xs.drop 1 := cut_from (n := 1) h
/-- both of a pair of neighbours -/
theorem nb_at {us vs : List Addr} {i : Nat} {x z : V} (h1 : (us.map V.ref)[i]? = some x) (h2 : (vs.map V.ref)[i]? = some z) : ∃ a b, us[i]? = some a ∧ vs[i]? = some b ∧ x = .ref a ∧ z = .ref b ∧ a ∈ us ∧ b ∈ vs := by
  obtain ⟨a, ea, rfl, ma⟩ := ref_at h1
  obtain ⟨b, eb, rfl, mb⟩ := ref_at h2
  exact ⟨a, b, ea, eb, rfl, rfl, ma, mb⟩
theorem fan_sum (f : Pt) : ∀ l : List Pt, (List.zipWith (tn f) l (l.drop 1)).sum = fan f l
  | [] => rfl
  | [_] => rfl
  | a :: b :: r => by
    have := fan_sum f (b :: r)
    show (tn f a b :: List.zipWith (tn f) (b :: r) ((b :: r).drop 1)).sum = tn f a b + fan f (b :: r)
    rw [List.sum_cons, this]
theorem head_ts {f : Addr → Pt} {ts : List Addr} {p0 : Pt} (h0 : (ts.map f).head? = some p0) : ∃ t, ts.head? = some t ∧ f t = p0 ∧ t ∈ ts := by
  rw [List.head?_map] at h0
  obtain ⟨t, e, e2⟩ := Option.map_eq_some_iff.mp h0
  exact ⟨t, e, e2, List.mem_of_head? e⟩
theorem last_ts {f : Addr → Pt} {ts : List Addr} {p0 : Pt} (h0 : (ts.map f).getLast? = some p0) : ∃ t, ts.getLast? = some t ∧ f t = p0 ∧ t ∈ ts := by
  rw [List.getLast?_map] at h0
  obtain ⟨t, e, e2⟩ := Option.map_eq_some_iff.mp h0
  exact ⟨t, e, e2, List.mem_of_getLast? e⟩
theorem Ends2.ord {rows : List Pt} {p0 q : Pt} (e : Ends2 rows p0 q) : p0 = q ∨ lt2 p0 q := by
  rcases first_is e.so e.h0 q (List.mem_of_getLast? e.hq) with h | h
  · exact .inl h.symm
  · exact .inr h
theorem cornN_head {rows : List Pt} {p0 q : Pt} (e : Ends2 rows p0 q) : (cornN p0 q rows).head? = some p0 := by
  by_cases n2 : p0 = q
  · subst n2
    rw [one_of e.so e.h0 e.hq, one_cornN]
    rfl
  · obtain ⟨mid, h, _⟩ := ringCN e.so e.h0 e.hq n2
    rw [h]
    rfl
theorem joinA_pos {f : Addr → Pt} {p0 q : Pt} {ts us : List Addr} (e : Ends2 (ts.map f) p0 q) (h : us.map f = cornN p0 q (ts.map f)) : 0 < us.length := by
  have := cornN_head e
  rw [← h] at this
  cases us with
  | nil => cases this
  | cons _ _ => simp
theorem corn_few {f : Addr → Pt} {p0 q : Pt} {ts us : List Addr} (h : us.map f = cornN p0 q (ts.map f)) : us.length ≤ 2 * ts.length := by
  rw [← joinA_corn] at h
  have := congrArg List.length h
  rw [List.length_map, List.length_map] at this
  rw [this]
  exact joinA_len
theorem bordN_head {rows : List Pt} {p0 q : Pt} (e : Ends2 rows p0 q) (nr : ¬ Row rows) : (bordN p0 q rows).head? = some p0 := by
  by_cases n2 : p0 = q
  · subst n2
    refine absurd ((row_iff e.so e.h0 e.hq).mpr fun p hp => ?_) nr
    unfold tn
    simp
  · obtain ⟨mid, h, _⟩ := ringN e.so e.h0 e.hq n2
    rw [h]
    rfl
theorem srt_uniq2 : ∀ {l1 l2 : List Pt}, l1.Perm l2 → l1.Pairwise lt2 → l2.Pairwise lt2 → l1 = l2 := fun pm h1 h2 => by
  refine pm.eq_of_pairwise (le := lt2) (fun a b _ _ h k => ?_) h1 h2
  exfalso
  unfold lt2 at h k
  omega
theorem perm_map_eq {f : Addr → Pt} {ts rs us : List Addr} (h1 : rs.Perm ts) (h2 : us.Perm ts) (s1 : (rs.map f).Pairwise lt2) (s2 : (us.map f).Pairwise lt2) : us.map f = rs.map f := srt_uniq2 ((h2.trans h1.symm).map f) s2 s1
abbrev s_border : Stmt := topS 17
abbrev n_border : List Str := ["sites"]
theorem c_border : FnScope n_border ["sites"] (defScope s_border) := ⟨rfl, rfl, rfl, by decide +kernel, rfl, by decide +kernel, by decide +kernel⟩
def p_border : Sp := fun vs H Q _ => ∃ out, ∃ (p : Addr) (ts rs : List Addr) (f : Addr → Int × Int) (p0 q : Pt), vs = [.ref p] ∧ Lot f H p ts ∧ rs.Perm ts ∧ Ends2 (rs.map f) p0 q ∧ Brd p0 q (rs.map f) out ∧ Tells f ts out H Q
set_option pp.maxSteps 300 in
theorem ok_border  {f : Addr} {fd : FuncData} (F : Fun K "border" "border" s_border f fd) (C_ascending : Cl P w K mg base CX0 "ascending" 2 ["sites"] (p_ascending)) (C_border_of : Cl P w K mg base CX0 "border_of" 2 ["rows"] (p_border_of)) : FnOk P w K mg base CX0 3 f fd ["sites"] (p_border) := by
  refine F.ok c_border (fun vs H Q E h => ?_) (fun cdv A outer s H vs Q E hr h => ?_)
  · obtain ⟨out, p, ts, rs, g, p0, q0, rfl, hl, pm, he, hb, q⟩ := h
    rfl
  · obtain ⟨out, p, ts, rs, g, p0, q0, rfl, hl, pm, he, hb, q⟩ := h
    have nd := c_border.nd
    have hu : _ := hu_of hr
    refine ⟨_, (pss_one (ps_ret (pe_cl C_border_of (hr.mono (by decide)) (by rfl) pass0 (pa_cons (pe_cl C_ascending (hr.mono (by decide)) (by rfl) pass0 (pa_cons (pv 0) pa_nil)) pa_nil)))), ?_⟩
    repeat array_get_dec
    refine ⟨p, ts, g, rfl, hl, fun us p' H1 pm1 so1 s1 n1 hl1 => ?_⟩
    have e := perm_map_eq pm pm1 he.so so1
    have he1 : Ends2 (us.map g) p0 q0 := by rw [e]; exact he
    repeat array_get_dec
    refine ⟨p', us, g, p0, q0, out, rfl, hl1, he1, by rw [e]; exact hb, fun vs b H2 s2 n2 e2 eo sub => ?_⟩
    exact q vs b H2 (s1.trans s2) (s1.free n2) e2 eo fun u m => pm1.mem_iff.mp (sub u m)
theorem range_getD {α : Type} (l : List α) (d : α) : (List.range l.length).map (fun i => l.getD i d) = l := by
  apply List.ext_getElem?
  intro j
  rw [List.getElem?_map]
  by_cases c : j < l.length
  · rw [List.getElem?_range c, Option.map_some, List.getD_eq_getElem?_getD, List.getElem?_eq_getElem c]
    rfl
  · rw [List.getElem?_eq_none (by rw [List.length_range]; omega), List.getElem?_eq_none (by omega)]
    rfl
theorem range_filter {α : Type} (l : List α) (d : α) (c : α → Bool) : ((List.range l.length).filter (fun i => c (l.getD i d))).map (fun i => l.getD i d) = l.filter c := by
  have := List.filter_map (f := fun i => l.getD i d) (p := c) (l := List.range l.length)
  rw [range_getD] at this
  exact this.symm
end
/-! ### flat, border, as the law walks -/
section
variable {P : Program} {w : World} {K : PySem.W.Frag} {mg : Str → Option Value} {base : Heap}
abbrev s__law_lean : Stmt := topS 28
abbrev n__law_lean : List Str := ["_law_a", "_law_b", "_law_c"]
theorem c__law_lean : FnScope n__law_lean ["_law_a", "_law_b", "_law_c"] (defScope s__law_lean) := ⟨rfl, rfl, rfl, by decide +kernel, rfl, by decide +kernel, by decide +kernel⟩
def p__law_lean : Sp := fun vs H Q _ => ∃ (a b c : Addr) (A B C : Pt), vs = [.ref a, .ref b, .ref c] ∧ Sit H a A.1 A.2 ∧ Sit H b B.1 B.2 ∧ Sit H c C.1 C.2 ∧ Bd 1000000 A.1 A.2 ∧ Bd 1000000 B.1 B.2 ∧ Bd 1000000 C.1 C.2 ∧ Q (.int (tn A B C)) H
set_option pp.maxSteps 300 in
theorem ok__law_lean  (D : Df K mg "_law_lean" s__law_lean ["_law_a", "_law_b", "_law_c"]) : Cl P w K mg base CX0 "_law_lean" 1 ["_law_a", "_law_b", "_law_c"] (p__law_lean) := by
  refine D.cl fun f fd F => F.ok c__law_lean (fun vs H Q E h => ?_) (fun cdv A outer s H vs Q E hr h => ?_)
  · obtain ⟨a, b, c, A, B, C, rfl, ha, hb, hc, ⟨a1, a2, a3, a4⟩, ⟨b1, b2, b3, b4⟩, ⟨c1, c2, c3, c4⟩, q⟩ := h
    rfl
  · obtain ⟨a, b, c, A, B, C, rfl, ha, hb, hc, ⟨a1, a2, a3, a4⟩, ⟨b1, b2, b3, b4⟩, ⟨c1, c2, c3, c4⟩, q⟩ := h
    have nd := c__law_lean.nd
    have hu : _ := hu_of hr
    refine ⟨_, (pss_one (ps_ret (pe_op op_sub (pe_op op_mulW (pe_op op_sub (pe_ix ix_tup (pv 1) pe_int (fun _ _ => rfl)) (pe_ix ix_tup (pv 0) pe_int (fun _ _ => rfl))) (pe_op op_sub (pe_ix ix_tup (pv 2) pe_int (fun _ _ => rfl)) (pe_ix ix_tup (pv 0) pe_int (fun _ _ => rfl)))) (pe_op op_mulW (pe_op op_sub (pe_ix ix_tup (pv 1) pe_int (fun _ _ => rfl)) (pe_ix ix_tup (pv 0) pe_int (fun _ _ => rfl))) (pe_op op_sub (pe_ix ix_tup (pv 2) pe_int (fun _ _ => rfl)) (pe_ix ix_tup (pv 0) pe_int (fun _ _ => rfl))))))), ?_⟩
    repeat array_get_dec
    exact q
abbrev s__law_flat : Stmt := topS 30
abbrev n__law_flat : List Str := ["_law_sites_so", "_law_first", "_law_last", "_law_spot"]
theorem c__law_flat : FnScope n__law_flat ["_law_sites_so"] (defScope s__law_flat) := ⟨rfl, rfl, rfl, by decide +kernel, rfl, by decide +kernel, by decide +kernel⟩
/-- all on the line through the least and the greatest: all in a row -/
theorem row_ends {ts : List Addr} {f : Addr → Pt} {t0 tz : Addr} (m0 : t0 ∈ ts) (mz : tz ∈ ts) (lo : ∀ u ∈ ts, lexLe (f t0) (f u)) (hi : ∀ u ∈ ts, lexLe (f u) (f tz)) : Row (ts.map f) ↔ ∀ t ∈ ts, tn (f t0) (f tz) (f t) = 0 := by
  rw [row_ts]
  constructor
  · exact fun h t m => h t0 m0 tz mz t m
  · intro h
    by_cases n2 : f t0 = f tz
    · have all : ∀ t ∈ ts, f t = f t0 := fun t m => ((lo t m).anti (by rw [n2]; exact hi t m)).symm
      intro a ha b hb c hc
      rw [all a ha, all b hb, all c hc]
      exact tn_zero_self _ _
    · exact row_ts.mp (row_of n2 fun p hp => by
        obtain ⟨t, m, rfl⟩ := List.mem_map.mp hp
        exact h t m)
def p__law_flat : Sp := fun vs H Q _ => ∃ (p : Addr) (ts : List Addr) (f : Addr → Int × Int), vs = [.ref p] ∧ Pts f H p ts ∧ ∀ H' b, Same H H' → (b = true ↔ Row (ts.map f)) → Q (.bl b) H'
set_option pp.maxSteps 300 in
theorem ok__law_flat  (D : Df K mg "_law_flat" s__law_flat ["_law_sites_so"]) (C__law_lean : Cl P w K mg base CX0 "_law_lean" 1 ["_law_a", "_law_b", "_law_c"] (p__law_lean)) (mmax : mg "max" = none) (mmin : mg "min" = none) : Cl P w K mg base CX0 "_law_flat" 2 ["_law_sites_so"] (p__law_flat) := by
  refine D.cl fun f fd F => F.ok c__law_flat (fun vs H Q E h => ?_) (fun cdv A outer s H vs Q E hr h => ?_)
  · obtain ⟨p, ts, g, rfl, hl, q⟩ := h
    rfl
  · obtain ⟨p, ts, g, rfl, hl, q⟩ := h
    have nd := c__law_flat.nd
    have hu : _ := hu_of hr
    refine ⟨_, (pss_cons (ps_set (i := 1) nd rfl (.inr rfl) (pe_callB (cr_minS (by rfl) hu) (by rfl) mmin (by decide +kernel) (pa_cons (pv 0) pa_nil))) (pss_cons (ps_set (i := 2) nd rfl (.inr rfl) (pe_callB (cr_maxS (by rfl) hu) (by rfl) mmax (by decide +kernel) (pa_cons (pv 0) pa_nil))) (pss_one (ps_ret (pe_cmpR (op_eqD hr.units) (pe_lc (own := [("_law_spot", 3)]) (g := (gName 3))  rfl nd (pi_list (pv 0)) (blkOk_by (own := [("_law_spot", 3)]) (N := n__law_flat) (sc := defScope s__law_flat) (by decide +kernel)) (fun _ _ _ _ _ => by exact (pg_name (i := 3) nd rfl (.inl rfl))) (fun _ _ _ _ _ => by exact (pts_one (pt_cmpR op_ne (pe_cl C__law_lean (hr.mono (by decide)) (by rfl) pass0 (pa_cons (pv 1) (pa_cons (pv 2) (pa_cons (pv 3) pa_nil)))) pe_int (nomark _)))) (fun _ _ _ _ _ => by exact (pv 3))) (pe_lstG pa_nil) (nomark _)))))), ?_⟩
    have lts : (ts.map V.ref).length = ts.length := List.length_map _
    have hfew := hl.few
    repeat array_get_dec
    refine ⟨p, ts, g, rfl, hl.at_, fun t m => (hl.sit t m).1, hl.pos, fun t0 m0 lo => ?_⟩
    repeat array_get_dec
    refine ⟨p, ts, g, rfl, hl.at_, fun t m => (hl.sit t m).1, hl.pos, fun tz mz hi => ?_⟩
    repeat array_get_dec
    refine ⟨⟨_, SqL.of hl.at_⟩, fun D nD => ?_⟩
    refine lc_fil (walk_list (xs := ts.map V.ref)) nD (by omega) (fun H4 s4 => SqL.of (s4 _ _ hl.at_)) (fun i => decide (tn (g t0) (g tz) (g (ts.getD i p)) ≠ 0)) (fun i => .ref (ts.getD i p)) (fun i x H4 H5 Kp Kn hi s4 eD2 yi fin finN => ?_) fun H4 s4 eD2 => ?_
    · obtain ⟨rfl, hx⟩ := yi
      obtain ⟨k, ek, rfl, mk⟩ := ref_at hx
      have hl4 := hl.same s4
      rw [getD_at ek] at fin finN
      have z1 := hl4.sit t0 m0
      have z2 := hl4.sit tz mz
      have z3 := hl4.sit k mk
      repeat array_get_dec
      refine ⟨t0, tz, k, g t0, g tz, g k, rfl, z1.1, z2.1, z3.1, z1.2, z2.2, z3.2, ?_⟩
      repeat array_get_dec
      refine w_ifnd (fun c => ?_) fun c => ?_
      · injection c with c
        exact finN _ (by simp [c]) (Same.refl _)
      · have c : tn (g t0) (g tz) (g k) ≠ 0 := fun z => c (congrArg V.int z)
        repeat array_get_dec
        exact fin _ (by simp [c]) (Same.refl _)
    · rw [lts] at eD2
      repeat array_get_dec
      refine fun e H5 s5 n5 e5 => ?_
      have eL : ((List.range ts.length).filter fun i => decide (tn (g t0) (g tz) (g (ts.getD i p)) ≠ 0)).map (fun i => V.ref (ts.getD i p)) = (ts.filter fun t => decide (tn (g t0) (g tz) (g t) ≠ 0)).map V.ref := by
        rw [← range_filter ts p, List.map_map]
        rfl
      rw [eL] at eD2
      have hl5 := (hl.same s4).same s5
      refine w_eqSs (ts := ts.filter fun t => decide (tn (g t0) (g tz) (g t) ≠ 0)) (us := []) (f := g) (g := g) (s5 _ _ eD2) (fun t m => (hl5.sit t (List.mem_filter.mp m).1).1) e5 (fun _ m => nomatch m) ?_
      refine q _ _ (s4.trans s5) ?_
      rw [row_ends m0 mz lo hi, decide_eq_true_eq, List.map_nil, List.map_eq_nil_iff, List.filter_eq_nil_iff]
      simp
end
/-! ### the law's border -/
section
variable {P : Program} {w : World} {K : PySem.W.Frag} {mg : Str → Option Value} {base : Heap}
theorem srt_lt2 {us : List Addr} {f : Addr → Pt} (so : us.Pairwise (fun a b => lexLe (f a) (f b))) (nod : (us.map f).Nodup) : (us.map f).Pairwise lt2 := by
  rw [List.pairwise_map]
  have := List.pairwise_map.mp nod
  exact (so.and this).imp fun h => lt2_of h.1 h.2
/-- a number and an address that stand at an address -/
def hw (H : Hp) (k : Addr) : Int × Addr := match H k with
  | some (.tup [.int x, .ref y]) => (x, y)
  | _ => (0, 0)
theorem hw_of {H : Hp} {k : Addr} {x : Int} {y : Addr} (h : H k = some (.tup [.int x, .ref y])) : hw H k = (x, y) := by
  unfold hw
  rw [h]
/-- those with no site on the right of the way to them, h not among them -/
def supB (rows : List Pt) (h s : Pt) : Bool := decide (s ≠ h) && rows.all fun p => decide (0 ≤ tn h s p)
theorem supB_iff {rows : List Pt} {h s : Pt} (mh : h ∈ rows) (ms : s ∈ rows) : supB rows h s = true ↔ Sup rows h s := by
  unfold supB Sup
  rw [Bool.and_eq_true, decide_eq_true_eq, List.all_eq_true]
  constructor
  · intro ⟨a, b⟩
    exact ⟨mh, ms, fun e => a e.symm, fun p hp => of_decide_eq_true (b p hp)⟩
  · intro ⟨_, _, a, b⟩
    exact ⟨fun e => a e.symm, fun p hp => decide_eq_true (b p hp)⟩
def dst (a b : Pt) : Int := (b.1 - a.1) * (b.1 - a.1) + (b.2 - a.2) * (b.2 - a.2)
theorem dst_is (a b : Pt) : dst a b = dist2 a b := by
  unfold dst dist2
  rw [Int.pow_succ, Int.pow_succ, Int.pow_zero, Int.one_mul, Int.pow_succ, Int.pow_succ, Int.pow_zero, Int.one_mul]
abbrev s__law_border : Stmt := topS 31
abbrev n__law_border : List Str := ["_law_sites_so", "_law_order", "_law_found", "_law_turn_so", "_law_here", "_law_some", "_law_spot", "_law_one"]
theorem c__law_border : FnScope n__law_border ["_law_sites_so"] (defScope s__law_border) := ⟨rfl, rfl, rfl, by decide +kernel, rfl, by decide +kernel, by decide +kernel⟩
def p__law_border : Sp := fun vs H Q _ => ∃ (p : Addr) (ts rs : List Addr) (f : Addr → Int × Int) (p0 q : Pt) (out : List Pt), vs = [.ref p] ∧ Lot f H p ts ∧ ts.length < 64 ∧ rs.Perm ts ∧ Ends2 (rs.map f) p0 q ∧ Brd p0 q (rs.map f) out ∧ Tells f ts out H Q
set_option pp.maxSteps 300 in
theorem ok__law_border  (D : Df K mg "_law_border" s__law_border ["_law_sites_so"]) (C__law_lean : Cl P w K mg base CX0 "_law_lean" 1 ["_law_a", "_law_b", "_law_c"] (p__law_lean)) (C__law_flat : Cl P w K mg base CX0 "_law_flat" 2 ["_law_sites_so"] (p__law_flat)) (mlen : mg "len" = none) (mmin : mg "min" = none) (mrange : mg "range" = none) (msorted : mg "sorted" = none) : Cl P w K mg base CX0 "_law_border" 3 ["_law_sites_so"] (p__law_border) := by
  refine D.cl fun f fd F => F.ok c__law_border (fun vs H Q E h => ?_) (fun cdv A outer s H vs Q E hr h => ?_)
  · obtain ⟨p, ts, rs, g, p0, q0, out, rfl, hl, l64, pm, he, hb, q⟩ := h
    rfl
  · obtain ⟨p, ts, rs, g, p0, q0, out, rfl, hl, l64, pm, he, hb, q⟩ := h
    have nd := c__law_border.nd
    have hu : _ := hu_of hr
    refine ⟨_, (pss_cons (ps_set (i := 1) nd rfl (.inr rfl) (pe_callB cr_sortS (by rfl) msorted (by decide +kernel) (pa_cons (pv 0) pa_nil))) (pss_cons (ps_if (pt_val (pe_cl C__law_flat (hr.mono (by decide)) (by rfl) pass0 (pa_cons (pv 1) pa_nil))) (pss_one (ps_ret (pv 1))) pss_nil) (pss_cons (ps_set (i := 2) nd rfl (.inl rfl) (pe_lstG (pa_cons (pe_ix ix_list (pv 1) pe_int (fun _ _ => rfl)) pa_nil))) (pss_cons (ps_for PassesOwn.never rfl (pi_range1 (by rfl) mrange (pa_cons (pe_callB call_len_seq (by rfl) mlen (by decide +kernel) (pa_cons (pv 1) pa_nil)) pa_nil)) (pg_name (i := 3) nd rfl (.inl rfl)) (pss_cons (ps_set (i := 4) nd rfl (.inr rfl) (pe_ix ix_list (pv 2) pe_neg (fun _ _ => rfl))) (pss_cons (ps_setLc (i := 5) (own := [("_law_spot", 6)]) (g := (gName 6))  rfl nd rfl rfl (sw_true rfl rfl rfl (by decide +kernel)) (pi_list (pv 1)) (blkOk_by (own := [("_law_spot", 6)]) (N := n__law_border) (sc := defScope s__law_border) (by decide +kernel)) (fun _ _ _ _ _ => by exact (pg_name (i := 6) nd rfl (.inr rfl))) (fun _ _ _ _ _ => by exact (pts_one (PW.pt (pw_and (by exact (pt_cmpR (r := rNeD K) (by exact (op_neD hr.units)) (pv 6) (pv 4) (nomark _))) (pw_and1 (by exact (pt_cmpR op_eq (pe_callB (id := "min") (r := rMin K) (by exact (cr_min rfl)) (by rfl) mmin (by decide +kernel) (pa_cons (by exact (pe_lc (own := [("_law_one", 7)]) (g := (gName 7)) (tt := tYes) (wi := iList K (tVar 1)) (te := tCall p__law_lean [] E0 (tCons (tVar 4) (tCons (tVar 6) (tCons (tVar 7) tNil))))  rfl nd (pi_list (pv 1)) (blkOk_by (own := [("_law_one", 7)]) (N := n__law_border) (sc := _) (by first | rfl | with_unfolding_all rfl)) (fun _ _ _ _ _ => by exact (pg_name (i := 7) nd rfl (.inl rfl))) (fun _ _ _ _ _ => by exact pts_nil) (fun _ _ _ _ _ => by exact (pe_cl C__law_lean (hr.mono (by decide)) (by rfl) pass0 (pa_cons (pv 4) (pa_cons (pv 6) (pa_cons (pv 7) pa_nil))))))) pa_nil)) pe_int (nomark _)))))))) (fun _ _ _ _ _ => by exact (pv 6))) (pss_cons (ps_set (i := 5) nd rfl (.inl rfl) (pe_callB (cr_sort3 hr.units) (by rfl) msorted (by decide +kernel) (pa_cons (pe_lc (own := [("_law_spot", 6)]) (g := (gName 6)) (tt := tYes)  rfl nd (pi_list (pv 5)) (blkOk_by (own := [("_law_spot", 6)]) (N := n__law_border) (sc := defScope s__law_border) (by decide +kernel)) (fun _ _ _ _ _ => by exact (pg_name (i := 6) nd rfl (.inl rfl))) (fun _ _ _ _ _ => by exact pts_nil) (fun _ _ _ _ _ => by exact (pe_tupG (pa_cons (pe_op op_add (pe_op op_sq (pe_op op_sub (pe_ix (r := rIxT K) (by exact ix_tup) (pv 6) pe_int (fun _ _ => rfl)) (pe_ix (r := rIxT K) (by exact ix_tup) (pv 4) pe_int (fun _ _ => rfl))) pe_int) (pe_op op_sq (pe_op op_sub (pe_ix (r := rIxT K) (by exact ix_tup) (pv 6) pe_int (fun _ _ => rfl)) (pe_ix (r := rIxT K) (by exact ix_tup) (pv 4) pe_int (fun _ _ => rfl))) pe_int)) (pa_cons (pv 6) pa_nil))))) pa_nil))) (pss_cons (ps_if (pt_cmpR (op_eqD hr.units) (pe_ix ix_tup (pe_ix ix_list (pv 5) pe_int (fun _ _ => rfl)) pe_int (fun _ _ => rfl)) (pe_ix ix_list (pv 1) pe_int (fun _ _ => rfl)) (nomark _)) (pss_one (ps_ret (pv 2))) pss_nil) (pss_one (ps_expr (pe_bm PySem.F.plainAttrs_list PySem.F.slot_list_append PySem.F.type_list_append mt_append (pv 2) (pa_cons (pe_ix ix_tup (pe_ix ix_list (pv 5) pe_int (fun _ _ => rfl)) pe_int (fun _ _ => rfl)) pa_nil))))))))) (pss_one (ps_ret (pv 2))))))), ?_⟩
    have hfew := l64
    repeat array_get_dec
    refine ⟨p, ts, g, rfl, SqL.of hl.at_, fun t m => (hl.sit t m).1, fun us p1 H1 pm1 so1 s1 n1 e1 => ?_⟩
    have nodU : (us.map g).Nodup := (pm1.map g).nodup_iff.mpr hl.nod
    have e := perm_map_eq pm pm1 he.so (srt_lt2 so1 nodU)
    have hl1 : Lot g H1 p1 us := ⟨e1, by rw [pm1.length_eq]; exact hl.pos, by rw [pm1.length_eq]; exact hl.few, (hl.sit.same s1).sub fun u m => pm1.mem_iff.mp m, nodU⟩
    have lus : (us.map V.ref).length = us.length := List.length_map _
    have fewU : us.length < 64 := by rw [pm1.length_eq]; exact l64
    have posU := hl1.pos
    repeat array_get_dec
    refine ⟨p1, us, g, rfl, ⟨e1, hl1.pos, by omega, hl1.sit⟩, fun H2 b s2 hbr => ?_⟩
    rw [e] at hbr
    have hl2 := hl1.same s2
    cases b
    · have nr : ¬ Row (rs.map g) := fun z => Bool.noConfusion (hbr.mpr z)
      obtain ⟨mid, eB, ring⟩ := ringB_of he.so he.h0 he.hq nr
      have eout : out = p0 :: mid := (hb.2 nr).trans eB
      have rfew := ring.few
      rw [← e] at ring rfew
      rw [List.length_map] at rfew
      obtain ⟨u0, eu0, gu0, mu0⟩ := head_ts (f := g) (ts := us) (p0 := p0) (by rw [e]; exact he.h0)
      repeat array_get_dec
      refine ⟨p1, _, 0, _, rfl, rfl, SqL.of hl2.at_, headI eu0, ?_⟩
      repeat array_get_dec
      refine fun pf H3 s3 n3 e3 => ?_
      repeat array_get_dec
      have pfn : H pf = none := s1.free (s2.free n3)
      rw [lus]
      refine ⟨by omega, by omega, for_range (lo := 0) (n := us.length) (fun i σ' H' => (∃ y3 y4 y5 y6 y7, σ' = [some (.ref p), some (.ref p1), some (.ref pf), y3, y4, y5, y6, y7]) ∧ Same H2 H' ∧ ∃ fs : List Addr, H' pf = some (.lst (fs.map V.ref)) ∧ (∀ t ∈ fs, t ∈ us) ∧ fs.map g = (p0 :: mid).take (i + 1) ∧ i ≤ mid.length) ⟨⟨_, _, _, _, _, rfl⟩, s3, [u0], e3, fun t m => by rw [List.mem_singleton.mp m]; exact mu0, by rw [List.map_cons, gu0]; rfl, Nat.zero_le _⟩ (fun i σ' H' hi z => ?_) fun σ' H' z => ?_⟩
      · obtain ⟨⟨y3, y4, y5, y6, y7, rfl⟩, sH, fs, eF, sub, efs, im⟩ := z
        have hlH := hl2.same sH
        obtain ⟨h, x, eh, nx, x0, x1⟩ := ring.step im
        have lfs : fs.length = i + 1 := by
          have := congrArg List.length efs
          rw [List.length_map, List.length_take, List.length_cons] at this
          omega
        obtain ⟨th, eth⟩ : ∃ th, fs.getLast? = some th := by
          cases fs with
          | nil => cases lfs
          | cons a l => exact ⟨_, List.getLast?_eq_some_getLast (by simp)⟩
        have mth := List.mem_of_getLast? eth
        have gth : g th = h := by
          have a1 : (fs.map g).getLast? = some (g th) := by rw [List.getLast?_map, eth]; rfl
          rw [efs, List.getLast?_eq_getElem?, List.length_take, List.length_cons, show min (i + 1) (mid.length + 1) - 1 = i by omega, List.getElem?_take, if_pos (Nat.lt_succ_self i), eh] at a1
          exact (Option.some.inj a1).symm
        subst gth
        have mhr : g th ∈ us.map g := List.mem_map_of_mem (sub th mth)
        repeat array_get_dec
        refine ⟨pf, _, -1, _, rfl, rfl, SqL.of eF, lastI eth, ?_⟩
        repeat array_get_dec
        refine ⟨⟨_, SqL.of hlH.at_⟩, fun D1 nD1 => ?_⟩
        refine lc_fil (walk_list (xs := us.map V.ref)) nD1 (by omega) (fun H4 s4 => SqL.of (s4 _ _ hlH.at_)) (fun j => supB (us.map g) (g th) (g (us.getD j p))) (fun j => .ref (us.getD j p)) (fun j v H4 H5 Kp Kn hj s4 eD yi fin finN => ?_) fun H4 s4 eD1 => ?_
        · obtain ⟨rfl, hx⟩ := yi
          obtain ⟨k, ek, rfl, mk⟩ := ref_at hx
          have hl5 := hlH.same s4
          rw [getD_at ek] at fin finN
          have zh := hl5.sit th (sub th mth)
          have zk := hl5.sit k mk
          have mkr : g k ∈ us.map g := List.mem_map_of_mem mk
          repeat array_get_dec
          refine w_neS zk.1 zh.1 ?_
          refine ⟨_, rfl, ?_⟩
          by_cases same : g k = g th
          · refine w_ntt same ?_
            refine finN _ ?_ (Same.refl _)
            unfold supB
            rw [decide_eq_false (fun z => z same)]
            rfl
          refine w_ntf same ?_
          repeat array_get_dec
          refine ⟨⟨_, SqL.of hl5.at_⟩, fun D2 nD2 => ?_⟩
          refine lc_val (walk_list (xs := us.map V.ref)) nD2 (by omega) (fun H6 s6 => SqL.of (s6 _ _ hl5.at_)) ((us.map fun o => tn (g th) (g k) (g o)).map V.int) (by simp) (fun o y v H6 H7 Kp' hy s6 eD2 yi fin' => ?_) fun H6 s6 eD2 => ?_
          · obtain ⟨rfl, hx⟩ := yi
            obtain ⟨t, et, rfl, mt⟩ := ref_at hx
            have hl6 := hl5.same s6
            have z1 := hl6.sit th (sub th mth)
            have z2 := hl6.sit k mk
            have z3 := hl6.sit t mt
            repeat array_get_dec
            refine ⟨th, k, t, g th, g k, g t, rfl, z1.1, z2.1, z3.1, z1.2, z2.2, z3.2, ?_⟩
            have ey : v = .int (tn (g th) (g k) (g t)) := by
              rw [List.getElem?_map, List.getElem?_map, et] at hy
              exact (Option.some.inj hy).symm
            rw [← ey]
            exact fin' _ (Same.refl _)
          · repeat array_get_dec
            refine ⟨D2, _, rfl, SqL.of eD2, by rw [List.length_map]; exact posU, fun m hm hle => ?_⟩
            repeat array_get_dec
            refine w_ifd (fun c => ?_) fun c => ?_
            · injection c with c
              repeat array_get_dec
              refine fin _ ?_ s6
              unfold supB
              rw [decide_eq_true same, Bool.true_and, List.all_eq_true]
              intro q hq
              obtain ⟨t, mt, rfl⟩ := List.mem_map.mp hq
              have := hle _ (List.mem_map.mpr ⟨t, mt, rfl⟩)
              exact decide_eq_true (by omega)
            · refine finN _ ?_ s6
              have c : m ≠ 0 := fun z => c (congrArg V.int z)
              have m0 := hle _ (List.mem_map.mpr ⟨th, sub th mth, rfl⟩)
              have t0 : tn (g th) (g k) (g th) = 0 := tn_zero_self _ _
              obtain ⟨t, mt, em⟩ := List.mem_map.mp hm
              unfold supB
              rw [Bool.and_eq_false_iff]
              right
              rw [List.all_eq_false]
              exact ⟨g t, List.mem_map_of_mem mt, by rw [decide_eq_true_eq]; omega⟩
        · rw [lus] at eD1
          have eL : ((List.range us.length).filter fun j => supB (us.map g) (g th) (g (us.getD j p))).map (fun j => V.ref (us.getD j p)) = (us.filter fun t => supB (us.map g) (g th) (g t)).map V.ref := by
            rw [← range_filter us p, List.map_map]
            rfl
          rw [eL] at eD1
          have hl4 := hlH.same s4
          have subS : ∀ t ∈ us.filter fun t => supB (us.map g) (g th) (g t), t ∈ us ∧ Sup (us.map g) (g th) (g t) := fun t mt => by
            obtain ⟨a, b⟩ := List.mem_filter.mp mt
            exact ⟨a, (supB_iff mhr (List.mem_map_of_mem a)).mp b⟩
          obtain ⟨tx, mtx, gtx⟩ : ∃ t ∈ us.filter fun t => supB (us.map g) (g th) (g t), g t = x := by
            obtain ⟨t, mt, rfl⟩ := List.mem_map.mp nx.1.2.1
            exact ⟨t, List.mem_filter.mpr ⟨mt, (supB_iff mhr (List.mem_map_of_mem mt)).mpr nx.1⟩, rfl⟩
          generalize hss : (us.filter fun t => supB (us.map g) (g th) (g t)) = ss at eD1 subS mtx
          have lss : (ss.map V.ref).length = ss.length := List.length_map _
          have fss : ss.length < 64 := by
            have := List.length_filter_le (fun t => supB (us.map g) (g th) (g t)) us
            rw [hss] at this
            omega
          clear hss eL
          have zh4 := hl4.sit th (sub th mth)
          obtain ⟨h1, h2, h3, h4⟩ := zh4.2
          repeat array_get_dec
          refine ⟨⟨_, SqL.of eD1⟩, fun D2 nD2 => ?_⟩
          refine lc_newA (walk_list (xs := ss.map V.ref)) nD2 (by omega) (fun H5 s5 => SqL.of (s5 _ _ eD1)) (fun j => .tup [.int (dst (g th) (g (ss.getD j p))), .ref (ss.getD j p)]) (fun j v H5 H6 Kp hj s5 eD2 yi fin => ?_) fun H5 ks s5 eD2 nw => ?_
          · obtain ⟨rfl, hx⟩ := yi
            obtain ⟨k, ek, rfl, mk⟩ := ref_at hx
            have hl6 := hl4.same s5
            rw [getD_at ek] at fin
            have z1 := hl6.sit th (sub th mth)
            have z2 := hl6.sit k (subS k mk).1
            obtain ⟨k1, k2, k3, k4⟩ := z2.2
            have z11 := z1.1
            have z21 := z2.1
            unfold Sit at z11 z21
            repeat array_get_dec
            refine ⟨⟨rfl, Nat.lt_of_lt_of_le (show _ < 2 ^ 23 by omega) (Nat.pow_le_pow_right (by decide) (by decide))⟩, ?_⟩
            repeat array_get_dec
            refine ⟨⟨rfl, Nat.lt_of_lt_of_le (show _ < 2 ^ 23 by omega) (Nat.pow_le_pow_right (by decide) (by decide))⟩, ?_⟩
            repeat array_get_dec
            exact fun t H5 s5 n5 e5 => fin t H5 s5 n5 e5
          · rw [lss] at nw
            have hl5 := hl4.same s5
            have kat : ∀ k ∈ ks, ∃ j < ss.length, H5 k = some (.tup [.int (dst (g th) (g (ss.getD j p))), .ref (ss.getD j p)]) := fun k mk => by
              obtain ⟨j, hj, rfl⟩ := List.getElem_of_mem mk
              have c2 : j < (List.range ss.length).length := by rw [← nw.1]; exact hj
              have z := nw.2 j _ ks[j] (List.getElem?_eq_getElem c2) (List.getElem?_eq_getElem hj)
              rw [List.getElem_range] at z
              rw [List.length_range] at c2
              exact ⟨j, c2, z.2⟩
            have katS : ∀ k ∈ ks, ∃ t ∈ ss, H5 k = some (.tup [.int (dst (g th) (g t)), .ref t]) := fun k mk => by
              obtain ⟨j, hj, z⟩ := kat k mk
              have ej : ss[j]? = some ss[j] := List.getElem?_eq_getElem hj
              rw [getD_at ej] at z
              exact ⟨_, List.getElem_mem hj, z⟩
            have valK : ∀ k ∈ ks, ∃ u, H5 k = some (.tup [.int (hw H5 k).1, .ref u]) ∧ H5 u = some (.tup [.int (g (hw H5 k).2).1, .int (g (hw H5 k).2).2]) := fun k mk => by
              obtain ⟨t, mt, z⟩ := katS k mk
              rw [hw_of z]
              exact ⟨t, z, (hl5.sit t (subS t mt).1).1⟩
            repeat array_get_dec
            refine ⟨D2, ks, fun k => (hw H5 k).1, fun k => g (hw H5 k).2, rfl, eD2, valK, fun ls D3 H6 pmL soL s6 n6 e6 => ?_⟩
            obtain ⟨kx, mkx, ekx⟩ : ∃ k ∈ ks, H5 k = some (.tup [.int (dst (g th) (g tx)), .ref tx]) := by
              obtain ⟨j, hj, ej⟩ := List.getElem_of_mem mtx
              have c2 : j < (List.range ss.length).length := by rw [List.length_range]; exact hj
              have c3 : j < ks.length := by rw [nw.1]; exact c2
              have z := nw.2 j _ ks[j] (List.getElem?_eq_getElem c2) (List.getElem?_eq_getElem c3)
              rw [List.getElem_range] at z
              have e3 : ss.getD j p = tx := getD_at (by rw [List.getElem?_eq_getElem hj, ej])
              have z2 : H5 ks[j] = some (.tup [.int (dst (g th) (g (ss.getD j p))), .ref (ss.getD j p)]) := z.2
              rw [e3] at z2
              exact ⟨_, List.getElem_mem c3, z2⟩
            obtain ⟨k0, ls', rfl⟩ : ∃ k0 ls', ls = k0 :: ls' := by
              cases ls with
              | nil => exact absurd (pmL.mem_iff.mpr mkx) (by simp)
              | cons a l => exact ⟨a, l, rfl⟩
            have mk0 : k0 ∈ ks := pmL.mem_iff.mp List.mem_cons_self
            obtain ⟨t1, mt1, e0⟩ := katS k0 mk0
            have least : dst (g th) (g t1) ≤ dst (g th) (g tx) := by
              have z : k0 = kx ∨ le3 (hw H5 k0).1 (g (hw H5 k0).2) (hw H5 kx).1 (g (hw H5 kx).2) := by
                rcases List.mem_cons.mp (pmL.mem_iff.mpr mkx) with e | m
                · exact .inl e.symm
                · exact .inr ((List.pairwise_cons.mp soL).1 kx m)
              rcases z with rfl | z
              · rw [ekx] at e0
                injection e0 with e0
                injection e0 with e0
                injection e0 with e0
                injection e0 with e0
                omega
              · rw [hw_of e0, hw_of ekx] at z
                unfold le3 at z
                omega
            have g1 : g t1 = x := by
              rcases nxt_near ring.nr nx (subS t1 mt1).2 with h | h
              · exact h
              · rw [dst_is, dst_is, gtx] at least
                omega
            have hl6 := hl5.same s6
            have e06 := s6 _ _ e0
            have sHx := sH.trans (s4.trans (s5.trans s6))
            have eF6 := (s4.trans (s5.trans s6)) _ _ eF
            repeat array_get_dec
            refine ⟨D3, _, 0, _, rfl, rfl, SqL.of e6, headI rfl, ?_⟩
            repeat array_get_dec
            refine ⟨p1, _, 0, _, rfl, rfl, SqL.of hl6.at_, headI eu0, ?_⟩
            have zt1 := hl6.sit t1 (subS t1 mt1).1
            have zu0 := hl6.sit u0 mu0
            refine w_eqS zt1.1 zu0.1 ?_
            refine ⟨_, rfl, ?_⟩
            rw [g1, gu0]
            refine w_ifd (fun c => ?_) fun c => ?_
            · repeat array_get_dec
              refine q fs pf H6 ((s1.trans s2).trans sHx) pfn eF6 ?_ fun u m => pm1.mem_iff.mp (sub u m)
              rw [efs, eout, x0 c]
              exact List.take_of_length_le (by rw [List.length_cons]; omega)
            · obtain ⟨im2, ex⟩ := x1 c
              repeat array_get_dec
              refine ⟨.inl ⟨rfl, _, SqL.of eF6⟩, ?_⟩
              repeat array_get_dec
              refine ⟨D3, _, 0, _, rfl, rfl, SqL.of e6, headI rfl, ?_⟩
              repeat array_get_dec
              refine ⟨pf, _, .ref t1, rfl, rfl, eF6, by rw [List.length_map, lfs]; exact Nat.lt_of_lt_of_le (show i + 1 < 64 by omega) (by decide), ?_⟩
              have sP : Same H2 (upd H6 pf (.lst (fs.map V.ref ++ [.ref t1]))) := fun b o eb => by
                rw [upd_ne (ne_of_none eb n3)]
                exact sHx b o eb
              refine ⟨⟨_, _, _, _, _, rfl⟩, sP, fs ++ [t1], ?_, ?_, ?_, by omega⟩
              · rw [upd_same, List.map_append]
                rfl
              · intro t mt
                rcases List.mem_append.mp mt with mt | mt
                · exact sub t mt
                · rw [List.mem_singleton.mp mt]
                  exact (subS t1 mt1).1
              · rw [List.map_append, efs, List.take_add_one (i := i + 1), ex, List.map_cons, List.map_nil, g1]
                rfl
      · obtain ⟨_, _, fs, _, _, _, im⟩ := z
        omega
    · have row := hbr.mp rfl
      repeat array_get_dec
      exact q us p1 H2 (s1.trans s2) n1 hl2.at_ ((e.trans (hb.1 row).symm)) fun u m => pm1.mem_iff.mp m
end
/-! ### k07: a spot that fits -/
section
variable {P : Program} {w : World} {K : PySem.W.Frag} {mg : Str → Option Value} {base : Heap}
abbrev s__law_fits : Stmt := topS 35
abbrev n__law_fits : List Str := ["_law_spot"]
theorem c__law_fits : FnScope n__law_fits ["_law_spot"] (defScope s__law_fits) := ⟨rfl, rfl, rfl, by decide +kernel, rfl, by decide +kernel, by decide +kernel⟩
def p__law_fits : Sp := fun vs H Q _ => ∃ (t : Addr) (x y : Int), vs = [.ref t] ∧ Sit H t x y ∧ ∀ b : Bool, (b = true ↔ Bd 1000000 x y) → Q (.bl b) H
set_option pp.maxSteps 300 in
theorem ok__law_fits  (D : Df K mg "_law_fits" s__law_fits ["_law_spot"]) (mabs : mg "abs" = none) (mmax : mg "max" = none) : Cl P w K mg base CX0 "_law_fits" 1 ["_law_spot"] (p__law_fits) := by
  refine D.cl fun f fd F => F.ok c__law_fits (fun vs H Q E h => ?_) (fun cdv A outer s H vs Q E hr h => ?_)
  · obtain ⟨t, x, y, rfl, st, q⟩ := h
    rfl
  · obtain ⟨t, x, y, rfl, st, q⟩ := h
    have nd := c__law_fits.nd
    have hu : _ := hu_of hr
    refine ⟨_, (pss_one (ps_ret (pe_cmpR op_le (pe_callB (call_max2 (by rfl)) (by rfl) mmax (by decide +kernel) (pa_cons (pe_callB call_abs (by rfl) mabs (by decide +kernel) (pa_cons (pe_ix ix_tup (pv 0) pe_int (fun _ _ => rfl)) pa_nil)) (pa_cons (pe_callB call_abs (by rfl) mabs (by decide +kernel) (pa_cons (pe_ix ix_tup (pv 0) pe_int (fun _ _ => rfl)) pa_nil)) pa_nil))) (pe_op op_pow pe_int pe_int) (nomark _)))), ?_⟩
    repeat array_get_dec
    refine q _ ?_
    rw [decide_eq_true_iff, show (10 : Int) ^ Int.toNat 6 = 1000000 by decide]
    unfold Bd
    constructor
    · intro h
      split at h <;> (refine ⟨?_, ?_, ?_, ?_⟩ <;> (split at * <;> split at * <;> omega))
    · rintro ⟨h1, h2, h3, h4⟩
      split <;> split <;> omega
abbrev s_is_site : Stmt := topS 6
abbrev n_is_site : List Str := ["value", "x", "y"]
theorem c_is_site : FnScope n_is_site ["value"] (defScope s_is_site) := ⟨rfl, rfl, rfl, by decide +kernel, rfl, by decide +kernel, by decide +kernel⟩
def p_is_site : Sp := spIsSite
abbrev s_check_member : Stmt := topS 11
abbrev n_check_member : List Str := ["value", "sites", "name"]
theorem c_check_member : FnScope n_check_member ["value", "sites", "name"] (defScope s_check_member) := ⟨rfl, rfl, rfl, by decide +kernel, rfl, by decide +kernel, by decide +kernel⟩
def p_check_member : Sp := fun vs H Q _ => ∃ (t p : Addr) (x y : Int) (z : Str) (ts : List Addr) (f : Addr → Pt), vs = [.ref t, .ref p, .str z] ∧ Sit H t x y ∧ Bd 1000000 x y ∧ H p = some (.lst (ts.map V.ref)) ∧ SitF f H ts ∧ (x, y) ∈ ts.map f ∧ Q .non H
set_option pp.maxSteps 300 in
theorem ok_check_member  (D : Df K mg "check_member" s_check_member ["value", "sites", "name"]) (C_is_site : Cl P w K mg base CX0 "is_site" 1 ["value"] (p_is_site)) : Cl P w K mg base CX0 "check_member" 2 ["value", "sites", "name"] (p_check_member) := by
  refine D.cl fun f fd F => F.ok c_check_member (fun vs H Q E h => ?_) (fun cdv A outer s H vs Q E hr h => ?_)
  · obtain ⟨t, p, x, y, z, ts, g, rfl, st, hb, hp, hs, mem, q⟩ := h
    rfl
  · obtain ⟨t, p, x, y, z, ts, g, rfl, st, hb, hp, hs, mem, q⟩ := h
    have nd := c_check_member.nd
    have hu : _ := hu_of hr
    refine ⟨_, (pss_one (ps_if (PW.pt (pw_or (pt_not (pt_val (pe_cl C_is_site (hr.mono (by decide)) (by rfl) pass0 (pa_cons (pv 0) pa_nil)))) (pw_or1 (pt_cmpR (op_notInD (u65 hr)) (pv 0) (pv 1) rfl)))) (pss_one ps_never) pss_nil)), ?_⟩
    repeat array_get_dec
    refine ⟨t, x, y, rfl, st, hb, ?_⟩
    repeat array_get_dec
    refine w_ninS (p := (x, y)) st hp (fun t m => (hs t m).1) ?_
    rw [decide_eq_true mem]
    repeat array_get_dec
    exact q
end
/-! ### k07: layers, as the law takes them -/
section
variable {P : Program} {w : World} {K : PySem.W.Frag} {mg : Str → Option Value} {base : Heap}
abbrev s__law_layers : Stmt := topS 32
abbrev n__law_layers : List Str := ["_law_sites_so", "_law_rest", "_law_found", "_law_spot"]
theorem c__law_layers : FnScope n__law_layers ["_law_sites_so"] (defScope s__law_layers) := ⟨rfl, rfl, rfl, by decide +kernel, rfl, by decide +kernel, by decide +kernel⟩
/-- the borders of a list of pairs, one below the other -/
inductive Lays : List Pt → List (List Pt) → Prop
  | nil : Lays [] []
  | step {l rows out : List Pt} {outs : List (List Pt)} {p0 q : Pt} (pm : rows.Perm l) (e : Ends2 rows p0 q) (hb : Brd p0 q rows out) (rest : Lays (l.filter fun x => decide (x ∉ out)) outs) : Lays l (out :: outs)
theorem Lays.perm {l l' : List Pt} {outs : List (List Pt)} (h : Lays l outs) (pm : l.Perm l') : Lays l' outs := by
  induction h generalizing l' with
  | nil => rw [List.nil_perm.mp pm]; exact .nil
  | step pr e hb _ ih => exact .step (pr.trans pm) e hb (ih (pm.filter _))
theorem brd_uniq {rows a b : List Pt} {p0 q : Pt} (h : Brd p0 q rows a) (k : Brd p0 q rows b) : a = b := by
  by_cases r : Row rows
  · exact (h.1 r).trans (k.1 r).symm
  · exact (h.2 r).trans (k.2 r).symm
/-- told alike, whatever the order -/
theorem Lays.uniq {l : List Pt} {a b : List (List Pt)} (h : Lays l a) (k : Lays l b) : a = b := by
  induction h generalizing b with
  | nil =>
    cases k with
    | nil => rfl
    | step pm e _ _ =>
      rw [List.perm_nil.mp pm] at e
      cases e.h0
  | step pm e hb _ ih =>
    cases k with
    | nil =>
      rw [List.perm_nil.mp pm] at e
      cases e.h0
    | step pm2 e2 hb2 k2 =>
      have rows := srt_uniq2 (pm.trans pm2.symm) e.so e2.so
      subst rows
      cases Option.some.inj (e.h0.symm.trans e2.h0)
      cases Option.some.inj (e.hq.symm.trans e2.hq)
      have eo := brd_uniq hb hb2
      subst eo
      rw [ih k2]
theorem brd_head {rows out : List Pt} {p0 q : Pt} (e : Ends2 rows p0 q) (hb : Brd p0 q rows out) : out.head? = some p0 := by
  by_cases r : Row rows
  · rw [hb.1 r]
    exact e.h0
  · rw [hb.2 r]
    exact bordN_head e r
theorem Lays.len {l : List Pt} {outs : List (List Pt)} (h : Lays l outs) : outs.length ≤ l.length := by
  induction h with
  | nil => exact Nat.le_refl _
  | @step l rows out outs p0 q pm e hb _ ih =>
    have ml : p0 ∈ l := pm.mem_iff.mp (List.mem_of_head? e.h0)
    have mo : p0 ∈ out := List.mem_of_head? (brd_head e hb)
    have lt : (l.filter fun x => decide (x ∉ out)).length < l.length := by
      refine Nat.lt_of_le_of_ne (List.length_filter_le _ _) fun z => ?_
      have all := List.length_filter_eq_length_iff.mp z p0 ml
      simp [mo] at all
    rw [List.length_cons]
    omega
/-- pairs in another order: so the addresses -/
theorem lift_perm {f : Addr → Pt} {l1 l2 : List Pt} (pm : l1.Perm l2) : ∀ ts : List Addr, ts.map f = l1 → ∃ us : List Addr, us.Perm ts ∧ us.map f = l2 := by
  induction pm with
  | nil => intro ts e; exact ⟨ts, .refl _, e⟩
  | cons x _ ih =>
    intro ts e
    cases ts with
    | nil => cases e
    | cons t ts =>
      obtain ⟨us, p1, e1⟩ := ih ts (List.cons.inj e).2
      exact ⟨t :: us, p1.cons t, by rw [List.map_cons, e1, (List.cons.inj e).1]⟩
  | swap x y l =>
    intro ts e
    match ts, e with
    | a :: b :: ts, e =>
      obtain ⟨e1, e2⟩ := List.cons.inj e
      obtain ⟨e2, e3⟩ := List.cons.inj e2
      exact ⟨b :: a :: ts, .swap a b ts, by rw [List.map_cons, List.map_cons, e1, e2, e3]⟩
  | trans _ _ ih1 ih2 =>
    intro ts e
    obtain ⟨us, p1, e1⟩ := ih1 ts e
    obtain ⟨vs, p2, e2⟩ := ih2 us e1
    exact ⟨vs, p2.trans p1, e2⟩
/-- lists at addresses, each one of some of the sites -/
inductive LL (f : Addr → Pt) (H : Hp) (ts : List Addr) : List Addr → List (List Pt) → Prop
  | nil : LL f H ts [] []
  | snoc {ls : List Addr} {outs : List (List Pt)} {l : Addr} {us : List Addr} (h : LL f H ts ls outs) (e : H l = some (.lst (us.map V.ref))) (sub : ∀ u ∈ us, u ∈ ts) : LL f H ts (ls ++ [l]) (outs ++ [us.map f])
theorem LL.keep {f : Addr → Pt} {H H' : Hp} {ts ls : List Addr} {outs : List (List Pt)} (h : LL f H ts ls outs) (k : ∀ l ∈ ls, ∀ o, H l = some o → H' l = some o) : LL f H' ts ls outs := by
  induction h with
  | nil => exact .nil
  | snoc h e sub ih => exact .snoc (ih fun l m => k l (List.mem_append_left _ m)) (k _ (List.mem_append_right _ List.mem_cons_self) _ e) sub
theorem LL.some {f : Addr → Pt} {H : Hp} {ts ls : List Addr} {outs : List (List Pt)} (h : LL f H ts ls outs) : ∀ l ∈ ls, ∃ o, H l = some o := by
  induction h with
  | nil => intro l m; cases m
  | snoc h e sub ih =>
    intro l m
    rcases List.mem_append.mp m with m | m
    · exact ih l m
    · rw [List.mem_singleton.mp m]
      exact ⟨_, e⟩
theorem LL.len {f : Addr → Pt} {H : Hp} {ts ls : List Addr} {outs : List (List Pt)} (h : LL f H ts ls outs) : ls.length = outs.length := by
  induction h with
  | nil => rfl
  | snoc h _ _ ih => rw [List.length_append, List.length_append, ih]; rfl
def p__law_layers : Sp := fun vs H Q _ => ∃ (p : Addr) (ts : List Addr) (f : Addr → Pt) (outs : List (List Pt)), vs = [.ref p] ∧ Lot f H p ts ∧ ts.length < 64 ∧ Lays (ts.map f) outs ∧ ∀ q ls H', Same H H' → H q = none → H' q = some (.lst (ls.map V.ref)) → LL f H' ts ls outs → Q (.ref q) H'
set_option pp.maxSteps 300 in
theorem ok__law_layers  (D : Df K mg "_law_layers" s__law_layers ["_law_sites_so"]) (C__law_border : Cl P w K mg base CX0 "_law_border" 3 ["_law_sites_so"] (p__law_border)) (mlist : mg "list" = none) : Cl P w K mg base CX0 "_law_layers" 4 ["_law_sites_so"] (p__law_layers) := by
  refine D.cl fun f fd F => F.ok c__law_layers (fun vs H Q E h => ?_) (fun cdv A outer s H vs Q E hr h => ?_)
  · obtain ⟨p, ts, g, outs, rfl, hl, l64, hL, q⟩ := h
    rfl
  · obtain ⟨p, ts, g, outs, rfl, hl, l64, hL, q⟩ := h
    have nd := c__law_layers.nd
    have hu : _ := hu_of hr
    refine ⟨_, (pss_cons (ps_asg (pe_tupG (pa_cons (pe_callTy call_list_of (by rfl) mlist (by decide +kernel) (pa_cons (pv 0) pa_nil)) (pa_cons (pe_lstG pa_nil) pa_nil))) (pg_tup (by rfl) (pgs_cons (pg_name (i := 1) nd rfl (.inl rfl)) (pgs_cons (pg_name (i := 2) nd rfl (.inr rfl)) pgs_nil)))) (pss_cons (ps_while PassesOwn.never (pt_cmpR (op_neD hr.units) (pv 1) (pe_lstG pa_nil) (nomark _)) (pss_cons (ps_expr (pe_bm PySem.F.plainAttrs_list PySem.F.slot_list_append PySem.F.type_list_append mt_append (pv 2) (pa_cons (pe_cl C__law_border (hr.mono (by decide)) (by rfl) pass0 (pa_cons (pv 1) pa_nil)) pa_nil))) (pss_one (ps_setLc (i := 1) (own := [("_law_spot", 3)]) (g := (gName 3))  rfl nd rfl rfl (sw_true rfl rfl rfl (by decide +kernel)) (pi_list (pv 1)) (blkOk_by (own := [("_law_spot", 3)]) (N := n__law_layers) (sc := defScope s__law_layers) (by decide +kernel)) (fun _ _ _ _ _ => by exact (pg_name (i := 3) nd rfl (.inl rfl))) (fun _ _ _ _ _ => by exact (pts_one (pt_cmpR (r := rNotInD K) (by exact op_notInD (u65 hr)) (pv 3) (pe_ix (r := rIxL K) (by exact ix_list) (pv 2) pe_neg (fun _ _ => rfl)) rfl))) (fun _ _ _ _ _ => by exact (pv 3)))))) (pss_one (ps_ret (pv 2))))), ?_⟩
    repeat array_get_dec
    refine ⟨p, ts.map V.ref, rfl, .inl (SqL.of hl.at_), fun a nA => ?_⟩
    repeat array_get_dec
    refine fun b Hb sb nb eb => ?_
    repeat array_get_dec
    refine fun t Ht st nt et => ?_
    repeat array_get_dec
    have b_ne : H b = none := (Same.upd nA (o := .lst (ts.map V.ref))).free nb
    have e0 : Hb a = some (.lst (ts.map V.ref)) := sb _ _ upd_same
    have sB : Same H Hb := (Same.upd nA).trans sb
    have ab : a ≠ b := ne_of_none upd_same nb
    show tSeq _ _ _ [some (.ref p), some (.ref a), some (.ref b), none] Ht
    refine while_by (fun σ' H' => ∃ (r : Addr) (rs ls : List Addr) (o1 o2 : List (List Pt)) (y : Option V), σ' = [some (.ref p), some (.ref r), some (.ref b), y] ∧ Same H H' ∧ r ≠ b ∧ H' r = some (.lst (rs.map V.ref)) ∧ H' b = some (.lst (ls.map V.ref)) ∧ (∀ u ∈ rs, u ∈ ts) ∧ (rs.map g).Nodup ∧ LL g H' ts ls o1 ∧ b ∉ ls ∧ Lays (rs.map g) o2 ∧ o1 ++ o2 = outs)
      (fun σ' H' => match σ' with
        | [_, some (.ref r), _, _] => (match H' r with
          | some (.lst xs) => xs.length
          | _ => 0)
        | _ => 0) ⟨a, ts, [], [], outs, none, rfl, sB.trans st, ab, st _ _ e0, st _ _ eb, fun u m => m, hl.nod, .nil, List.not_mem_nil, hL, rfl⟩ ?_ ?_
    · rintro _ H1 ⟨r, rs, ls, o1, o2, y, rfl, s1, rb, er, el, sub, nod, hLL, bl, lay, eo⟩
      have lr : (rs.map V.ref).length = rs.length := List.length_map _
      have sit1 : SitF g H1 rs := fun u m => ⟨s1 _ _ (hl.sit u (sub u m)).1, (hl.sit u (sub u m)).2⟩
      repeat array_get_dec
      refine fun e1 H2 s2 n2 c2 => ?_
      repeat array_get_dec
      refine w_neSs (f := g) (g := g) (us := []) (s2 _ _ er) (fun u m => s2 _ _ (sit1 u m).1) c2 (fun u m => absurd m List.not_mem_nil) ?_
      refine ⟨_, rfl, ?_⟩
      have S2 := s1.trans s2
      have er2 := s2 _ _ er
      have eb2 := s2 _ _ el
      cases rs with
      | nil =>
        cases lay with
        | step pm e _ _ =>
          rw [List.perm_nil.mp pm] at e
          cases e.h0
        | nil =>
          rw [List.append_nil] at eo
          subst eo
          repeat array_get_dec
          exact q b ls H2 S2 b_ne eb2 (hLL.keep fun l m o e => s2 _ _ e)
      | cons r0 rs =>
        repeat array_get_dec
        refine ⟨.inl ⟨rfl, _, SqL.of eb2⟩, ?_⟩
        repeat array_get_dec
        have nonl : (r0 :: rs).map g ≠ [] := List.cons_ne_nil _ _
        generalize hrr : r0 :: rs = rr at er sub nod lay lr sit1 er2 nonl
        have posr : 0 < rr.length := by rw [← hrr]; exact Nat.succ_pos _
        clear hrr
        have lenr : rr.length ≤ ts.length := by
          have z := sub_len nod (m := ts.map g) fun x hx => by
            obtain ⟨u, m, rfl⟩ := List.mem_map.mp hx
            exact List.mem_map_of_mem (sub u m)
          simpa using z
        generalize hll : rr.map g = ll at lay nonl
        cases lay with
        | nil => exact absurd rfl nonl
        | @step _ rows out outs2 p0 q0 pm e hb rest =>
        subst hll
        obtain ⟨rs', pr, erow⟩ := lift_perm pm.symm rr rfl
        subst erow
        have hl2 : Lot g H2 r rr := ⟨er2, posr, Nat.lt_of_le_of_lt lenr hl.few, sit1.same s2, nod⟩
        refine ⟨r, rr, rs', g, p0, q0, out, rfl, hl2, by omega, pr, e, hb, fun us c H3 s3 n3 e3 eo3 sub3 => ?_⟩
        subst eo3
        repeat array_get_dec
        have eb3 := s3 _ _ eb2
        have shortl : ls.length < 64 := by
          have z := hL.len
          rw [← eo, List.length_append, List.length_map, ← hLL.len] at z
          omega
        refine ⟨b, ls.map V.ref, .ref c, rfl, rfl, eb3, by rw [List.length_map]; exact Nat.lt_trans shortl (by decide), ?_⟩
        have cb : c ≠ b := fun z => by rw [z, eb2] at n3; cases n3
        have rc : r ≠ c := ne_of_none er2 n3
        generalize hH4 : upd H3 b (.lst (ls.map V.ref ++ [.ref c])) = H4
        have keep4 : ∀ x o, x ≠ b → H3 x = some o → H4 x = some o := fun x o hx ho => by rw [← hH4, upd_ne hx]; exact ho
        have eb4 : H4 b = some (.lst ((ls ++ [c]).map V.ref)) := by rw [← hH4, upd_same, List.map_append]; rfl
        have er4 : H4 r = some (.lst (rr.map V.ref)) := keep4 _ _ rb (s3 _ _ er2)
        have ec4 : H4 c = some (.lst (us.map V.ref)) := keep4 _ _ cb e3
        have S4 : Same H H4 := fun x o ho => keep4 _ _ (fun z => by rw [z, b_ne] at ho; cases ho) ((S2.trans s3) _ _ ho)
        have hLL4 : LL g H4 ts (ls ++ [c]) (o1 ++ [us.map g]) := .snoc (hLL.keep fun l m o ho => keep4 _ _ (fun z => bl (z ▸ m)) (s3 _ _ (s2 _ _ ho))) ec4 fun u m => sub u (sub3 u m)
        repeat array_get_dec
        refine ⟨⟨_, SqL.of er4⟩, fun D nD => ?_⟩
        refine lc_fil (walk_list (xs := rr.map V.ref)) nD (by rw [List.length_map]; omega) (fun H5 s5 => SqL.of (s5 _ _ er4)) (fun i => decide (g (rr.getD i r) ∉ us.map g)) (fun i => .ref (rr.getD i r)) (fun i x H5 H6 Kp Kn hi s5 eD yi fin finN => ?_) fun H5 s5 eD => ?_
        · obtain ⟨rfl, hx⟩ := yi
          obtain ⟨k, ek, rfl, mk⟩ := ref_at hx
          rw [getD_at ek] at fin finN
          have S5 := S4.trans s5
          have st5 := S5 _ _ (hl.sit k (sub k mk)).1
          repeat array_get_dec
          refine ⟨b, _, -1, _, rfl, rfl, SqL.of (s5 _ _ eb4), lastI (List.getLast?_concat), ?_⟩
          refine w_ninS (p := g k) (f := g) st5 (s5 _ _ ec4) (fun u m => S5 _ _ (hl.sit u (sub u (sub3 u m))).1) ?_
          refine ⟨_, rfl, ?_⟩
          by_cases c1 : g k ∈ us.map g
          · rw [decide_eq_true c1]
            exact finN _ (by rw [decide_eq_false (fun z => z c1)]) (Same.refl _)
          · rw [decide_eq_false c1]
            repeat array_get_dec
            exact fin _ (decide_eq_true c1) (Same.refl _)
        · have eD2 : H5 D = some (.lst ((rr.filter fun u => decide (g u ∉ us.map g)).map V.ref)) := by
            rw [eD, List.length_map, ← range_filter rr r fun u => decide (g u ∉ us.map g), List.map_map]
            rfl
          have S5 := S4.trans s5
          have bD : b ≠ D := ne_of_none eb4 nD
          have memp : p0 ∈ us.map g := List.mem_of_head? (brd_head e hb)
          have lt : (rr.filter fun u => decide (g u ∉ us.map g)).length < rr.length := by
            obtain ⟨u0, m0, e0⟩ := List.mem_map.mp (pm.mem_iff.mp (List.mem_of_head? e.h0))
            refine Nat.lt_of_le_of_ne (List.length_filter_le _ _) fun z => ?_
            have all := List.length_filter_eq_length_iff.mp z u0 m0
            rw [e0] at all
            exact of_decide_eq_true all memp
          rw [List.filter_map] at rest
          repeat array_get_dec
          refine ⟨⟨D, rr.filter fun u => decide (g u ∉ us.map g), ls ++ [c], o1 ++ [us.map g], outs2, y, rfl, S5, bD.symm, eD2, s5 _ _ eb4, fun u m => sub u (List.mem_filter.mp m).1, ?_, hLL4.keep fun l m o ho => s5 _ _ ho, ?_, rest, by rw [List.append_assoc]; exact eo⟩, ?_⟩
          · exact List.Sublist.nodup (List.Sublist.map g List.filter_sublist) nod
          · intro m
            rcases List.mem_append.mp m with m | m
            · exact bl m
            · exact cb (List.mem_singleton.mp m).symm
          · show (match H5 D with
              | some (.lst xs) => xs.length
              | _ => 0) < (match H1 r with
              | some (.lst xs) => xs.length
              | _ => 0)
            rw [eD2, er]
            show ((rr.filter fun u => decide (g u ∉ us.map g)).map V.ref).length < (rr.map V.ref).length
            rw [List.length_map, List.length_map]
            exact lt
    · rintro σ H1 Q1 Q2 hq ⟨x, hx, z1, z2⟩
      refine ⟨x, hx, z1, fun p2 H3 w1 w2 w3 => ?_⟩
      obtain ⟨d1, d2, h1, h2, h3, h4, k, ek, zz⟩ := z2 p2 H3 w1 w2 w3
      exact ⟨d1, d2, h1, h2, h3, h4, k, ek, hq _ _ zz⟩
end
/-! ### k07: every list of unlike pairs has layers -/
section
theorem sorted_ex {l : List Pt} (n : l.Nodup) : ∃ rows : List Pt, rows.Perm l ∧ rows.Pairwise lt2 := by
  have pm := List.mergeSort_perm l (fun a b => decide (lexLe a b))
  have so := List.pairwise_mergeSort (le := fun a b : Pt => decide (lexLe a b)) (fun a b c h k => by
    simp only [decide_eq_true_eq] at h k ⊢
    unfold lexLe at *
    omega) (fun a b => by
    simp only [Bool.or_eq_true, decide_eq_true_eq]
    unfold lexLe
    omega) l
  refine ⟨_, pm, ?_⟩
  have nd := pm.nodup_iff.mpr n
  exact (so.and nd).imp fun h => lt2_of (of_decide_eq_true h.1) h.2
theorem ends_ex {rows : List Pt} (h : rows ≠ []) (so : rows.Pairwise lt2) : ∃ p0 q, Ends2 rows p0 q := by
  obtain ⟨p0, e⟩ : ∃ p0, rows.head? = some p0 := by
    cases rows with
    | nil => exact absurd rfl h
    | cons a r => exact ⟨a, rfl⟩
  exact ⟨p0, rows.getLast h, so, e, List.getLast?_eq_some_getLast h⟩
theorem brd_ex (p0 q : Pt) (rows : List Pt) : ∃ out, Brd p0 q rows out := by
  by_cases r : Row rows
  · exact ⟨rows, fun _ => rfl, fun z => absurd r z⟩
  · exact ⟨bordN p0 q rows, fun z => absurd z r, fun _ => rfl⟩
theorem lays_ex : ∀ (n : Nat) {l : List Pt}, l.length ≤ n → l.Nodup → ∃ outs, Lays l outs
  | 0, l, le, _ => by
    rw [List.eq_nil_of_length_eq_zero (Nat.le_zero.mp le)]
    exact ⟨[], .nil⟩
  | n + 1, l, le, nd => by
    by_cases c : l = []
    · rw [c]
      exact ⟨[], .nil⟩
    obtain ⟨rows, pm, so⟩ := sorted_ex nd
    obtain ⟨p0, q, e⟩ := ends_ex (fun z => c (by rw [z] at pm; exact List.nil_perm.mp pm)) so
    obtain ⟨out, hb⟩ := brd_ex p0 q rows
    have ml : p0 ∈ l := pm.mem_iff.mp (List.mem_of_head? e.h0)
    have mo : p0 ∈ out := List.mem_of_head? (brd_head e hb)
    have lt : (l.filter fun x => decide (x ∉ out)).length < l.length := by
      refine Nat.lt_of_le_of_ne (List.length_filter_le _ _) fun z => ?_
      have all := List.length_filter_eq_length_iff.mp z p0 ml
      exact of_decide_eq_true all mo
    obtain ⟨outs, hL⟩ := lays_ex n (l := l.filter fun x => decide (x ∉ out)) (by omega) (nd.sublist List.filter_sublist)
    exact ⟨out :: outs, .step pm e hb hL⟩
end
/-! ### k07: the layer of a site, given the layers -/
section
variable {P : Program} {w : World} {K : PySem.W.Frag} {mg : Str → Option Value} {base : Heap}
def p_layers : Sp := fun vs H Q _ => ∃ (p : Addr) (ts : List Addr) (f : Addr → Pt) (outs : List (List Pt)), vs = [.ref p] ∧ Lot f H p ts ∧ Lays (ts.map f) outs ∧ ∀ q ls H', Same H H' → H q = none → H' q = some (.lst (ls.map V.ref)) → LL f H' ts ls outs → (∀ l ∈ ls, H l = none) → Q (.ref q) H'
theorem Lays.all {l : List Pt} {outs : List (List Pt)} (h : Lays l outs) : ∀ x ∈ l, ∃ o ∈ outs, x ∈ o := by
  induction h with
  | nil => intro x m; cases m
  | @step l rows out outs p0 q pm e hb _ ih =>
    intro x m
    by_cases c : x ∈ out
    · exact ⟨out, List.mem_cons_self, c⟩
    · obtain ⟨o, mo, mx⟩ := ih x (List.mem_filter.mpr ⟨m, decide_eq_true c⟩)
      exact ⟨o, List.mem_cons_of_mem _ mo, mx⟩
theorem LL.get {f : Addr → Pt} {H : Hp} {ts ls : List Addr} {outs : List (List Pt)} (h : LL f H ts ls outs) : ∀ (i : Nat) (l : Addr), ls[i]? = Option.some l → ∃ us : List Addr, H l = Option.some (.lst (us.map V.ref)) ∧ outs[i]? = Option.some (us.map f) ∧ ∀ u ∈ us, u ∈ ts := by
  induction h with
  | nil => intro i l e; cases e
  | @snoc ls outs l us h e sub ih =>
    intro i k ei
    have len := h.len
    rcases Nat.lt_or_ge i ls.length with lt | ge
    · rw [List.getElem?_append_left lt] at ei
      rw [List.getElem?_append_left (by omega)]
      exact ih i k ei
    · rw [List.getElem?_append_right ge] at ei
      rw [List.getElem?_append_right (by omega), ← len]
      cases hz : i - ls.length with
      | zero =>
        rw [hz] at ei
        cases ei
        exact ⟨us, e, rfl, sub⟩
      | succ n =>
        rw [hz] at ei
        cases ei
abbrev s_layer_of : Stmt := topS 19
abbrev n_layer_of : List Str := ["sites", "site", "told", "layer"]
theorem c_layer_of : FnScope n_layer_of ["sites", "site"] (defScope s_layer_of) := ⟨rfl, rfl, rfl, by decide +kernel, rfl, by decide +kernel, by decide +kernel⟩
def p_layer_of : Sp := fun vs H Q _ => ∃ (p t : Addr) (x y : Int) (ts : List Addr) (f : Addr → Pt) (outs : List (List Pt)) (j : Nat), vs = [.ref p, .ref t] ∧ Lot f H p ts ∧ Lays (ts.map f) outs ∧ Sit H t x y ∧ Bd 1000000 x y ∧ (x, y) ∈ ts.map f ∧ (outs.map fun o => decide ((x, y) ∈ o))[j]? = some true ∧ (∀ m, m < j → (outs.map fun o => decide ((x, y) ∈ o))[m]? = some false) ∧ ∀ H', Same H H' → Q (.int (j : Nat)) H'
set_option pp.maxSteps 300 in
theorem ok_layer_of  (D : Df K mg "layer_of" s_layer_of ["sites", "site"]) (C_check_member : Cl P w K mg base CX0 "check_member" 2 ["value", "sites", "name"] (p_check_member)) (C_layers : Cl P w K mg base CX0 "layers" 3 ["sites"] (p_layers)) : Cl P w K mg base CX0 "layer_of" 4 ["sites", "site"] (p_layer_of) := by
  refine D.cl fun f fd F => F.ok c_layer_of (fun vs H Q E h => ?_) (fun cdv A outer s H vs Q E hr h => ?_)
  · obtain ⟨p, t, x, y, ts, g, outs, j, rfl, hl, hL, st, hb, mem, ej, before, q⟩ := h
    rfl
  · obtain ⟨p, t, x, y, ts, g, outs, j, rfl, hl, hL, st, hb, mem, ej, before, q⟩ := h
    have nd := c_layer_of.nd
    have hu : _ := hu_of hr
    refine ⟨_, (pss_cons (ps_set (i := 2) nd rfl (.inl rfl) (pe_cl C_layers (hr.mono (by decide)) (by rfl) pass0 (pa_cons (pv 0) pa_nil))) (pss_cons (ps_expr (pe_cl C_check_member (hr.mono (by decide)) (by rfl) pass0 (pa_cons (pv 1) (pa_cons (pv 0) (pa_cons pe_str pa_nil))))) (pss_one (ps_ret (pe_bm PySem.F.plainAttrs_list PySem.F.slot_list_index PySem.F.type_list_index mt_index (pe_lc (own := [("layer", 3)]) (g := (gName 3)) (tt := tYes)  rfl nd (pi_list (pv 2)) (blkOk_by (own := [("layer", 3)]) (N := n_layer_of) (sc := defScope s_layer_of) (by decide +kernel)) (fun _ _ _ _ _ => by exact (pg_name (i := 3) nd rfl (.inl rfl))) (fun _ _ _ _ _ => by exact pts_nil) (fun _ _ _ _ _ => by exact (pe_cmpR (r := rInD K) (by exact op_inD (u65 hr)) (pv 1) (pv 3) rfl))) (pa_cons pe_bl pa_nil)))))), ?_⟩
    repeat array_get_dec
    refine ⟨p, ts, g, outs, rfl, hl, hL, fun a ls H1 s1 n1 e1 hLL _ => ?_⟩
    repeat array_get_dec
    refine ⟨t, p, x, y, _, ts, g, rfl, s1 _ _ st, hb, s1 _ _ hl.at_, hl.sit.same s1, mem, ?_⟩
    repeat array_get_dec
    refine ⟨⟨_, SqL.of e1⟩, fun D nD => ?_⟩
    have few : ls.length ≤ 200 := by
      have z := hL.len
      have f2 := hl.few
      rw [List.length_map, ← hLL.len] at z
      omega
    refine lc_val (walk_list (xs := ls.map V.ref)) nD (by rw [List.length_map]; omega) (fun H6 s6 => SqL.of (s6 _ _ e1)) (outs.map fun o => V.bl (decide ((x, y) ∈ o))) (by rw [List.length_map, List.length_map, hLL.len]) (fun i yv v H6 H7 Kp' hy s6 eD2 yi fin' => ?_) fun H6 s6 eD => ?_
    · obtain ⟨rfl, hx⟩ := yi
      obtain ⟨l, el, rfl, ml⟩ := ref_at hx
      obtain ⟨us, eu, eo, sub⟩ := hLL.get i l el
      rw [List.getElem?_map, eo] at hy
      cases hy
      have S6 := s1.trans s6
      repeat array_get_dec
      refine w_inS (p := (x, y)) (f := g) (S6 _ _ st) (s6 _ _ eu) (fun u m => S6 _ _ (hl.sit u (sub u m)).1) ?_
      exact fin' _ (Same.refl _)
    · repeat array_get_dec
      refine ⟨.inl ⟨rfl, _, SqL.of eD⟩, ?_⟩
      repeat array_get_dec
      have em : (outs.map fun o => V.bl (decide ((x, y) ∈ o))) = (outs.map fun o => decide ((x, y) ∈ o)).map V.bl := by rw [List.map_map]; rfl
      rw [em] at eD
      refine ⟨D, _, .bl true, j, .bl true, rfl, rfl, SqL.of eD, rfl, ?_, ?_, rfl, fun m z lt ez => ?_, q _ (s1.trans s6)⟩
      · rw [List.all_eq_true]
        intro z mz
        obtain ⟨c, _, rfl⟩ := List.mem_map.mp mz
        rfl
      · rw [List.getElem?_map, ej]
        rfl
      · rw [List.getElem?_map, before m lt] at ez
        cases ez
        rfl
end
/-! ### k07: layers, as the program takes them -/
section
variable {P : Program} {w : World} {K : PySem.W.Frag} {mg : Str → Option Value} {base : Heap}
abbrev s_layers : Stmt := topS 18
abbrev n_layers : List Str := ["sites", "rows", "told", "layer", "gone", "site"]
theorem c_layers : FnScope n_layers ["sites"] (defScope s_layers) := ⟨rfl, rfl, rfl, by decide +kernel, rfl, by decide +kernel, by decide +kernel⟩
theorem hl_sit {f : Addr → Pt} {H : Hp} {t : Addr} (h : Sit H t (f t).1 (f t).2) : H t = some (.tup ([Sum.inl (f t).1, Sum.inl (f t).2].map kV)) := h
theorem pt_key {p q : Pt} : ([Sum.inl p.1, Sum.inl p.2] : List L2.Key) = [Sum.inl q.1, Sum.inl q.2] ↔ p = q := by
  constructor
  · intro h
    injection h with h1 h2
    injection h2 with h2
    injection h1 with h1
    injection h2 with h2
    exact Prod.ext h1 h2
  · rintro rfl
    rfl
set_option pp.maxSteps 300 in
theorem ok_layers  (D : Df K mg "layers" s_layers ["sites"]) (C_ascending : Cl P w K mg base CX0 "ascending" 2 ["sites"] (p_ascending)) (C_border_of : Cl P w K mg base CX0 "border_of" 2 ["rows"] (p_border_of)) (mlen : mg "len" = none) : Cl P w K mg base CX0 "layers" 3 ["sites"] (p_layers) := by
  refine D.cl fun f fd F => F.ok c_layers (fun vs H Q E h => ?_) (fun cdv A outer s H vs Q E hr h => ?_)
  · obtain ⟨p, ts, g, outs, rfl, hl, hL, q⟩ := h
    rfl
  · obtain ⟨p, ts, g, outs, rfl, hl, hL, q⟩ := h
    have nd := c_layers.nd
    have hu : _ := hu_of hr
    refine ⟨_, (pss_cons (ps_set (i := 1) nd rfl (.inl rfl) (pe_cl C_ascending (hr.mono (by decide)) (by rfl) pass0 (pa_cons (pv 0) pa_nil))) (pss_cons (ps_set (i := 2) nd rfl (.inl rfl) (pe_lstG pa_nil)) (pss_cons (ps_while PassesOwn.never (pt_cmpR op_gt (pe_callB call_len_seq (by rfl) mlen (by decide +kernel) (pa_cons (pv 1) pa_nil)) pe_int (nomark _)) (pss_cons (ps_set (i := 3) nd rfl (.inl rfl) (pe_cl C_border_of (hr.mono (by decide)) (by rfl) pass0 (pa_cons (pv 1) pa_nil))) (pss_cons (ps_set (i := 4) nd rfl (.inr rfl) (pe_dcT (own := [("site", 5)]) (g := (gName 5)) (tt := tYes) rfl (Nat.lt_of_le_of_lt (Nat.le_add_right _ _) hr.units) nd (pi_list (pv 3)) (blkOk_by (own := [("site", 5)]) (N := n_layers) (sc := defScope s_layers) (by decide +kernel)) (fun _ _ _ _ _ => by exact (pg_name (i := 5) nd rfl (.inl rfl))) (fun _ _ _ _ _ => by exact pts_nil) (fun _ _ _ _ _ => by exact (pv 5)) (fun _ _ _ _ _ => by exact pe_bl))) (pss_cons (ps_setLc (i := 1) (own := [("site", 5)]) (g := (gName 5))  rfl nd rfl rfl (sw_true rfl rfl rfl (by decide +kernel)) (pi_list (pv 1)) (blkOk_by (own := [("site", 5)]) (N := n_layers) (sc := defScope s_layers) (by decide +kernel)) (fun _ _ _ _ _ => by exact (pg_name (i := 5) nd rfl (.inl rfl))) (fun _ _ _ _ _ => by exact (pts_one (pt_cmp (pc_dnotin hu (pv 5) (pv 4))))) (fun _ _ _ _ _ => by exact (pv 5))) (pss_one (ps_expr (pe_bm PySem.F.plainAttrs_list PySem.F.slot_list_append PySem.F.type_list_append mt_append (pv 2) (pa_cons (pv 3) pa_nil)))))))) (pss_one (ps_ret (pv 2)))))), ?_⟩
    repeat array_get_dec
    refine ⟨p, ts, g, rfl, hl, fun us a H1 pm1 so1 s1 n1 hl1 => ?_⟩
    repeat array_get_dec
    refine fun b H2 s2 n2 e2 => ?_
    repeat array_get_dec
    have b_ne : H b = none := s1.free n2
    have ab : a ≠ b := ne_of_none hl1.at_ n2
    have sub0 : ∀ u ∈ us, u ∈ ts := fun u m => pm1.mem_iff.mp m
    show tSeq _ _ _ [some (.ref p), some (.ref a), some (.ref b), none, none, none] H2
    refine while_by (fun σ' H' => ∃ (r : Addr) (rs ls : List Addr) (o1 o2 : List (List Pt)) (y z w : Option V), σ' = [some (.ref p), some (.ref r), some (.ref b), y, z, w] ∧ Same H H' ∧ r ≠ b ∧ H' r = some (.lst (rs.map V.ref)) ∧ H' b = some (.lst (ls.map V.ref)) ∧ (∀ u ∈ rs, u ∈ ts) ∧ (rs.map g).Pairwise lt2 ∧ LL g H' ts ls o1 ∧ b ∉ ls ∧ (∀ l ∈ ls, H l = none) ∧ Lays (rs.map g) o2 ∧ o1 ++ o2 = outs)
      (fun σ' H' => match σ' with
        | [_, some (.ref r), _, _, _, _] => (match H' r with
          | some (.lst xs) => xs.length
          | _ => 0)
        | _ => 0) ⟨a, us, [], [], outs, none, none, none, rfl, s1.trans s2, ab, s2 _ _ hl1.at_, e2, sub0, so1, .nil, List.not_mem_nil, fun l m => absurd m List.not_mem_nil, hL.perm (pm1.map g).symm, rfl⟩ ?_ ?_
    · rintro _ H3 ⟨r, rs, ls, o1, o2, y, z, w, rfl, s3, rb, er, el, sub, so, hLL, bl, fresh, lay, eo⟩
      have lr : (rs.map V.ref).length = rs.length := List.length_map _
      have sit3 : SitF g H3 rs := fun u m => ⟨s3 _ _ (hl.sit u (sub u m)).1, (hl.sit u (sub u m)).2⟩
      have nod : (rs.map g).Nodup := List.Pairwise.imp (S := fun a b : Pt => a ≠ b) (fun {a b} h e => by subst e; exact lt2_irr h) so
      repeat array_get_dec
      cases rs with
      | nil =>
        cases lay with
        | step pm e _ _ =>
          rw [List.perm_nil.mp pm] at e
          cases e.h0
        | nil =>
          rw [List.append_nil] at eo
          subst eo
          repeat array_get_dec
          exact q b ls H3 s3 b_ne el hLL fresh
      | cons r0 rs =>
        have lp : (r0 :: rs).length = rs.length + 1 := rfl
        repeat array_get_dec
        have nonl : (r0 :: rs).map g ≠ [] := List.cons_ne_nil _ _
        generalize hrr : r0 :: rs = rr at er sub nod so lay lr sit3 nonl
        have posr : 0 < rr.length := by rw [← hrr]; exact Nat.succ_pos _
        clear hrr
        have lenr : rr.length ≤ ts.length := by
          have z := sub_len nod (m := ts.map g) fun x hx => by
            obtain ⟨u, m, rfl⟩ := List.mem_map.mp hx
            exact List.mem_map_of_mem (sub u m)
          simpa using z
        generalize hll : rr.map g = ll at lay nonl
        cases lay with
        | nil => exact absurd rfl nonl
        | @step _ rows out outs2 p0 q0 pm e hb rest =>
        subst hll
        have erow : rows = rr.map g := srt_uniq2 pm e.so so
        subst erow
        have hl3 : Lot g H3 r rr := ⟨er, posr, Nat.lt_of_le_of_lt lenr hl.few, sit3, nod⟩
        refine ⟨r, rr, g, p0, q0, out, rfl, hl3, e, hb, fun vs c H4 s4 n4 e4 eo4 sub4 => ?_⟩
        subst eo4
        repeat array_get_dec
        have S4 := s3.trans s4
        have lv : (vs.map V.ref).length = vs.length := List.length_map _
        have sit4 : ∀ u ∈ vs, Sit H4 u (g u).1 (g u).2 := fun u m => s4 _ _ (sit3 u (sub4 u m)).1
        have few4 : vs.length ≤ 100000 := by
          have hn : (vs.map g).Nodup := by
            by_cases rw : Row (rr.map g)
            · rw [hb.1 rw]; exact nod
            · rw [hb.2 rw]
              obtain ⟨mid, eB, ring⟩ := ringB_of e.so e.h0 e.hq rw
              rw [eB]
              exact ring_nodup (R := Nxt (rr.map g)) (fun _ _ _ => nxt_uniq ring.nr) mid p0 ring.pr ring.n0
          have z := sub_len hn (m := rr.map g) fun x hx => by
            obtain ⟨u, m, rfl⟩ := List.mem_map.mp hx
            exact List.mem_map_of_mem (sub4 u m)
          have := hl.few
          simp only [List.length_map] at z
          omega
        refine ⟨⟨_, SqL.of e4⟩, fun D nD => ?_⟩
        refine dct_of (walk_list (xs := vs.map V.ref)) nD (by rw [lv]; exact few4) (fun H5 s5 => SqL.of (s5 _ _ e4)) (fun i => [Sum.inl (g (vs.getD i p)).1, Sum.inl (g (vs.getD i p)).2]) (fun _ => .bl true) (fun i x H5 H6 Kp Kn hi s5 yi fin => ?_) fun H5 s5 eD => ?_
        · obtain ⟨rfl, hx⟩ := yi
          obtain ⟨k, ek, rfl, mk⟩ := ref_at hx
          rw [getD_at ek] at fin
          repeat array_get_dec
          exact fin k _ (Same.refl _) (hl_sit (s5 _ _ (sit4 k mk)))
        · rw [lv] at eD
          have has : ∀ u, (valV (dOf (fun i => [Sum.inl (g (vs.getD i p)).1, Sum.inl (g (vs.getD i p)).2]) (fun _ => .bl true) vs.length) [Sum.inl (g u).1, Sum.inl (g u).2]).isSome = decide (g u ∈ vs.map g) := fun u => by
            rw [Bool.eq_iff_iff, dOf_has, decide_eq_true_iff]
            constructor
            · rintro ⟨i, hi, ei⟩
              have z := pt_key.mp ei
              rw [← z]
              have ev : vs[i]? = some vs[i] := List.getElem?_eq_getElem hi
              rw [getD_at ev]
              exact List.mem_map_of_mem (List.getElem_mem hi)
            · intro m
              obtain ⟨v, mv, ev⟩ := List.mem_map.mp m
              obtain ⟨i, hi, rfl⟩ := List.getElem_of_mem mv
              refine ⟨i, hi, ?_⟩
              rw [getD_at (List.getElem?_eq_getElem hi), ev]
          generalize hdd : dOf (fun i => [Sum.inl (g (vs.getD i p)).1, Sum.inl (g (vs.getD i p)).2]) (fun _ => .bl true) vs.length = dd at eD has
          clear hdd
          have S5 := S4.trans s5
          have er5 := (s4.trans s5) _ _ er
          have el5 := (s4.trans s5) _ _ el
          repeat array_get_dec
          refine ⟨⟨_, SqL.of er5⟩, fun D2 nD2 => ?_⟩
          refine lc_fil (walk_list (xs := rr.map V.ref)) nD2 (by rw [lr]; have := hl.few; omega) (fun H6 s6 => SqL.of (s6 _ _ er5)) (fun i => decide (g (rr.getD i r) ∉ vs.map g)) (fun i => .ref (rr.getD i r)) (fun i x H6 H7 Kp Kn hi s6 eD2 yi fin finN => ?_) fun H6 s6 eD2 => ?_
          · obtain ⟨rfl, hx⟩ := yi
            obtain ⟨k, ek, rfl, mk⟩ := ref_at hx
            rw [getD_at ek] at fin finN
            have S6 := S5.trans s6
            have st6 := S6 _ _ (hl.sit k (sub k mk)).1
            repeat array_get_dec
            refine ⟨D, _, rfl, DGet.t (s6 _ _ eD) (hl_sit st6), ?_⟩
            rw [has]
            refine ⟨_, rfl, ?_⟩
            by_cases c1 : g k ∈ vs.map g
            · rw [decide_eq_true c1]
              exact finN _ (by rw [decide_eq_false (fun z => z c1)]) (Same.refl _)
            · rw [decide_eq_false c1]
              repeat array_get_dec
              exact fin _ (decide_eq_true c1) (Same.refl _)
          · have eD3 : H6 D2 = some (.lst ((rr.filter fun u => decide (g u ∉ vs.map g)).map V.ref)) := by
              rw [eD2, lr, ← range_filter rr r fun u => decide (g u ∉ vs.map g), List.map_map]
              rfl
            have el6 := s6 _ _ el5
            have S6 := S5.trans s6
            repeat array_get_dec
            refine ⟨.inl ⟨rfl, _, SqL.of el6⟩, ?_⟩
            repeat array_get_dec
            have shortl : ls.length < 201 := by
              have z := hL.len
              have := hl.few
              rw [← eo, List.length_append, List.length_map, ← hLL.len] at z
              omega
            refine ⟨b, ls.map V.ref, .ref c, rfl, rfl, el6, by rw [List.length_map]; exact Nat.lt_trans shortl (by decide), ?_⟩
            have cb : c ≠ b := fun z => by rw [z, el] at n4; cases n4
            have bD : b ≠ D2 := ne_of_none el5 nD2
            generalize hH7 : upd H6 b (.lst (ls.map V.ref ++ [.ref c])) = H7
            have keep : ∀ x o, x ≠ b → H6 x = some o → H7 x = some o := fun x o hx ho => by rw [← hH7, upd_ne hx]; exact ho
            have eb7 : H7 b = some (.lst ((ls ++ [c]).map V.ref)) := by rw [← hH7, upd_same, List.map_append]; rfl
            have ec7 : H7 c = some (.lst (vs.map V.ref)) := keep _ _ cb (s6 _ _ (s5 _ _ e4))
            have S7 : Same H H7 := fun x o ho => keep _ _ (fun z => by rw [z, b_ne] at ho; cases ho) (S6 _ _ ho)
            have hLL7 : LL g H7 ts (ls ++ [c]) (o1 ++ [vs.map g]) := .snoc (hLL.keep fun l m o ho => keep _ _ (fun z => bl (z ▸ m)) (s6 _ _ (s5 _ _ (s4 _ _ ho)))) ec7 fun u m => sub u (sub4 u m)
            have memp : p0 ∈ vs.map g := List.mem_of_head? (brd_head e hb)
            have lt : (rr.filter fun u => decide (g u ∉ vs.map g)).length < rr.length := by
              obtain ⟨u0, m0, e0⟩ := List.mem_map.mp (List.mem_of_head? e.h0)
              refine Nat.lt_of_le_of_ne (List.length_filter_le _ _) fun z => ?_
              have all := List.length_filter_eq_length_iff.mp z u0 m0
              rw [e0] at all
              exact of_decide_eq_true all memp
            rw [List.filter_map] at rest
            refine ⟨⟨D2, rr.filter fun u => decide (g u ∉ vs.map g), ls ++ [c], o1 ++ [vs.map g], outs2, _, _, _, rfl, S7, bD.symm, keep _ _ bD.symm eD3, eb7, fun u m => sub u (List.mem_filter.mp m).1, ?_, hLL7, ?_, ?_, rest, by rw [List.append_assoc]; exact eo⟩, ?_⟩
            · exact List.Pairwise.sublist (List.Sublist.map g List.filter_sublist) so
            · intro m
              rcases List.mem_append.mp m with m | m
              · exact bl m
              · exact cb (List.mem_singleton.mp m).symm
            · intro l m
              rcases List.mem_append.mp m with m | m
              · exact fresh l m
              · rw [List.mem_singleton.mp m]
                exact s3.free n4
            · show (match H7 D2 with
                | some (.lst xs) => xs.length
                | _ => 0) < (match H3 r with
                | some (.lst xs) => xs.length
                | _ => 0)
              rw [keep _ _ bD.symm eD3, er]
              show ((rr.filter fun u => decide (g u ∉ vs.map g)).map V.ref).length < (rr.map V.ref).length
              rw [List.length_map, List.length_map]
              exact lt
    · rintro σ H1 Q1 Q2 hq ⟨x, hx, z1, ys, e1, o1, i, j, e2, e3, k, ek, zz⟩
      exact ⟨x, hx, z1, ys, e1, o1, i, j, e2, e3, k, ek, hq _ _ zz⟩
end
/-! ### what a place sees of a ring -/
def sds {α : Type} (l : List α) : List (α × α) := l.zip (l.drop 1)
theorem sds_cons {α : Type} (a b : α) (r : List α) : sds (a :: b :: r) = (a, b) :: sds (b :: r) := rfl
theorem sds_one {α : Type} (a : α) : sds [a] = [] := rfl
theorem sds_app {α : Type} : ∀ (l : List α) (q : α) (r : List α), sds (l ++ q :: r) = sds (l ++ [q]) ++ sds (q :: r)
  | [], q, r => rfl
  | [a], q, r => rfl
  | a :: b :: l, q, r => by
    have ih := sds_app (b :: l) q r
    rw [List.cons_append, List.cons_append, sds_cons]
    rw [List.cons_append] at ih
    rw [ih]
    rfl
theorem sds_len {α : Type} (l : List α) : (sds l).length = l.length - 1 := by
  unfold sds
  rw [List.length_zip, List.length_drop]
  omega
theorem sds_pr {R : Pt → Pt → Prop} : ∀ {l : List Pt}, Pr R l ↔ ∀ e ∈ sds l, R e.1 e.2
  | [] => ⟨fun _ e m => (by cases m), fun _ => True.intro⟩
  | [a] => ⟨fun _ e m => (by cases m), fun _ => True.intro⟩
  | a :: b :: r => by
    rw [sds_cons]
    constructor
    · rintro ⟨h, k⟩ e m
      rcases List.mem_cons.mp m with rfl | m
      · exact h
      · exact sds_pr.mp k e m
    · intro h
      exact ⟨h (a, b) List.mem_cons_self, sds_pr.mpr fun e m => h e (List.mem_cons_of_mem _ m)⟩
/-- which sides of a way have a place on the right -/
def mks (s : Pt) (l : List Pt) : List Bool := (sds l).map fun e => decide (tn e.1 e.2 s < 0)
theorem mks_cons (s a b : Pt) (r : List Pt) : mks s (a :: b :: r) = decide (tn a b s < 0) :: mks s (b :: r) := rfl
theorem mks_app (s : Pt) (l : List Pt) (q : Pt) (r : List Pt) : mks s (l ++ q :: r) = mks s (l ++ [q]) ++ mks s (q :: r) := by
  unfold mks
  rw [sds_app, List.map_append]
theorem low_off {rows : List Pt} {s : Pt} : ∀ (l : List Pt) (a b : Pt), (∀ x ∈ a :: b :: l, x ∈ rows) → Pr (Nxt rows) (a :: b :: l) → (a :: b :: l).Pairwise lt2 → lt2 s a → 0 ≤ tn a b s → mks s (b :: l) = List.replicate l.length false
  | [], a, b, _, _, _, _, _ => rfl
  | c :: l, a, b, sub, pr, so, sa, h => by
    have ab := (List.pairwise_cons.mp so).1 b (by simp)
    have so2 := (List.pairwise_cons.mp so).2
    have bc := (List.pairwise_cons.mp so2).1 c (by simp)
    have k := over_back ab bc (lt2_tr sa ab) (pr.1.1.2.2.2 c (sub c (by simp))) h
    rw [mks_cons, low_off l b c (fun x m => sub x (List.mem_cons_of_mem _ m)) pr.2 so2 (lt2_tr sa ab) k, decide_eq_false (by omega), List.length_cons]
    rfl
theorem low_mks {rows : List Pt} {s : Pt} : ∀ (l : List Pt) (a : Pt), (∀ x ∈ a :: l, x ∈ rows) → Pr (Nxt rows) (a :: l) → (a :: l).Pairwise lt2 → lt2 s a → ∃ i j, mks s (a :: l) = List.replicate i true ++ List.replicate j false
  | [], a, _, _, _, _ => ⟨0, 0, rfl⟩
  | b :: l, a, sub, pr, so, sa => by
    have ab := (List.pairwise_cons.mp so).1 b (by simp)
    rw [mks_cons]
    by_cases h : tn a b s < 0
    · obtain ⟨i, j, e⟩ := low_mks l b (fun x m => sub x (List.mem_cons_of_mem _ m)) pr.2 (List.pairwise_cons.mp so).2 (lt2_tr sa ab)
      exact ⟨i + 1, j, by rw [e, decide_eq_true h]; rfl⟩
    · exact ⟨0, l.length + 1, by rw [low_off l a b sub pr so sa (by omega), decide_eq_false h]; rfl⟩
theorem high_on {rows : List Pt} {s : Pt} : ∀ (l : List Pt) (a b : Pt), (∀ x ∈ a :: b :: l, x ∈ rows) → Pr (Nxt rows) (a :: b :: l) → (a :: b :: l).Pairwise (fun x y => lt2 y x) → (∀ x ∈ a :: b :: l, lt2 s x) → tn a b s < 0 → mks s (b :: l) = List.replicate l.length true
  | [], a, b, _, _, _, _, _ => rfl
  | c :: l, a, b, sub, pr, so, sa, h => by
    have ba := (List.pairwise_cons.mp so).1 b (by simp)
    have so2 := (List.pairwise_cons.mp so).2
    have cb := (List.pairwise_cons.mp so2).1 c (by simp)
    have k : tn b c s < 0 := by
      refine Classical.byContradiction fun n => ?_
      have z := pr.1.1.2.2.2 c (sub c (by simp))
      have e1 : tm c b a = tn a b c := by unfold tm tn; grind
      have e2 : tm c b s = tn b c s := by unfold tm tn; grind
      have e3 : tm b a s = tn a b s := by unfold tm tn; grind
      have := ax_tm.over_back cb ba (sa b (by simp)) (by rw [e1]; exact z) (by rw [e2]; omega)
      omega
    rw [mks_cons, high_on l b c (fun x m => sub x (List.mem_cons_of_mem _ m)) pr.2 so2 (fun x m => sa x (List.mem_cons_of_mem _ m)) k, decide_eq_true k, List.length_cons]
    rfl
theorem high_mks {rows : List Pt} {s : Pt} : ∀ (l : List Pt) (a : Pt), (∀ x ∈ a :: l, x ∈ rows) → Pr (Nxt rows) (a :: l) → (a :: l).Pairwise (fun x y => lt2 y x) → (∀ x ∈ a :: l, lt2 s x) → ∃ i j, mks s (a :: l) = List.replicate i false ++ List.replicate j true
  | [], a, _, _, _, _ => ⟨0, 0, rfl⟩
  | b :: l, a, sub, pr, so, sa => by
    rw [mks_cons]
    by_cases h : tn a b s < 0
    · exact ⟨0, l.length + 1, by rw [high_on l a b sub pr so sa h, decide_eq_true h]; rfl⟩
    · obtain ⟨i, j, e⟩ := high_mks l b (fun x m => sub x (List.mem_cons_of_mem _ m)) pr.2 (List.pairwise_cons.mp so).2 (fun x m => sa x (List.mem_cons_of_mem _ m))
      exact ⟨i + 1, j, by rw [e, decide_eq_false h]; rfl⟩
/-- marked at both ends: what isn't marked is one stretch -/
def Wrap (mk : List Bool) : Prop := mk.head? = some true → mk.getLast? = some true → ∃ a b d, mk = List.replicate (a + 1) true ++ List.replicate (b + 1) false ++ List.replicate (d + 1) true
theorem left_of {rows : List Pt} {p0 p1 z s : Pt} (h : Sup rows p0 p1) (k : Sup rows z p0) (l1 : lt2 p0 p1) (lz : lt2 p0 z) (m1 : tn p0 p1 s < 0) (m2 : tn z p0 s < 0) : lt2 s p0 := by
  by_cases e : s = p0
  · rw [e, (tn_end p0 p1).1] at m1
    omega
  rcases lt2_tri e with l | l
  · exact l
  · exfalso
    have := over_fore_lt l1 l lz m1 (h.2.2.2 z k.1)
    rw [tn_rot] at m2
    omega
theorem right_of {rows : List Pt} {q y z s : Pt} (h : Sup rows y q) (k : Sup rows q z) (ly : lt2 y q) (lz : lt2 z q) (sq : lt2 s q) (m1 : tn y q s < 0) (m2 : tn q z s < 0) : False := by
  have e1 := over_fore_lt (a := ng q) (b := ng z) (s := ng s) (p := ng y) (lt2_ng.mpr lz) (lt2_ng.mpr sq) (lt2_ng.mpr ly) (by rw [tn_ng]; exact m2) (by rw [tn_ng]; exact k.2.2.2 y h.1)
  rw [tn_ng] at e1
  rw [tn_rot] at m1
  omega
theorem rep_head {x y : Bool} {i j : Nat} (h : (List.replicate i x ++ List.replicate j y).head? = some y) (n : x ≠ y) : i = 0 := by
  cases i with
  | zero => rfl
  | succ i => exact absurd (Option.some.inj h) n
/-- the program's way around, of sites that are not in a row -/
theorem wrap_ring {rows : List Pt} {p0 q s : Pt} (so : rows.Pairwise lt2) (h0 : rows.head? = some p0) (hq : rows.getLast? = some q) (nr : ¬ Row rows) : Wrap (mks s (bordN p0 q rows ++ [p0])) := by
  have n2 : p0 ≠ q := by
    rintro rfl
    refine nr ((row_iff so h0 hq).mpr fun p hp => ?_)
    unfold tn
    simp
  obtain ⟨m, e, hm⟩ := part_ends ax_tn (least := 0) (by decide) (by decide) so h0 hq n2
  obtain ⟨m', e', hm'⟩ := part_ends ax_tm (least := 0) (by decide) (by decide) so h0 hq n2
  have k1 := pr_rev (low_nxt so h0 hq)
  have k2 := pr_fwd (high_nxt so h0 hq)
  have c1 := part_chn (q := q) ax_tn (least := 0) (by decide) (by decide) so h0
  have c2 := part_chn (q := q) ax_tm (least := 0) (by decide) (by decide) so h0
  have s1 : (stkG tn 0 (part tn p0 q rows)).reverse.Pairwise lt2 := List.pairwise_reverse.mpr c1.srt
  have s2 := c2.srt
  have sub1 : ∀ x ∈ (stkG tn 0 (part tn p0 q rows)).reverse, x ∈ rows := fun x m => (List.mem_filter.mp (c1.sub x (List.mem_reverse.mp m))).1
  have sub2 : ∀ x ∈ stkG tm 0 (part tm p0 q rows), x ∈ rows := fun x m => (List.mem_filter.mp (c2.sub x m)).1
  have eb : bordN p0 q rows ++ [p0] = p0 :: (m.reverse ++ q :: (m' ++ [p0])) := by
    unfold bordN innerR
    rw [e, e']
    simp
  rw [eb]
  rw [e] at k1 s1 sub1
  rw [e'] at k2 s2 sub2
  have r1 : (q :: (m ++ [p0])).reverse = p0 :: (m.reverse ++ [q]) := by simp
  rw [r1] at k1 s1 sub1
  have split : mks s (p0 :: (m.reverse ++ q :: (m' ++ [p0]))) = mks s (p0 :: (m.reverse ++ [q])) ++ mks s (q :: (m' ++ [p0])) := mks_app s (p0 :: m.reverse) q (m' ++ [p0])
  intro hh hl
  -- the first side and the last one
  obtain ⟨p1, l1, el1⟩ : ∃ p1 l1, m.reverse ++ [q] = p1 :: l1 := by
    cases hm : m.reverse with
    | nil => exact ⟨q, [], rfl⟩
    | cons x r => exact ⟨x, r ++ [q], rfl⟩
  obtain ⟨z, l2, el2⟩ : ∃ z l2, q :: (m' ++ [p0]) = l2 ++ [z, p0] := by
    rcases List.eq_nil_or_concat m' with rfl | ⟨r, z, rfl⟩
    · exact ⟨q, [], rfl⟩
    · exact ⟨z, q :: r, by simp⟩
  have mk1 : mks s (p0 :: (m.reverse ++ [q])) = decide (tn p0 p1 s < 0) :: mks s (p1 :: l1) := by rw [el1]; rfl
  have mk2 : mks s (q :: (m' ++ [p0])) = mks s (l2 ++ [z]) ++ [decide (tn z p0 s < 0)] := by
    rw [el2, show l2 ++ [z, p0] = l2 ++ z :: [p0] from rfl, mks_app]
    rfl
  rw [split] at hh hl ⊢
  have t1 : tn p0 p1 s < 0 := by
    rw [mk1] at hh
    exact of_decide_eq_true (Option.some.inj hh)
  have t2 : tn z p0 s < 0 := by
    rw [mk2, ← List.append_assoc, List.getLast?_concat] at hl
    exact of_decide_eq_true (Option.some.inj hl)
  have n1 : Nxt rows p0 p1 := by rw [el1] at k1; exact k1.1
  have nz : Nxt rows z p0 := by rw [el2] at k2; exact pr_get (n := []) l2 k2
  have lt1 : lt2 p0 p1 := by rw [el1] at s1; exact (List.pairwise_cons.mp s1).1 p1 (by simp)
  have ltz : lt2 p0 z := by
    rw [el2] at s2
    have := (List.pairwise_append.mp s2).2.1
    exact (List.pairwise_cons.mp this).1 p0 (by simp)
  have sp := left_of n1.1 nz.1 lt1 ltz t1 t2
  have far : ∀ x ∈ rows, lt2 s x := fun x hx => by
    rcases first_is so h0 x hx with rfl | l
    · exact sp
    · exact lt2_tr sp l
  obtain ⟨i, j, e1⟩ := low_mks (m.reverse ++ [q]) p0 sub1 k1 s1 sp
  obtain ⟨i', j', e2⟩ := high_mks (m' ++ [p0]) q sub2 k2 s2 fun x hx => far x (sub2 x hx)
  have i0 : i ≠ 0 := by
    rintro rfl
    rw [mk1, decide_eq_true t1] at e1
    cases j with
    | zero => cases e1
    | succ j => exact Bool.noConfusion (List.cons.inj e1).1
  have j0 : j' ≠ 0 := by
    rintro rfl
    rw [mk2, decide_eq_true t2] at e2
    have := congrArg List.getLast? e2
    rw [List.getLast?_concat] at this
    cases i' with
    | zero => cases this
    | succ n => rw [List.replicate_succ'] at this; simp at this
  have b0 : j + i' ≠ 0 := by
    intro hz
    have hj : j = 0 := by omega
    have hi : i' = 0 := by omega
    subst hj hi
    -- both sides at q are seen
    obtain ⟨y, l3, el3⟩ : ∃ y l3, p0 :: (m.reverse ++ [q]) = l3 ++ [y, q] := by
      rcases List.eq_nil_or_concat m.reverse with h | ⟨r, y, h⟩
      · rw [h]; exact ⟨p0, [], rfl⟩
      · rw [h]; exact ⟨y, p0 :: r, by simp⟩
    obtain ⟨z', l4, el4⟩ : ∃ z' l4, m' ++ [p0] = z' :: l4 := by
      cases m' with
      | nil => exact ⟨p0, [], rfl⟩
      | cons x r => exact ⟨x, r ++ [p0], rfl⟩
    have ny : Nxt rows y q := by rw [el3] at k1; exact pr_get (n := []) l3 k1
    have nz' : Nxt rows q z' := by rw [el4] at k2; exact k2.1
    have ly : lt2 y q := by
      rw [el3] at s1
      have := (List.pairwise_append.mp s1).2.1
      exact (List.pairwise_cons.mp this).1 q (by simp)
    have lz' : lt2 z' q := by rw [el4] at s2; exact (List.pairwise_cons.mp s2).1 z' (by simp)
    have m1 : tn y q s < 0 := by
      rw [el3, show l3 ++ [y, q] = l3 ++ y :: [q] from rfl, mks_app] at e1
      have := congrArg List.getLast? e1
      rw [show mks s (y :: [q]) = [decide (tn y q s < 0)] from rfl, List.getLast?_concat] at this
      cases i with
      | zero => exact absurd rfl i0
      | succ n =>
        rw [List.replicate_succ'] at this
        simp at this
        exact this
    have m2 : tn q z' s < 0 := by
      rw [el4, mks_cons] at e2
      cases j' with
      | zero => exact absurd rfl j0
      | succ n => exact of_decide_eq_true (List.cons.inj e2).1
    exact right_of ny.1 nz'.1 ly lz' (far q (List.mem_of_getLast? hq)) m1 m2
  refine ⟨i - 1, j + i' - 1, j' - 1, ?_⟩
  rw [e1, e2, show i - 1 + 1 = i by omega, show j' - 1 + 1 = j' by omega, show j + i' - 1 + 1 = j + i' by omega, List.append_assoc, List.append_assoc, List.append_cancel_left_eq, ← List.append_assoc, List.append_cancel_right_eq, List.replicate_append_replicate]
/-- .. of sites in a row -/
theorem wrap_row {rows : List Pt} {s : Pt} : Wrap (mks s (rows ++ rows.dropLast.reverse)) := by
  intro hh hl
  exfalso
  match rows with
  | [] => cases hh
  | [a] => cases hh
  | a :: b :: r =>
    have e : (a :: b :: r) ++ (a :: b :: r).dropLast.reverse = (a :: b :: r) ++ ((b :: r).dropLast.reverse ++ [a]) := by simp [List.dropLast]
    rw [e] at hh hl
    have h1 : tn a b s < 0 := of_decide_eq_true (Option.some.inj hh)
    -- the last side is (b, a)
    have e2 : ∃ l, (a :: b :: r) ++ ((b :: r).dropLast.reverse ++ [a]) = l ++ [b, a] := by
      cases r with
      | nil => exact ⟨[a], rfl⟩
      | cons c r => exact ⟨a :: b :: c :: r ++ (c :: r).dropLast.reverse, by simp [List.dropLast]⟩
    obtain ⟨l, el⟩ := e2
    rw [el, show l ++ [b, a] = l ++ b :: [a] from rfl, mks_app, show mks s (b :: [a]) = [decide (tn b a s < 0)] from rfl, List.getLast?_concat] at hl
    have h2 : tn b a s < 0 := of_decide_eq_true (Option.some.inj hl)
    rw [tn_swap] at h2
    omega

/-! ### all that is on the border is told; a site that is put to the others -/
theorem lex_edge : ∀ {st : List Pt} {q p0 a : Pt}, st.Pairwise (fun x y => lt2 y x) → st.head? = some q → st.getLast? = some p0 → lt2 p0 a → lt2 a q → a ∉ st → ∃ e ∈ Edg st, lt2 e.2 a ∧ lt2 a e.1
  | [], _, _, _, _, h, _, _, _, _ => by cases h
  | [x], q, p0, a, _, h, k, l1, l2, _ => by
    cases h
    cases k
    exact absurd (lt2_tr l1 l2) lt2_irr
  | x :: y :: r, q, p0, a, so, h, k, l1, l2, n => by
    cases h
    by_cases c : lt2 y a
    · exact ⟨(x, y), List.mem_cons_self, c, l2⟩
    · have ya : a ≠ y := fun z => n (z ▸ List.mem_cons_of_mem _ List.mem_cons_self)
      have ay : lt2 a y := by
        rcases lt2_tri ya with z | z
        · exact z
        · exact absurd z c
      obtain ⟨e, m, z⟩ := lex_edge (List.pairwise_cons.mp so).2 rfl (by rw [← k]; rfl) l1 ay fun z => n (List.mem_cons_of_mem _ z)
      exact ⟨e, List.mem_cons_of_mem _ m, z⟩
theorem off_part {T : Sgt} (ax : Ax T) {rows : List Pt} {p0 q : Pt} (so : rows.Pairwise lt2) (h0 : rows.head? = some p0) : OffG T (part T p0 q rows) (stkG T 0 (part T p0 q rows)) := by
  have hh := part_head (q := q) ax h0
  have hs := part_srt (T := T) (p0 := p0) (q := q) so
  generalize part T p0 q rows = R at hh hs
  cases R with
  | nil => cases hh
  | cons r0 R =>
    rw [stk_consG]
    exact off_allG ax R r0 hs
/-- one that the chain left out is over an edge of it -/
theorem over_edge {T : Sgt} (ax : Ax T) {rows : List Pt} {p0 q a : Pt} (so : rows.Pairwise lt2) (h0 : rows.head? = some p0) (hq : rows.getLast? = some q) (n2 : p0 ≠ q) (ma : a ∈ rows) (h : T p0 q a ≤ 0) (n : a ∉ stkG T 0 (part T p0 q rows)) : ∃ x y, x ∈ rows ∧ y ∈ rows ∧ lt2 x a ∧ lt2 a y ∧ 0 < T x y a := by
  obtain ⟨m, e, hm⟩ := part_ends ax (least := 0) (by decide) (by decide) so h0 hq n2
  have c := part_chn (q := q) ax (least := 0) (by decide) (by decide) so h0
  have mp : a ∈ part T p0 q rows := List.mem_filter.mpr ⟨ma, decide_eq_true h⟩
  have n0 : a ≠ p0 := fun z => n (by rw [e, z]; simp)
  have nq : a ≠ q := fun z => n (by rw [e, z]; simp)
  have l0 : lt2 p0 a := (first_is so h0 a ma).resolve_left n0
  have lq : lt2 a q := (last_is so hq a ma).resolve_left nq
  obtain ⟨ed, me, z1, z2⟩ := lex_edge c.srt (by rw [e]; rfl) (by rw [e, ← List.cons_append, List.getLast?_concat]) l0 lq n
  have z := off_part (q := q) ax so h0 ed me a mp z1 z2
  have m1 := c.sub ed.2 (edg_mem _ _ me).2
  have m2 := c.sub ed.1 (edg_mem _ _ me).1
  exact ⟨ed.2, ed.1, (List.mem_filter.mp m1).1, (List.mem_filter.mp m2).1, z1, z2, z⟩
theorem sup_on {rows : List Pt} {p0 q a b : Pt} (so : rows.Pairwise lt2) (h0 : rows.head? = some p0) (hq : rows.getLast? = some q) (n2 : p0 ≠ q) (h : Sup rows a b) : a ∈ bordN p0 q rows := by
  obtain ⟨m, e, hm⟩ := part_ends ax_tn (least := 0) (by decide) (by decide) so h0 hq n2
  obtain ⟨m', e', hm'⟩ := part_ends ax_tm (least := 0) (by decide) (by decide) so h0 hq n2
  have eb : bordN p0 q rows = p0 :: (m.reverse ++ q :: m') := by
    unfold bordN innerR
    rw [e, e']
    simp
  refine Classical.byContradiction fun n => ?_
  rw [eb] at n
  have n0 : a ≠ p0 := fun z => n (by rw [z]; simp)
  have nq : a ≠ q := fun z => n (by rw [z]; simp)
  have nl : a ∉ stkG tn 0 (part tn p0 q rows) := fun z => n (by
    rw [e] at z
    simp at z ⊢
    rcases z with z | z | z <;> simp [z])
  have nh : a ∉ stkG tm 0 (part tm p0 q rows) := fun z => n (by
    rw [e'] at z
    simp at z ⊢
    rcases z with z | z | z <;> simp [z])
  obtain ⟨ma, mb, ab, all⟩ := h
  have l0 : lt2 p0 a := (first_is so h0 a ma).resolve_left n0
  have lq : lt2 a q := (last_is so hq a ma).resolve_left nq
  have tma : ∀ p, tm b a p = tn a b p := fun p => by unfold tm; rw [tn_swap]; omega
  have up1 : lt2 a b → ∀ x y, x ∈ rows → y ∈ rows → lt2 x a → lt2 a y → 0 < tn x y a → False := fun l x y mx my l1 l2 z => by
    have := up_tn l l1 l2 z (all x mx) (all y my)
    rw [(tn_end a b).1] at this
    omega
  have up2 : lt2 b a → ∀ x y, x ∈ rows → y ∈ rows → lt2 x a → lt2 a y → 0 < tm x y a → False := fun l x y mx my l1 l2 z => by
    have := ax_tm.up l l1 l2 z (by rw [tma]; exact all x mx) (by rw [tma]; exact all y my)
    rw [tma, (tn_end a b).1] at this
    omega
  have m0 := List.mem_of_head? h0
  have mq := List.mem_of_getLast? hq
  rcases lt2_tri ab with l | l
  · by_cases c : 0 < tn p0 q a
    · exact up1 l p0 q m0 mq l0 lq c
    · obtain ⟨x, y, mx, my, l1, l2, z⟩ := over_edge ax_tn so h0 hq n2 ma (by omega) nl
      exact up1 l x y mx my l1 l2 z
  · by_cases c : 0 < tm p0 q a
    · exact up2 l p0 q m0 mq l0 lq c
    · obtain ⟨x, y, mx, my, l1, l2, z⟩ := over_edge ax_tm so h0 hq n2 ma (by omega) nh
      exact up2 l x y mx my l1 l2 z
/-- the sides are just those from one to the next one -/
theorem sides_are {rows : List Pt} {p0 q : Pt} (so : rows.Pairwise lt2) (h0 : rows.head? = some p0) (hq : rows.getLast? = some q) (nr : ¬ Row rows) {a b : Pt} : (a, b) ∈ sds (bordN p0 q rows ++ [p0]) ↔ Nxt rows a b := by
  have n2 : p0 ≠ q := by
    rintro rfl
    refine nr ((row_iff so h0 hq).mpr fun p hp => ?_)
    unfold tn
    simp
  obtain ⟨mid, e, R⟩ := ringB_of so h0 hq nr
  have pr : Pr (Nxt rows) (bordN p0 q rows ++ [p0]) := by rw [e]; exact R.pr
  constructor
  · exact fun h => sds_pr.mp pr (a, b) h
  · intro h
    have on := sup_on so h0 hq n2 h.1
    obtain ⟨l, r, el⟩ := List.append_of_mem on
    obtain ⟨c, r', er⟩ : ∃ c r', r ++ [p0] = c :: r' := by
      cases r with
      | nil => exact ⟨p0, [], rfl⟩
      | cons x r => exact ⟨x, r ++ [p0], rfl⟩
    have ea : bordN p0 q rows ++ [p0] = l ++ a :: c :: r' := by rw [el, List.append_assoc, List.cons_append, er]
    rw [ea] at pr ⊢
    have k : Nxt rows a c := pr_get l pr
    rw [nxt_uniq R.nr h k, sds_app, List.mem_append]
    right
    rw [sds_cons]
    exact List.mem_cons_self
/-- sites with one more: what it sees goes, what it doesn't stays -/
theorem wider_nxt {rows : List Pt} {s c d : Pt} (hc : Sup rows c d) (seen : tn c d s < 0) {rows' : List Pt} (mem : ∀ x, x ∈ rows' ↔ x = s ∨ x ∈ rows) {a b : Pt} : (Nxt rows a b → 0 ≤ tn a b s → Nxt rows' a b) ∧ (Nxt rows' a b → 0 ≤ tn a b s) := by
  constructor
  · rintro ⟨⟨ma, mb, ab, all⟩, nb⟩ h
    refine ⟨⟨(mem a).mpr (.inr ma), (mem b).mpr (.inr mb), ab, fun p hp => ?_⟩, fun p hp z k => ?_⟩
    · rcases (mem p).mp hp with rfl | hp
      · exact h
      · exact all p hp
    · rcases (mem p).mp hp with rfl | hp
      · have z2 : tn a p b = 0 := by
          have e : tn a p b = -tn a b p := by unfold tn; grind
          omega
        have dr := btw_dir z2 k
        have hd : dots a b ⟨p.1, p.2, 1⟩ ≤ 0 := by
          have := dr.d
          unfold dots
          unfold dot vec at this
          simp only [Int.mul_one] at this ⊢
          have e1 : (p.1 - a.1) * (p.1 - b.1) + (p.2 - a.2) * (p.2 - b.2) = -((p.1 - a.1) * (b.1 - p.1) + (p.2 - a.2) * (b.2 - p.2)) := by grind
          omega
        have po0 : ∀ u v : Pt, po u v ⟨p.1, p.2, 1⟩ = tn u v p := fun u v => by unfold po tn; simp
        have zz : tn a b p = 0 := by
          have : tn a b p = -tn a p b := by unfold tn; grind
          omega
        have := po_str (p := ⟨p.1, p.2, 1⟩) (u := c) (v := d) (by show (0 : Int) < 1; decide) ab (by rw [po0]; exact zz) hd (hc.2.2.2 a ma) (hc.2.2.2 b mb)
        rw [po0] at this
        omega
      · exact nb p hp z k
  · exact fun h => h.1.2.2.2 s ((mem s).mpr (.inl rfl))

/-! ### squares within one another -/
def sq (k : Int) : List Pt := [(0 - k, 0 - k), (k, 0 - k), (k, k), (0 - k, k)]
theorem sq_mem {k : Int} {p : Pt} : p ∈ sq k ↔ (p.1 = -k ∧ p.2 = -k) ∨ (p.1 = k ∧ p.2 = -k) ∨ (p.1 = k ∧ p.2 = k) ∨ (p.1 = -k ∧ p.2 = k) := by
  obtain ⟨x, y⟩ := p
  unfold sq
  simp only [List.mem_cons, Prod.mk.injEq, List.not_mem_nil, or_false]
  omega
theorem sq_nodup {k : Int} (h : 0 < k) : (sq k).Nodup := by
  unfold sq
  simp only [List.nodup_cons, List.mem_cons, Prod.mk.injEq, List.not_mem_nil, or_false, not_or, not_false_eq_true, and_true, List.nodup_nil]
  omega
/-- within a square -/
def Inn (k : Int) (p : Pt) : Prop := -k < p.1 ∧ p.1 < k ∧ -k < p.2 ∧ p.2 < k
/-- the rest -/
def nest (ks : List Int) (mid : Bool) : List Pt := ks.flatMap sq ++ (if mid = true then [(0, 0)] else [])
theorem nest_inn {ks : List Int} {mid : Bool} {k : Int} (h : ∀ x ∈ ks, 0 < x ∧ x < k) (k0 : 0 < k) : ∀ p ∈ nest ks mid, Inn k p := by
  intro p hp
  unfold nest at hp
  unfold Inn
  rcases List.mem_append.mp hp with m | m
  · obtain ⟨x, mx, hx⟩ := List.mem_flatMap.mp m
    have := h x mx
    rcases sq_mem.mp hx with z | z | z | z <;> omega
  · split at m
    · have e := List.mem_singleton.mp m
      subst e
      simp only
      omega
    · cases m
theorem nest_nodup (mid : Bool) : ∀ ks : List Int, ks.Pairwise (fun a b => b < a) → (∀ x ∈ ks, 0 < x) → (nest ks mid).Nodup
  | [], _, _ => by
    unfold nest
    cases mid <;> simp
  | k :: ks, so, h => by
    have ih := nest_nodup mid ks (List.pairwise_cons.mp so).2 fun x m => h x (List.mem_cons_of_mem _ m)
    have e : nest (k :: ks) mid = sq k ++ nest ks mid := by
      unfold nest
      rw [List.flatMap_cons, List.append_assoc]
    have k0 := h k List.mem_cons_self
    rw [e]
    refine List.nodup_append.mpr ⟨sq_nodup k0, ih, fun a ma b mb e => ?_⟩
    subst e
    have z := nest_inn (mid := mid) (fun x m => ⟨h x (List.mem_cons_of_mem _ m), (List.pairwise_cons.mp so).1 x m⟩) k0 a mb
    unfold Inn at z
    rcases sq_mem.mp ma with c | c | c | c <;> omega
theorem sq_brd {rows : List Pt} {p0 q : Pt} {k : Int} (e : Ends2 rows p0 q) (k0 : 0 < k) (sub : ∀ p ∈ sq k, p ∈ rows) (all : ∀ p ∈ rows, p ∈ sq k ∨ Inn k p) : Brd p0 q rows (sq k) := by
  have c1 : ((0 - k, 0 - k) : Pt) ∈ rows := sub _ (by unfold sq; simp)
  have c2 : ((k, 0 - k) : Pt) ∈ rows := sub _ (by unfold sq; simp)
  have c3 : ((k, k) : Pt) ∈ rows := sub _ (by unfold sq; simp)
  have c4 : ((0 - k, k) : Pt) ∈ rows := sub _ (by unfold sq; simp)
  have kk : 0 < k * k := Int.mul_pos k0 k0
  have nr : ¬ Row rows := fun r => by
    have z := r _ c1 _ c2 _ c3
    have z2 : tn (0 - k, 0 - k) (k, 0 - k) (k, k) = 4 * (k * k) := by unfold tn; grind
    omega
  have ep : p0 = (0 - k, 0 - k) := by
    rcases first_is e.so e.h0 _ c1 with z | z
    · exact z.symm
    · exfalso
      have m := all p0 (List.mem_of_head? e.h0)
      unfold lt2 at z
      simp only at z
      rcases m with m | m
      · rcases sq_mem.mp m with c | c | c | c <;> omega
      · unfold Inn at m
        omega
  -- each side
  have side : ∀ (a b : Pt) (F : Pt → Int), a ∈ rows → b ∈ rows → a ≠ b → (∀ p, tn a b p = 2 * (k * F p)) → (∀ p, p ∈ sq k ∨ Inn k p → 0 ≤ F p ∧ (F p = 0 → p = a ∨ p = b)) → Nxt rows a b := fun a b F ma mb ab eF hF => by
    refine ⟨⟨ma, mb, ab, fun p hp => ?_⟩, fun p hp z bt => ?_⟩
    · rw [eF]
      have := mul_nn (Int.le_of_lt k0) (hF p (all p hp)).1
      omega
    · rw [eF] at z
      have z1 : k * F p = 0 := by omega
      rcases Int.mul_eq_zero.mp z1 with z2 | z2
      · omega
      · rcases (hF p (all p hp)).2 z2 with rfl | rfl
        · rcases bt with bt | bt
          · exact lt2_irr bt.1
          · exact lt2_irr bt.2
        · rcases bt with bt | bt
          · exact lt2_irr bt.2
          · exact lt2_irr bt.1
  have n1 : Nxt rows (0 - k, 0 - k) (k, 0 - k) := side _ _ (fun p => p.2 + k) c1 c2 (by simp only [ne_eq, Prod.mk.injEq]; omega) (fun p => by unfold tn; grind) fun p h => by
    refine ⟨?_, fun z => ?_⟩
    · rcases h with m | m
      · rcases sq_mem.mp m with c | c | c | c <;> omega
      · unfold Inn at m; omega
    · rcases h with m | m
      · rcases sq_mem.mp m with c | c | c | c
        · exact .inl (Prod.ext (by simp only; omega) (by simp only; omega))
        · exact .inr (Prod.ext (by simp only; omega) (by simp only; omega))
        · omega
        · omega
      · unfold Inn at m; omega
  have n2 : Nxt rows (k, 0 - k) (k, k) := side _ _ (fun p => k - p.1) c2 c3 (by simp only [ne_eq, Prod.mk.injEq]; omega) (fun p => by unfold tn; grind) fun p h => by
    refine ⟨?_, fun z => ?_⟩
    · rcases h with m | m
      · rcases sq_mem.mp m with c | c | c | c <;> omega
      · unfold Inn at m; omega
    · rcases h with m | m
      · rcases sq_mem.mp m with c | c | c | c
        · omega
        · exact .inl (Prod.ext (by simp only; omega) (by simp only; omega))
        · exact .inr (Prod.ext (by simp only; omega) (by simp only; omega))
        · omega
      · unfold Inn at m; omega
  have n3 : Nxt rows (k, k) (0 - k, k) := side _ _ (fun p => k - p.2) c3 c4 (by simp only [ne_eq, Prod.mk.injEq]; omega) (fun p => by unfold tn; grind) fun p h => by
    refine ⟨?_, fun z => ?_⟩
    · rcases h with m | m
      · rcases sq_mem.mp m with c | c | c | c <;> omega
      · unfold Inn at m; omega
    · rcases h with m | m
      · rcases sq_mem.mp m with c | c | c | c
        · omega
        · omega
        · exact .inl (Prod.ext (by simp only; omega) (by simp only; omega))
        · exact .inr (Prod.ext (by simp only; omega) (by simp only; omega))
      · unfold Inn at m; omega
  have n4 : Nxt rows (0 - k, k) (0 - k, 0 - k) := side _ _ (fun p => p.1 + k) c4 c1 (by simp only [ne_eq, Prod.mk.injEq]; omega) (fun p => by unfold tn; grind) fun p h => by
    refine ⟨?_, fun z => ?_⟩
    · rcases h with m | m
      · rcases sq_mem.mp m with c | c | c | c <;> omega
      · unfold Inn at m; omega
    · rcases h with m | m
      · rcases sq_mem.mp m with c | c | c | c
        · exact .inr (Prod.ext (by simp only; omega) (by simp only; omega))
        · omega
        · omega
        · exact .inl (Prod.ext (by simp only; omega) (by simp only; omega))
      · unfold Inn at m; omega
  obtain ⟨mid, eb, R⟩ := ringB_of e.so e.h0 e.hq nr
  refine ⟨fun r => absurd r nr, fun _ => ?_⟩
  have im := ring_is R.nr R.pr (m2 := [(k, 0 - k), (k, k), (0 - k, k)]) (by subst ep; exact ⟨n1, n2, n3, n4, True.intro⟩) R.n0 (by
    subst ep
    simp only [List.mem_cons, Prod.mk.injEq, List.not_mem_nil, or_false]
    omega)
  rw [eb, im, ep]
  rfl
theorem lays_nest (mid : Bool) : ∀ (ks : List Int), ks.Pairwise (fun a b => b < a) → (∀ x ∈ ks, 0 < x) → Lays (nest ks mid) (ks.map sq ++ if mid = true then [[(0, 0)]] else [])
  | [], _, _ => by
    cases mid with
    | false => exact .nil
    | true =>
      show Lays [(0, 0)] [[(0, 0)]]
      have e : Ends2 [((0, 0) : Pt)] (0, 0) (0, 0) := ⟨List.pairwise_singleton _ _, rfl, rfl⟩
      have r : Row [((0, 0) : Pt)] := (row_iff e.so e.h0 e.hq).mpr fun p hp => by rw [List.mem_singleton.mp hp]; rfl
      exact .step (.refl _) e ⟨fun _ => rfl, fun n => absurd r n⟩ .nil
  | k :: ks, so, h => by
    have ih := lays_nest mid ks (List.pairwise_cons.mp so).2 fun x m => h x (List.mem_cons_of_mem _ m)
    have e : nest (k :: ks) mid = sq k ++ nest ks mid := by
      unfold nest
      rw [List.flatMap_cons, List.append_assoc]
    have k0 := h k List.mem_cons_self
    have inn := nest_inn (mid := mid) (fun x m => ⟨h x (List.mem_cons_of_mem _ m), (List.pairwise_cons.mp so).1 x m⟩) k0
    obtain ⟨rows, pm, srt⟩ := sorted_ex (nest_nodup mid (k :: ks) so h)
    obtain ⟨p0, q, en⟩ := ends_ex (fun z => by rw [z, e] at pm; cases List.nil_perm.mp pm) srt
    have hb : Brd p0 q rows (sq k) := sq_brd en k0 (fun p hp => pm.mem_iff.mpr (by rw [e]; exact List.mem_append_left _ hp)) fun p hp => by
      have := pm.mem_iff.mp hp
      rw [e] at this
      rcases List.mem_append.mp this with m | m
      · exact .inl m
      · exact .inr (inn p m)
    refine .step pm en hb ?_
    have keep : (nest ks mid).filter (fun x => decide (x ∉ sq k)) = nest ks mid := List.filter_eq_self.mpr fun p hp => decide_eq_true fun z => by
      have y := inn p hp
      unfold Inn at y
      rcases sq_mem.mp z with c | c | c | c <;> omega
    rw [e, List.filter_append, List.filter_eq_nil_iff.mpr (fun p hp => by simp [hp]), List.nil_append, keep]
    exact ih

/-! ### the sides that are seen, in their order -/
section
variable {α β : Type}
def prevI (n i : Nat) : Nat := if i = 0 then n - 1 else i - 1
/-- seen, behind one that is not seen -/
def rise (mk : List Bool) (i : Nat) : Prop := mk[i]? = some true ∧ mk[prevI mk.length i]? ≠ some true
def picked (l : List (α × Bool)) : List α := (l.filter (·.2)).map (·.1)
def SeenL (sd : List α) (mk : List Bool) (out : List α) : Prop := ((∀ i, i < mk.length → ¬ rise mk i) ∧ out = []) ∨ ∃ k, k < mk.length ∧ rise mk k ∧ (∀ j, j < k → ¬ rise mk j) ∧ out = picked ((sd.zip mk).drop k) ++ picked ((sd.zip mk).take k)
theorem SeenL.uniq {sd : List α} {mk : List Bool} {a b : List α} (h : SeenL sd mk a) (k : SeenL sd mk b) : a = b := by
  rcases h with ⟨h, rfl⟩ | ⟨i, li, ri, bi, rfl⟩
  · rcases k with ⟨_, rfl⟩ | ⟨j, lj, rj, _, _⟩
    · rfl
    · exact absurd rj (h j lj)
  · rcases k with ⟨k, _⟩ | ⟨j, lj, rj, bj, rfl⟩
    · exact absurd ri (k i li)
    · have : i = j := by
        rcases Nat.lt_trichotomy i j with z | z | z
        · exact absurd ri (bj i z)
        · exact z
        · exact absurd rj (bi j z)
      rw [this]
theorem picked_map (g : α → β) (l : List (α × Bool)) : picked (l.map fun e => (g e.1, e.2)) = (picked l).map g := by
  unfold picked
  rw [List.filter_map, List.map_map, List.map_map]
  rfl
theorem zip_map1 (g : α → β) : ∀ (l : List α) (m : List Bool), (l.map g).zip m = (l.zip m).map fun e => (g e.1, e.2)
  | [], _ => rfl
  | _ :: _, [] => rfl
  | a :: l, b :: m => by
    rw [List.map_cons, List.zip_cons_cons, List.zip_cons_cons, List.map_cons, zip_map1 g l m]
theorem SeenL.map {sd : List α} {mk : List Bool} {out : List α} (g : α → β) (h : SeenL sd mk out) : SeenL (sd.map g) mk (out.map g) := by
  rcases h with ⟨h, rfl⟩ | ⟨i, li, ri, bi, rfl⟩
  · exact .inl ⟨h, rfl⟩
  · refine .inr ⟨i, li, ri, bi, ?_⟩
    rw [zip_map1, ← List.map_drop, ← List.map_take, picked_map, picked_map, List.map_append]
theorem take_zip2 : ∀ (n : Nat) (l : List α) (m : List β), (l.zip m).take n = (l.take n).zip (m.take n)
  | 0, _, _ => rfl
  | n + 1, [], m => by simp
  | n + 1, _ :: _, [] => by simp
  | n + 1, a :: l, b :: m => by
    rw [List.zip_cons_cons, List.take_succ_cons, List.take_succ_cons, List.take_succ_cons, List.zip_cons_cons, take_zip2 n l m]
theorem drop_zip2 : ∀ (n : Nat) (l : List α) (m : List β), (l.zip m).drop n = (l.drop n).zip (m.drop n)
  | 0, _, _ => rfl
  | n + 1, [], m => by simp
  | n + 1, _ :: _, [] => by simp
  | n + 1, a :: l, b :: m => by
    rw [List.zip_cons_cons, List.drop_succ_cons, List.drop_succ_cons, List.drop_succ_cons, drop_zip2 n l m]
theorem picked_app (l m : List (α × Bool)) : picked (l ++ m) = picked l ++ picked m := by
  unfold picked
  rw [List.filter_append, List.map_append]
theorem picked_all : ∀ {l : List α} {m : List Bool}, l.length = m.length → (∀ b ∈ m, b = true) → picked (l.zip m) = l
  | [], _, _, _ => rfl
  | a :: l, [], h, _ => by cases h
  | a :: l, b :: m, h, k => by
    rw [List.zip_cons_cons]
    have hb := k b List.mem_cons_self
    subst hb
    have ih := picked_all (Nat.succ.inj h) fun b m => k b (List.mem_cons_of_mem _ m)
    unfold picked at ih ⊢
    rw [List.filter_cons_of_pos (by rfl), List.map_cons, ih]
theorem picked_none : ∀ {l : List α} {m : List Bool}, (∀ b ∈ m, b = false) → picked (l.zip m) = []
  | [], _, _ => by unfold picked; simp
  | a :: l, [], _ => by unfold picked; simp
  | a :: l, b :: m, k => by
    rw [List.zip_cons_cons]
    have hb := k b List.mem_cons_self
    subst hb
    have ih := picked_none (l := l) fun b m => k b (List.mem_cons_of_mem _ m)
    unfold picked at ih ⊢
    rw [List.filter_cons_of_neg (by exact Bool.noConfusion), ih]
theorem picked_mem {l : List (α × Bool)} {x : α} : x ∈ picked l ↔ (x, true) ∈ l := by
  unfold picked
  rw [List.mem_map]
  constructor
  · rintro ⟨⟨y, b⟩, m, rfl⟩
    obtain ⟨m, h⟩ := List.mem_filter.mp m
    simp only at h
    subst h
    exact m
  · intro m
    exact ⟨(x, true), List.mem_filter.mpr ⟨m, rfl⟩, rfl⟩
/-- what is told, if anything is, is all that is marked -/
theorem SeenL.mem {sd : List α} {mk : List Bool} {out : List α} (h : SeenL sd mk out) (ne : out ≠ []) {x : α} : x ∈ out ↔ (x, true) ∈ sd.zip mk := by
  rcases h with ⟨_, rfl⟩ | ⟨i, li, ri, bi, rfl⟩
  · exact absurd rfl ne
  · rw [List.mem_append, picked_mem, picked_mem, or_comm, ← List.mem_append, List.take_append_drop]
/-- not marked at both ends: they are told as they come -/
theorem seen_plain {sd : List α} {mk : List Bool} (len : sd.length = mk.length) (h : picked (sd.zip mk) = [] ∨ mk.head? ≠ some true ∨ mk.getLast? ≠ some true) : SeenL sd mk (picked (sd.zip mk)) := by
  by_cases all : ∀ b ∈ mk, b = false
  · refine .inl ⟨fun i li r => ?_, picked_none all⟩
    have := all true (List.mem_of_getElem? r.1)
    cases this
  · have ne : picked (sd.zip mk) ≠ [] := fun z => all fun b mb => by
      cases b with
      | false => rfl
      | true =>
        exfalso
        obtain ⟨i, li, e⟩ := List.getElem_of_mem mb
        have : sd[i]'(by omega) ∈ picked (sd.zip mk) := picked_mem.mpr (by
          have : (sd.zip mk)[i]'(by rw [List.length_zip]; omega) = (sd[i]'(by omega), true) := by rw [List.getElem_zip, e]
          rw [← this]
          exact List.getElem_mem _)
        rw [z] at this
        cases this
    have h := h.resolve_left ne
    obtain ⟨i, li, e, before⟩ : ∃ i, ∃ li : i < mk.length, mk[i] = true ∧ ∀ j, j < i → mk[j]? = some false := by
      have : mk.findIdx (· == true) < mk.length := List.findIdx_lt_length.mpr (by
        refine Classical.byContradiction fun n => all fun b mb => ?_
        cases b with
        | false => rfl
        | true => exact absurd ⟨true, mb, rfl⟩ n)
      refine ⟨_, this, by simpa using List.findIdx_getElem (w := this), fun j lj => ?_⟩
      have z := List.not_of_lt_findIdx lj
      rw [List.getElem?_eq_getElem (by omega)]
      simpa using z
    have prev : mk[prevI mk.length i]? ≠ some true := by
      unfold prevI
      split
      · rename_i z
        subst z
        rcases h with h | h
        · rw [List.head?_eq_getElem?, List.getElem?_eq_getElem li, e] at h
          exact absurd rfl h
        · rwa [List.getLast?_eq_getElem?] at h
      · rw [before (i - 1) (by omega)]
        decide
    refine .inr ⟨i, li, ⟨by rw [List.getElem?_eq_getElem li, e], prev⟩, fun j lj r => ?_, ?_⟩
    · have r1 := r.1
      rw [before j lj] at r1
      cases r1
    · have t0 : picked ((sd.zip mk).take i) = [] := by
        rw [take_zip2]
        refine picked_none fun b mb => ?_
        obtain ⟨j, lj, ej⟩ := List.getElem_of_mem mb
        rw [List.length_take] at lj
        have z := before j (by omega)
        rw [List.getElem_take] at ej
        rw [List.getElem?_eq_getElem (by omega), ej] at z
        exact Option.some.inj z
      rw [t0, List.append_nil]
      conv => lhs; rw [← List.take_append_drop i (sd.zip mk), picked_app, t0, List.nil_append]
/-- marked at both ends -/
theorem seen_wrap {sd : List α} {mk : List Bool} (len : sd.length = mk.length) (W : Wrap mk) (h1 : mk.head? = some true) (h2 : mk.getLast? = some true) :
    ∃ i j, mk[i]? = some false ∧ (∀ m, m < i → mk[m]? = some true) ∧ mk.reverse[j]? = some false ∧ (∀ m, m < j → mk.reverse[m]? = some true) ∧ i < sd.length ∧ j < sd.length ∧ SeenL sd mk (sd.drop (sd.length - j) ++ sd.take i) := by
  obtain ⟨a, b, d, e⟩ := W h1 h2
  have lm : mk.length = a + 1 + (b + 1) + (d + 1) := by rw [e]; simp; omega
  have at1 : ∀ m, m < a + 1 → mk[m]? = some true := fun m lt => by
    rw [e, List.append_assoc, List.getElem?_append_left (by rw [List.length_replicate]; exact lt), List.getElem?_replicate, if_pos lt]
  have at2 : ∀ m, a + 1 ≤ m → m < a + 1 + (b + 1) → mk[m]? = some false := fun m le lt => by
    rw [e, List.append_assoc, List.getElem?_append_right (by rw [List.length_replicate]; exact le), List.getElem?_append_left (by rw [List.length_replicate, List.length_replicate]; omega), List.length_replicate, List.getElem?_replicate, if_pos (by omega)]
  have at3 : ∀ m, a + 1 + (b + 1) ≤ m → m < mk.length → mk[m]? = some true := fun m le lt => by
    rw [e, List.getElem?_append_right (by simp; omega), List.getElem?_replicate, if_pos (by simp; omega)]
  refine ⟨a + 1, d + 1, at2 _ (Nat.le_refl _) (by omega), at1, ?_, fun m lt => ?_, by omega, by omega, ?_⟩
  · rw [List.getElem?_reverse (by omega)]
    exact at2 _ (by omega) (by omega)
  · rw [List.getElem?_reverse (by omega)]
    exact at3 _ (by omega) (by omega)
  · refine .inr ⟨a + 1 + (b + 1), by omega, ⟨at3 _ (Nat.le_refl _) (by omega), ?_⟩, fun j lj r => ?_, ?_⟩
    · unfold prevI
      rw [if_neg (by omega), at2 _ (by omega) (by omega)]
      decide
    · obtain ⟨r1, r2⟩ := r
      unfold prevI at r2
      split at r2
      · exact r2 (at3 _ (by omega) (by omega))
      · by_cases c : j ≤ a + 1
        · exact r2 (at1 _ (by omega)) |>.elim
        · rw [at2 j (by omega) lj] at r1
          cases r1
    · have lz : (sd.zip mk).length = sd.length := by rw [List.length_zip]; omega
      have d3 : picked ((sd.zip mk).drop (a + 1 + (b + 1))) = sd.drop (sd.length - (d + 1)) := by
        rw [drop_zip2]
        rw [show sd.length - (d + 1) = a + 1 + (b + 1) by omega]
        refine picked_all (by rw [List.length_drop, List.length_drop, len]) fun x mx => ?_
        obtain ⟨j, lj, ej⟩ := List.getElem_of_mem mx
        have lj2 := lj
        rw [List.length_drop] at lj2
        have z := at3 (a + 1 + (b + 1) + j) (by omega) (by omega)
        rw [List.getElem_drop] at ej
        rw [List.getElem?_eq_getElem (by omega), ej] at z
        exact Option.some.inj z
      have d1 : picked ((sd.zip mk).take (a + 1 + (b + 1))) = sd.take (a + 1) := by
        have cut : (sd.zip mk).take (a + 1 + (b + 1)) = (sd.take (a + 1)).zip (mk.take (a + 1)) ++ ((sd.drop (a + 1)).take (b + 1)).zip ((mk.drop (a + 1)).take (b + 1)) := by
          rw [List.take_add, take_zip2, drop_zip2, take_zip2]
        rw [cut, picked_app, picked_all (by rw [List.length_take, List.length_take, len]) (fun x mx => ?_), picked_none (fun x mx => ?_), List.append_nil]
        · obtain ⟨j, lj, ej⟩ := List.getElem_of_mem mx
          have lj2 := lj
          rw [List.length_take, List.length_drop] at lj2
          have z := at2 (a + 1 + j) (by omega) (by omega)
          rw [List.getElem_take, List.getElem_drop] at ej
          rw [List.getElem?_eq_getElem (by omega), ej] at z
          exact Option.some.inj z
        · obtain ⟨j, lj, ej⟩ := List.getElem_of_mem mx
          rw [List.length_take] at lj
          have z := at1 j (by omega)
          rw [List.getElem_take] at ej
          rw [List.getElem?_eq_getElem (by omega), ej] at z
          exact Option.some.inj z
      rw [d3, d1]
end

/-! ### k07: the sides of a hull -/
section
variable {P : Program} {w : World} {K : PySem.W.Frag} {mg : Str → Option Value} {base : Heap}
/-- the program's way around -/
def Arnd (p0 q : Pt) (rows a : List Pt) : Prop := (Row rows → a = rows ++ rows.dropLast.reverse) ∧ (¬ Row rows → a = bordN p0 q rows ++ [p0])
theorem arnd_wrap {p0 q : Pt} {rows a : List Pt} (e : Ends2 rows p0 q) (h : Arnd p0 q rows a) (s : Pt) : Wrap (mks s a) := by
  by_cases r : Row rows
  · rw [h.1 r]; exact wrap_row
  · rw [h.2 r]; exact wrap_ring e.so e.h0 e.hq r
/-- tuples of two at ks -/
structure PrAt (H : Hp) (ks : List Addr) (es : List (Addr × Addr)) : Prop where
  len : ks.length = es.length
  at_ : ∀ (j : Nat) (k : Addr), ks[j]? = some k → ∃ e, es[j]? = some e ∧ H k = some (.tup [.ref e.1, .ref e.2])
theorem PrAt.same {H H' : Hp} {ks : List Addr} {es : List (Addr × Addr)} (h : PrAt H ks es) (s : Same H H') : PrAt H' ks es := ⟨h.len, fun j k e => by
  obtain ⟨p, e1, e2⟩ := h.at_ j k e
  exact ⟨p, e1, s _ _ e2⟩⟩
theorem sds_map {α β : Type} (f : α → β) : ∀ l : List α, sds (l.map f) = (sds l).map fun e => (f e.1, f e.2)
  | [] => rfl
  | [_] => rfl
  | a :: b :: r => by
    have ih := sds_map f (b :: r)
    rw [List.map_cons, List.map_cons, sds_cons, sds_cons, List.map_cons, ← ih]
    rfl
theorem sds_mem {α : Type} {l : List α} {e : α × α} (h : e ∈ sds l) : e.1 ∈ l ∧ e.2 ∈ l := by
  unfold sds at h
  have z := List.of_mem_zip h
  exact ⟨z.1, List.mem_of_mem_drop z.2⟩
theorem back_map {α β : Type} (f : α → β) (l : List α) : (backL l).map f = backL (l.map f) := by
  unfold backL
  rw [List.map_reverse, List.map_dropLast]
theorem around_is {f : Addr → Pt} {p0 q : Pt} {ts : List Addr} (e : Ends2 (ts.map f) p0 q) : Arnd p0 q (ts.map f) (((stA f tn 0 p0 q ts).reverse ++ backL (stA f tm 0 p0 q ts).reverse).map f) := by
  constructor
  · intro r
    have r2 := row_ts.mp r
    have z := (row_iff e.so e.h0 e.hq).mp r
    rw [stA_row r2 fun a m => z _ (List.mem_map_of_mem m), stA_row (fun a ha b hb c hc => tm_zero (r2 a ha b hb c hc)) fun a m => tm_zero (z _ (List.mem_map_of_mem m)), List.reverse_reverse, List.map_append, back_map]
    rfl
  · intro nr
    have n2 : p0 ≠ q := by
      rintro rfl
      refine nr ((row_iff e.so e.h0 e.hq).mpr fun p hp => ?_)
      unfold tn
      simp
    obtain ⟨m', e', hm'⟩ := part_ends ax_tm (least := 0) (by decide) (by decide) e.so e.h0 e.hq n2
    unfold bordN innerR
    rw [List.map_append, back_map, List.map_reverse, List.map_reverse, stA_map, stA_map, List.append_assoc, List.append_cancel_left_eq, e']
    unfold backL
    rw [show (q :: (m' ++ [p0])).reverse = (p0 :: m'.reverse) ++ [q] by simp, List.dropLast_concat]
    simp
theorem around_mem {f : Addr → Pt} {p0 q : Pt} {ts : List Addr} : ∀ x ∈ (stA f tn 0 p0 q ts).reverse ++ backL (stA f tm 0 p0 q ts).reverse, x ∈ ts := fun x h => by
  rcases List.mem_append.mp h with m | m
  · exact stA_sub _ _ _ _ _ _ _ (List.mem_reverse.mp m)
  · exact stA_sub _ _ _ _ _ _ _ (List.mem_reverse.mp (List.dropLast_subset _ (List.mem_reverse.mp m)))
theorem around_len {f : Addr → Pt} {p0 q : Pt} {ts : List Addr} : ((stA f tn 0 p0 q ts).reverse ++ backL (stA f tm 0 p0 q ts).reverse).length ≤ 2 * ts.length := by
  have h1 := stA_len f tn 0 p0 q ts
  have h2 := stA_len f tm 0 p0 q ts
  unfold backL
  rw [List.length_append, List.length_reverse, List.length_reverse, List.length_dropLast, List.length_reverse]
  omega
theorem zip_sds {ar : List Addr} {x y : V} {j : Nat} (h1 : (ar.map V.ref)[j]? = some x) (h2 : ((ar.map V.ref).drop 1)[j]? = some y) : ∃ e, (sds ar)[j]? = some e ∧ x = .ref e.1 ∧ y = .ref e.2 := by
  rw [List.getElem?_map] at h1
  rw [← List.map_drop, List.getElem?_map] at h2
  obtain ⟨a, ea, rfl⟩ := Option.map_eq_some_iff.mp h1
  obtain ⟨b, eb, rfl⟩ := Option.map_eq_some_iff.mp h2
  exact ⟨(a, b), by unfold sds; rw [List.getElem?_zip_eq_some]; exact ⟨ea, eb⟩, rfl, rfl⟩
abbrev s_sides_of : Stmt := topS 15
abbrev n_sides_of : List Str := ["rows", "low", "high", "around"]
theorem c_sides_of : FnScope n_sides_of ["rows"] (defScope s_sides_of) := ⟨rfl, rfl, rfl, by decide +kernel, rfl, by decide +kernel, by decide +kernel⟩
def p_sides_of : Sp := fun vs H Q _ => ∃ (p : Addr) (ts : List Addr) (f : Addr → Pt) (p0 q : Pt), vs = [.ref p] ∧ Lot f H p ts ∧ Ends2 (ts.map f) p0 q ∧ ∀ l ks ar H', Same H H' → H l = none → H' l = some (.lst (ks.map V.ref)) → PrAt H' ks (sds ar) → (∀ a ∈ ar, a ∈ ts) → ar.length ≤ 400 → Arnd p0 q (ts.map f) (ar.map f) → Q (.ref l) H'
set_option pp.maxSteps 300 in
theorem ok_sides_of  (D : Df K mg "sides_of" s_sides_of ["rows"]) (C_chains_of : Cl P w K mg base CX0 "chains_of" 1 ["rows", "least"] (p_chains_of)) (mlist : mg "list" = none) (mzip : mg "zip" = none) : Cl P w K mg base CX0 "sides_of" 2 ["rows"] (p_sides_of) := by
  refine D.cl fun f fd F => F.ok c_sides_of (fun vs H Q E h => ?_) (fun cdv A outer s H vs Q E hr h => ?_)
  · obtain ⟨p, ts, g, p0, q0, rfl, hl, he, q⟩ := h
    rfl
  · obtain ⟨p, ts, g, p0, q0, rfl, hl, he, q⟩ := h
    have nd := c_sides_of.nd
    have hu : _ := hu_of hr
    refine ⟨_, (pss_cons (ps_asg (pe_cl C_chains_of (hr.mono (by decide)) (by rfl) pass0 (pa_cons (pv 0) (pa_cons pe_int pa_nil))) (pg_tup (by rfl) (pgs_cons (pg_name (i := 1) nd rfl (.inl rfl)) (pgs_cons (pg_name (i := 2) nd rfl (.inl rfl)) pgs_nil)))) (pss_cons (ps_set (i := 3) nd rfl (.inl rfl) (pe_op op_catG (pv 1) (pe_slB picks_backL (pv 2) (po_some pe_neg) (fun _ _ _ h => ⟨_, rfl, h⟩) po_none (fun _ _ _ h => h)))) (pss_one (ps_ret (pe_lzip rfl (by rfl) mlist (by rfl) mzip (pa_cons (pv 3) (pa_cons (pe_slice sl_listG (pv 3) (po_some pe_int) po_none) pa_nil))))))), ?_⟩
    repeat array_get_dec
    refine ⟨p, 0, ts, g, p0, q0, rfl, hl, by decide, he.h0, he.hq, fun T l h H1 s1 eT nl nh lh el eh => ?_⟩
    have lenL : ((stA g tn 0 p0 q0 ts).reverse.map V.ref).length = (stA g tn 0 p0 q0 ts).length := by rw [List.length_map, List.length_reverse]
    have lenH : ((stA g tm 0 p0 q0 ts).reverse.map V.ref).length = (stA g tm 0 p0 q0 ts).length := by rw [List.length_map, List.length_reverse]
    have fewL := stA_len g tn 0 p0 q0 ts
    have fewH := stA_len g tm 0 p0 q0 ts
    have few := hl.few
    repeat array_get_dec
    refine ⟨h, _, rfl, SqL.of eh, fun a2 H2 s2 n2 e2 => ?_⟩
    refine ⟨l, a2, _, _, rfl, rfl, s2 _ _ el, e2, Nat.le_trans (Nat.add_le_add (by rw [lenL]; exact fewL) (Nat.le_trans (picks_backL.len _) (by rw [lenH]; exact fewH))) (Nat.le_trans (Nat.add_le_add (Nat.le_of_lt hl.few) (Nat.le_of_lt hl.few)) (by decide)), fun b H3 s3 n3 e3 => ?_⟩
    have e4 : H3 b = some (.lst (((stA g tn 0 p0 q0 ts).reverse ++ backL (stA g tm 0 p0 q0 ts).reverse).map V.ref)) := by rw [e3, ← back_map, ← List.map_append]
    have mem := around_mem (f := g) (p0 := p0) (q := q0) (ts := ts)
    have len := around_len (f := g) (p0 := p0) (q := q0) (ts := ts)
    have arn := around_is he
    generalize (stA g tn 0 p0 q0 ts).reverse ++ backL (stA g tm 0 p0 q0 ts).reverse = ar at e4 mem len arn
    repeat array_get_dec
    refine ⟨b, _, rfl, SqL.of e4, fun c H4 s4 n4 e5 => ?_⟩
    have pos : 1 ≤ (ar.map V.ref).length := by
      rw [List.length_map]
      cases ar with
      | nil =>
        exfalso
        by_cases r : Row (ts.map g)
        · have z := arn.1 r
          have l1 := congrArg List.length z
          have l0 := hl.pos
          simp at l1
          omega
        · have z := arn.2 r
          have l1 := congrArg List.length z
          simp at l1
      | cons _ _ => simp
    rw [cut_1 pos] at e5
    refine ⟨b, c, _, _, rfl, SqL.of (s4 _ _ e4), SqL.of e5, fun d ks H5 s5 n5 e6 len6 nod6 at6 => ?_⟩
    have few := hl.few
    have lks : ks.length = (sds ar).length := by
      rw [len6, sds_len, List.length_drop, List.length_map]
      omega
    refine q d ks ar H5 (s1.trans (s2.trans (s3.trans (s4.trans s5)))) (s1.free (s2.free (s3.free (s4.free n5)))) e6 ⟨lks, fun j k ek => ?_⟩ mem (by omega) arn
    obtain ⟨_, _, x, y, x1, y1, hk⟩ := at6 j k ek
    obtain ⟨e, ee, rfl, rfl⟩ := zip_sds x1 y1
    exact ⟨e, ee, hk⟩
end
/-! ### k07: the sides that are seen -/
section
variable {P : Program} {w : World} {K : PySem.W.Frag} {mg : Str → Option Value} {base : Heap}
/-- the two addresses that stand at an address -/
def pv2 (H : Hp) (k : Addr) : Addr × Addr := match H k with
  | some (.tup [.ref a, .ref b]) => (a, b)
  | _ => (0, 0)
theorem pv2_of {H : Hp} {k a b : Addr} (h : H k = some (.tup [.ref a, .ref b])) : pv2 H k = (a, b) := by
  unfold pv2
  rw [h]
/-- tuples of two addresses -/
structure Prs (H : Hp) (ks : List Addr) (es : List (Addr × Addr)) : Prop where
  at_ : ∀ k ∈ ks, H k = some (.tup [.ref (pv2 H k).1, .ref (pv2 H k).2])
  map : ks.map (pv2 H) = es
theorem PrAt.prs {H : Hp} {ks : List Addr} {es : List (Addr × Addr)} (h : PrAt H ks es) : Prs H ks es := by
  refine ⟨fun k m => ?_, List.ext_getElem? fun j => ?_⟩
  · obtain ⟨j, hj, rfl⟩ := List.getElem_of_mem m
    obtain ⟨e, _, hk⟩ := h.at_ j _ (List.getElem?_eq_getElem hj)
    rw [pv2_of hk]
    exact hk
  · rw [List.getElem?_map]
    by_cases c : j < ks.length
    · obtain ⟨e, e1, hk⟩ := h.at_ j _ (List.getElem?_eq_getElem c)
      rw [List.getElem?_eq_getElem c, e1, Option.map_some, pv2_of hk]
    · rw [List.getElem?_eq_none (by omega), List.getElem?_eq_none (by rw [← h.len]; omega)]
      rfl
theorem pv2_same {H H' : Hp} {k a b : Addr} (h : H k = some (.tup [.ref a, .ref b])) (s : Same H H') : pv2 H' k = pv2 H k := by
  rw [pv2_of h, pv2_of (s _ _ h)]
theorem Prs.same {H H' : Hp} {ks : List Addr} {es : List (Addr × Addr)} (h : Prs H ks es) (s : Same H H') : Prs H' ks es := by
  have e : ∀ k ∈ ks, pv2 H' k = pv2 H k := fun k m => pv2_same (h.at_ k m) s
  refine ⟨fun k m => by rw [e k m]; exact s _ _ (h.at_ k m), ?_⟩
  rw [← h.map]
  exact List.map_congr_left e
theorem Prs.sub {H : Hp} {ks us : List Addr} {es : List (Addr × Addr)} (h : Prs H ks es) (s : ∀ u ∈ us, u ∈ ks) : Prs H us (us.map (pv2 H)) := ⟨fun k m => h.at_ k (s k m), rfl⟩
theorem range_picked {α : Type} (d : α) : ∀ {l : List α} {m : List Bool}, l.length = m.length → ((List.range l.length).filter fun i => m.getD i false).map (fun i => l.getD i d) = picked (l.zip m) := fun {l m} len => by
  have e : l.zip m = (List.range l.length).map fun i => (l.getD i d, m.getD i false) := by
    apply List.ext_getElem?
    intro j
    rw [List.getElem?_map]
    by_cases c : j < l.length
    · rw [List.getElem?_range c, Option.map_some, List.getElem?_eq_getElem (by rw [List.length_zip]; omega), List.getElem_zip, List.getD_eq_getElem?_getD, List.getD_eq_getElem?_getD, List.getElem?_eq_getElem c, List.getElem?_eq_getElem (by omega)]
      rfl
    · rw [List.getElem?_eq_none (by rw [List.length_zip]; omega), List.getElem?_eq_none (by rw [List.length_range]; omega)]
      rfl
  rw [e]
  unfold picked
  rw [List.filter_map, List.map_map]
  rfl
theorem picked_sub {α : Type} {l : List α} {m : List Bool} : ∀ x ∈ picked (l.zip m), x ∈ l := fun x h => (List.of_mem_zip (picked_mem.mp h)).1
theorem mks_sds (s : Pt) (g : Addr → Pt) (ar : List Addr) : mks s (ar.map g) = (sds ar).map fun e => decide (tn (g e.1) (g e.2) s < 0) := by
  unfold mks
  rw [sds_map, List.map_map]
  rfl
theorem bl_head {b : Bool} {l : List Bool} : atI ((b :: l).map V.bl) 0 = some (.bl b) := atI_nat (j := 0) rfl
theorem bl_last {b : Bool} {l : List Bool} (h : l.getLast? = some b) : atI (l.map V.bl) (-1) = some (.bl b) := by
  obtain ⟨ys, rfl⟩ := List.getLast?_eq_some_iff.mp h
  rw [List.map_append]
  exact atI_last _ _
theorem bl_flat (l : List Bool) : (l.map V.bl).all flatV = true := by
  rw [List.all_eq_true]
  intro z m
  obtain ⟨c, _, rfl⟩ := List.mem_map.mp m
  rfl
theorem bl_before {l : List Bool} {j : Nat} (before : ∀ m, m < j → l[m]? = some true) : ∀ (m : Nat) (z : V), m < j → (l.map V.bl)[m]? = some z → eqV z (.bl false) = false := fun m z lt ez => by
  rw [List.getElem?_map, before m lt] at ez
  cases ez
  rfl
abbrev s_check_site : Stmt := topS 7
abbrev n_check_site : List Str := ["value", "name"]
theorem c_check_site : FnScope n_check_site ["value", "name"] (defScope s_check_site) := ⟨rfl, rfl, rfl, by decide +kernel, rfl, by decide +kernel, by decide +kernel⟩
def p_check_site : Sp := fun vs H Q _ => ∃ (t : Addr) (x y : Int) (z : Str), vs = [.ref t, .str z] ∧ Sit H t x y ∧ Bd 1000000 x y ∧ Q .non H
set_option pp.maxSteps 300 in
theorem ok_check_site  (D : Df K mg "check_site" s_check_site ["value", "name"]) (C_is_site : Cl P w K mg base CX0 "is_site" 1 ["value"] (p_is_site)) : Cl P w K mg base CX0 "check_site" 2 ["value", "name"] (p_check_site) := by
  refine D.cl fun f fd F => F.ok c_check_site (fun vs H Q E h => ?_) (fun cdv A outer s H vs Q E hr h => ?_)
  · obtain ⟨t, x, y, z, rfl, st, hb, q⟩ := h
    rfl
  · obtain ⟨t, x, y, z, rfl, st, hb, q⟩ := h
    have nd := c_check_site.nd
    have hu : _ := hu_of hr
    refine ⟨_, (pss_one (ps_if (pt_not (pt_val (pe_cl C_is_site (hr.mono (by decide)) (by rfl) pass0 (pa_cons (pv 0) pa_nil)))) (pss_one ps_never) pss_nil)), ?_⟩
    repeat array_get_dec
    refine ⟨t, x, y, rfl, st, hb, ?_⟩
    repeat array_get_dec
    exact q
abbrev s_seen_sides : Stmt := topS 20
abbrev n_seen_sides : List Str := ["sites", "site", "rows", "x", "y", "sides", "seen", "told", "ax", "ay", "bx", "by", "side", "is_seen"]
theorem c_seen_sides : FnScope n_seen_sides ["sites", "site"] (defScope s_seen_sides) := ⟨rfl, rfl, rfl, by decide +kernel, rfl, by decide +kernel, by decide +kernel⟩
def p_seen_sides : Sp := fun vs H Q _ => ∃ (p t : Addr) (x y : Int) (ts rs : List Addr) (f : Addr → Pt) (p0 q : Pt), vs = [.ref p, .ref t] ∧ Lot f H p ts ∧ rs.Perm ts ∧ Ends2 (rs.map f) p0 q ∧ Sit H t x y ∧ Bd 1000000 x y ∧
  ∀ l ks out ar H', Same H H' → H l = none → H' l = some (.lst (ks.map V.ref)) → Prs H' ks out → (∀ e ∈ out, e.1 ∈ ts ∧ e.2 ∈ ts) → Arnd p0 q (rs.map f) ar → SeenL (sds ar) (mks (x, y) ar) (out.map fun e => (f e.1, f e.2)) → ks.length ≤ 1000 → Q (.ref l) H'
set_option pp.maxSteps 300 in
theorem ok_seen_sides  (D : Df K mg "seen_sides" s_seen_sides ["sites", "site"]) (C_ascending : Cl P w K mg base CX0 "ascending" 2 ["sites"] (p_ascending)) (C_sides_of : Cl P w K mg base CX0 "sides_of" 2 ["rows"] (p_sides_of)) (C_check_site : Cl P w K mg base CX0 "check_site" 2 ["value", "name"] (p_check_site)) (mlen : mg "len" = none) (mzip : mg "zip" = none) : Cl P w K mg base CX0 "seen_sides" 3 ["sites", "site"] (p_seen_sides) := by
  refine D.cl fun f fd F => F.ok c_seen_sides (fun vs H Q E h => ?_) (fun cdv A outer s H vs Q E hr h => ?_)
  · obtain ⟨p, t, x, y, ts, rs, g, p0, q0, rfl, hl, pm, he, st, hb, q⟩ := h
    rfl
  · obtain ⟨p, t, x, y, ts, rs, g, p0, q0, rfl, hl, pm, he, st, hb, q⟩ := h
    have nd := c_seen_sides.nd
    have hu : _ := hu_of hr
    refine ⟨_, (pss_cons (ps_set (i := 2) nd rfl (.inl rfl) (pe_cl C_ascending (hr.mono (by decide)) (by rfl) pass0 (pa_cons (pv 0) pa_nil))) (pss_cons (ps_expr (pe_cl C_check_site (hr.mono (by decide)) (by rfl) pass0 (pa_cons (pv 1) (pa_cons pe_str pa_nil)))) (pss_cons (ps_asg (pv 1) (pg_tup (by rfl) (pgs_cons (pg_name (i := 3) nd rfl (.inr rfl)) (pgs_cons (pg_name (i := 4) nd rfl (.inr rfl)) pgs_nil)))) (pss_cons (ps_set (i := 5) nd rfl (.inl rfl) (pe_cl C_sides_of (hr.mono (by decide)) (by rfl) pass0 (pa_cons (pv 2) pa_nil))) (pss_cons (ps_setLc (i := 6) (own := [("ax", 8), ("ay", 9), ("bx", 10), ("by", 11)]) (g := (gTup K 2 (gCons (gTup K 2 (gCons (gName 8) (gCons (gName 9) gNil))) (gCons (gTup K 2 (gCons (gName 10) (gCons (gName 11) gNil))) gNil)))) (tt := tYes)  rfl nd rfl rfl (sw_true rfl rfl rfl (by decide +kernel)) (pi_list (pv 5)) (blkOk_by (own := [("ax", 8), ("ay", 9), ("bx", 10), ("by", 11)]) (N := n_seen_sides) (sc := defScope s_seen_sides) (by decide +kernel)) (fun _ _ _ _ _ => by exact (pg_tup (by rfl) (pgs_cons (pg_tup (by rfl) (pgs_cons (pg_name (i := 8) nd rfl (.inl rfl)) (pgs_cons (pg_name (i := 9) nd rfl (.inl rfl)) pgs_nil))) (pgs_cons (pg_tup (by rfl) (pgs_cons (pg_name (i := 10) nd rfl (.inl rfl)) (pgs_cons (pg_name (i := 11) nd rfl (.inl rfl)) pgs_nil))) pgs_nil)))) (fun _ _ _ _ _ => by exact pts_nil) (fun _ _ _ _ _ => by exact (pe_cmpR op_lt (pe_op op_mulW (pe_op op_sub (pv 10) (pv 8)) (pe_op op_sub (pv 4) (pv 9))) (pe_op op_mulW (pe_op op_sub (pv 11) (pv 9)) (pe_op op_sub (pv 3) (pv 8))) (nomark _)))) (pss_cons (ps_setLc (i := 7) (own := [("side", 12), ("is_seen", 13)]) (g := (gTup K 2 (gCons (gName 12) (gCons (gName 13) gNil))))  rfl nd rfl rfl (sw_true rfl rfl rfl (by decide +kernel)) (pi_zip (by rfl) mzip (pa_cons (pv 5) (pa_cons (pv 6) pa_nil))) (blkOk_by (own := [("side", 12), ("is_seen", 13)]) (N := n_seen_sides) (sc := defScope s_seen_sides) (by decide +kernel)) (fun _ _ _ _ _ => by exact (pg_tup (by rfl) (pgs_cons (pg_name (i := 12) nd rfl (.inl rfl)) (pgs_cons (pg_name (i := 13) nd rfl (.inl rfl)) pgs_nil)))) (fun _ _ _ _ _ => by exact (pts_one (pt_val (pv 13)))) (fun _ _ _ _ _ => by exact (pv 12))) (pss_cons (ps_if (PW.pt (pw_or (pt_not (pt_truth (pv 7) (fun _ => rfl))) (pw_or (pt_not (pt_val (pe_ix ix_list (pv 6) pe_int (fun _ _ => rfl)))) (pw_or1 (pt_not (pt_val (pe_ix ix_list (pv 6) pe_neg (fun _ _ => rfl)))))))) (pss_one (ps_ret (pv 7))) pss_nil) (pss_one (ps_ret (pe_op op_catG (pe_slice sl_listG (pv 5) (po_some (pe_op op_sub (pe_callB call_len_seq (by rfl) mlen (by decide +kernel) (pa_cons (pv 5) pa_nil)) (pe_bm PySem.F.plainAttrs_list PySem.F.slot_list_index PySem.F.type_list_index mt_index (pe_revL (pv 6)) (pa_cons pe_bl pa_nil)))) po_none) (pe_slice sl_listG (pv 5) po_none (po_some (pe_bm PySem.F.plainAttrs_list PySem.F.slot_list_index PySem.F.type_list_index mt_index (pv 6) (pa_cons pe_bl pa_nil)))))))))))))), ?_⟩
    repeat array_get_dec
    refine ⟨p, ts, g, rfl, hl, fun us p1 H1 pm1 so1 s1 n1 hl1 => ?_⟩
    have eU := perm_map_eq pm pm1 he.so so1
    have he1 : Ends2 (us.map g) p0 q0 := by rw [eU]; exact he
    have st1 := s1 _ _ st
    repeat array_get_dec
    refine ⟨t, x, y, _, rfl, st1, hb, ?_⟩
    unfold Sit at st1
    repeat array_get_dec
    refine ⟨p1, us, g, p0, q0, rfl, hl1, he1, fun l ks ar H2 s2 n2 e2 pr mem few arn => ?_⟩
    rw [eU] at arn
    have W := arnd_wrap he arn (x, y)
    have len2 : ks.length = (mks (x, y) (ar.map g)).length := by
      rw [pr.len, mks_sds, List.length_map]
    have fewk : ks.length ≤ 400 := by
      rw [pr.len, sds_len]
      omega
    obtain ⟨b1, b2, b3, b4⟩ := hb
    have lk : (ks.map V.ref).length = ks.length := List.length_map _
    show tSeq _ _ _ [some (.ref p), some (.ref t), some (.ref p1), some (.int x), some (.int y), some (.ref l), none, none, none, none, none, none, none, none] H2
    repeat array_get_dec
    refine ⟨⟨_, SqL.of e2⟩, fun D nD => ?_⟩
    refine lc_val (walk_list (xs := ks.map V.ref)) nD (by rw [lk]; omega) (fun H3 s3 => SqL.of (s3 _ _ e2)) ((mks (x, y) (ar.map g)).map V.bl) (by rw [List.length_map, lk, len2]) (fun i v z H3 H4 Kp' hy s3 eD yi fin' => ?_) fun H3 s3 eD => ?_
    · obtain ⟨rfl, hx⟩ := yi
      obtain ⟨k, ek, rfl, mk⟩ := ref_at hx
      obtain ⟨e, ee, hk⟩ := pr.at_ i k ek
      have me := sds_mem (List.mem_of_getElem? ee)
      have hl3 := (hl1.same s2).same s3
      have z1 := hl3.sit e.1 (mem _ me.1)
      have z2 := hl3.sit e.2 (mem _ me.2)
      have hk3 := s3 _ _ hk
      obtain ⟨z11, c1, c2, c3, c4⟩ := z1
      obtain ⟨z21, d1, d2, d3, d4⟩ := z2
      unfold Sit at z11 z21
      rw [show wipe [some (.ref p), some (.ref t), some (.ref p1), some (.int x), some (.int y), some (.ref l), none, none, none, none, none, none, none, none] (List.map (fun x => x.2) [(Str.ofString "ax", 8), (Str.ofString "ay", 9), (Str.ofString "bx", 10), (Str.ofString "by", 11)]) = [some (.ref p), some (.ref t), some (.ref p1), some (.int x), some (.int y), some (.ref l), none, none, none, none, none, none, none, none] from rfl]
      repeat array_get_dec
      have hz : z = .bl (decide (((g e.2).1 - (g e.1).1) * (y - (g e.1).2) < ((g e.2).2 - (g e.1).2) * (x - (g e.1).1))) := by
        rw [List.getElem?_map, mks_sds, List.getElem?_map, ee] at hy
        rw [← Option.some.inj hy]
        congr 1
        refine decide_eq_decide.mpr ?_
        unfold tn
        simp only
        omega
      rw [hz] at fin'
      exact fin' _ (Same.refl _)
    have S3 := s1.trans (s2.trans s3)
    have e3 := s3 _ _ e2
    have lm : ((mks (x, y) (ar.map g)).map V.bl).length = ks.length := by rw [List.length_map, ← len2]
    have l_ne : H l = none := s1.free n2
    generalize hmk : mks (x, y) (ar.map g) = mk at eD W len2 lm
    show tSeq _ _ _ [some (.ref p), some (.ref t), some (.ref p1), some (.int x), some (.int y), some (.ref l), some (.ref D), none, none, none, none, none, none, none] H3
    repeat array_get_dec
    have hn : ks.length = min (ks.map V.ref).length (mk.map V.bl).length := by rw [lm, lk]; omega
    refine ⟨l, D, _, _, rfl, SqL.of e3, SqL.of eD, fun D2 nD2 => ?_⟩
    refine lc_fil (walk_zip hn) nD2 (by omega) (fun H4 s4 => ⟨SqL.of (s4 _ _ e3), SqL.of (s4 _ _ eD)⟩) (fun i => mk.getD i false) (fun i => .ref (ks.getD i p)) (fun i v H4 H5 Kp Kn hi s4 eD2 yi fin finN => ?_) fun H4 s4 eD2 => ?_
    · obtain ⟨T, x1, x2, rfl, nT, rfl, h1, h2⟩ := yi
      obtain ⟨k, ek, rfl, mkk⟩ := ref_at h1
      have h2 : (mk.map V.bl)[i]? = some x2 := h2
      rw [List.getElem?_map] at h2
      obtain ⟨b, eb, rfl⟩ := Option.map_eq_some_iff.mp h2
      rw [getD_at ek] at fin
      rw [getD_at eb] at fin finN
      rw [show wipe [some (.ref p), some (.ref t), some (.ref p1), some (.int x), some (.int y), some (.ref l), some (.ref D), none, none, none, none, none, none, none] (List.map (fun x => x.2) [(Str.ofString "side", 12), (Str.ofString "is_seen", 13)]) = [some (.ref p), some (.ref t), some (.ref p1), some (.int x), some (.int y), some (.ref l), some (.ref D), none, none, none, none, none, none, none] from rfl]
      refine ⟨T, _, rfl, SqT.of upd_same, rfl, ?_⟩
      repeat array_get_dec
      cases b
      · exact finN _ rfl (Same.upd nT)
      · refine ⟨_, rfl, ?_⟩
        exact fin _ rfl (Same.upd nT)
    have eP : H4 D2 = some (.lst ((picked (ks.zip mk)).map V.ref)) := by
      rw [eD2, ← range_picked p len2, List.map_map]
      rfl
    have S4 := S3.trans s4
    have e4 := s4 _ _ e3
    have eM := s4 _ _ eD
    have prs2 : Prs H2 ks (sds ar) := pr.prs
    have prs4 : Prs H4 ks (sds ar) := (prs2.same s3).same s4
    have sdm : (sds ar).map (fun e => (g e.1, g e.2)) = sds (ar.map g) := (sds_map g ar).symm
    have arn2 : Arnd p0 q0 (rs.map g) (ar.map g) := arn
    have back : ∀ us : List Addr, SeenL ks mk us → SeenL (sds (ar.map g)) mk ((us.map (pv2 H4)).map fun e => (g e.1, g e.2)) := fun us h => by
      have z := (h.map (pv2 H4)).map fun e => (g e.1, g e.2)
      rw [prs4.map, sdm] at z
      exact z
    have inT : ∀ us : List Addr, (∀ u ∈ us, u ∈ ks) → ∀ e ∈ us.map (pv2 H4), e.1 ∈ ts ∧ e.2 ∈ ts := fun us h e m => by
      obtain ⟨u, mu, rfl⟩ := List.mem_map.mp m
      have z : pv2 H4 u ∈ sds ar := by
        rw [← prs4.map]
        exact List.mem_map_of_mem (h u mu)
      have := sds_mem z
      exact ⟨pm1.mem_iff.mp (mem _ this.1), pm1.mem_iff.mp (mem _ this.2)⟩
    subst hmk
    -- what is told if it is plain
    have plain : (picked (ks.zip (mks (x, y) (ar.map g))) = [] ∨ (mks (x, y) (ar.map g)).head? ≠ some true ∨ (mks (x, y) (ar.map g)).getLast? ≠ some true) → Q (.ref D2) H4 := fun c => by
      have z := seen_plain len2 c
      refine q D2 _ ((picked (ks.zip (mks (x, y) (ar.map g)))).map (pv2 H4)) (ar.map g) H4 S4 ((s1.trans (s2.trans s3)).free nD2) eP (prs4.sub picked_sub) (inT _ picked_sub) arn2 (back _ z) ?_
      have := List.length_filter_le (·.2) (ks.zip (mks (x, y) (ar.map g)))
      unfold picked
      rw [List.length_map]
      rw [List.length_zip] at this
      omega
    generalize hmk2 : mks (x, y) (ar.map g) = mk at eD W len2 lm eP eM back plain
    show tSeq _ _ _ [some (.ref p), some (.ref t), some (.ref p1), some (.int x), some (.int y), some (.ref l), some (.ref D), some (.ref D2), none, none, none, none, none, none] H4
    repeat array_get_dec
    by_cases c0 : picked (ks.zip mk) = []
    · refine ⟨false, .inl ⟨_, SqL.of eP, by rw [c0]; rfl⟩, ?_⟩
      repeat array_get_dec
      exact plain (.inl c0)
    refine ⟨true, .inl ⟨_, SqL.of eP, ?_⟩, ?_⟩
    · cases hp : picked (ks.zip mk) with
      | nil => exact absurd hp c0
      | cons _ _ => rfl
    repeat array_get_dec
    obtain ⟨m0, mr, em⟩ : ∃ m0 mr, mk = m0 :: mr := by
      cases mk with
      | nil => exact absurd (by simp [picked]) c0
      | cons a r => exact ⟨a, r, rfl⟩
    have eM0 : H4 D = some (.lst ((m0 :: mr).map V.bl)) := by rw [← em]; exact eM
    refine ⟨D, _, 0, _, rfl, rfl, SqL.of eM0, bl_head, ?_⟩
    refine ⟨_, rfl, ?_⟩
    cases m0
    · repeat array_get_dec
      exact plain (.inr (.inl (by rw [em]; exact fun z => Bool.noConfusion (Option.some.inj z))))
    repeat array_get_dec
    obtain ⟨ml, el⟩ : ∃ ml, mk.getLast? = some ml := by rw [em]; exact ⟨_, List.getLast?_eq_some_getLast (List.cons_ne_nil _ _)⟩
    refine ⟨D, _, -1, _, rfl, rfl, SqL.of eM, bl_last el, ?_⟩
    refine ⟨_, rfl, ?_⟩
    cases ml
    · repeat array_get_dec
      exact plain (.inr (.inr (by rw [el]; exact fun z => Bool.noConfusion (Option.some.inj z))))
    obtain ⟨i, j, ei, bi, ej, bj, li, lj, sn⟩ := seen_wrap len2 W (by rw [em]; rfl) el
    repeat array_get_dec
    refine ⟨D, _, rfl, SqL.of eM, fun r5 n5 => ?_⟩
    have S5 : Same H4 (upd H4 r5 (.lst (mk.map V.bl).reverse)) := Same.upd n5
    have e5 : (upd H4 r5 (.lst (mk.map V.bl).reverse)) r5 = some (.lst (mk.reverse.map V.bl)) := by rw [upd_same, List.map_reverse]
    generalize upd H4 r5 (.lst (mk.map V.bl).reverse) = H5 at S5 e5 ⊢
    refine ⟨.inl ⟨rfl, _, SqL.of e5⟩, ?_⟩
    repeat array_get_dec
    refine ⟨r5, _, .bl false, j, .bl false, rfl, rfl, SqL.of e5, rfl, bl_flat _, by rw [List.getElem?_map, ej]; rfl, rfl, bl_before bj, ?_⟩
    repeat array_get_dec
    have ec : (((ks.map V.ref).length : Nat) : Int) - ((j : Nat) : Int) = ((ks.length - j : Nat) : Int) := by rw [lk]; omega
    have el5 := S5 _ _ e4
    refine ⟨l, _, rfl, SqL.of el5, fun u6 H6 s6 n6 e6 => ?_⟩
    rw [ec, cut_from (by rw [lk]; omega), ← List.map_drop] at e6
    have el6 := s6 _ _ el5
    have eM6 := s6 _ _ (S5 _ _ eM)
    repeat array_get_dec
    refine ⟨.inl ⟨rfl, _, SqL.of eM6⟩, ?_⟩
    repeat array_get_dec
    refine ⟨D, _, .bl false, i, .bl false, rfl, rfl, SqL.of eM6, rfl, bl_flat _, by rw [List.getElem?_map, ei]; rfl, rfl, bl_before bi, ?_⟩
    repeat array_get_dec
    refine ⟨l, _, rfl, SqL.of el6, fun u7 H7 s7 n7 e7 => ?_⟩
    rw [cut_to (by rw [lk]; omega), ← List.map_take] at e7
    have e67 := s7 _ _ e6
    refine ⟨u6, u7, _, _, rfl, rfl, e67, e7, ?_, fun u8 H8 s8 n8 e8 => ?_⟩
    · rw [List.length_map, List.length_map, List.length_drop, List.length_take]
      exact Nat.le_trans (show _ ≤ 1000 by omega) (by decide)
    have S48 : Same H4 H8 := S5.trans (s6.trans (s7.trans s8))
    rw [← List.map_append] at e8
    have sub8 : ∀ u ∈ ks.drop (ks.length - j) ++ ks.take i, u ∈ ks := fun u m => by
      rcases List.mem_append.mp m with m | m
      · exact List.mem_of_mem_drop m
      · exact List.mem_of_mem_take m
    have pr8 := (prs4.sub sub8).same S48
    have fin := back _ sn
    rw [← hmk2] at fin
    refine q u8 _ _ (ar.map g) H8 (S4.trans S48) (S4.free (S5.free (s6.free (s7.free n8)))) e8 pr8 (inT _ sub8) arn2 fin ?_
    rw [List.length_append, List.length_drop, List.length_take]
    omega
end
/-! ### k07: the law's sides of a ring -/
section
variable {P : Program} {w : World} {K : PySem.W.Frag} {mg : Str → Option Value} {base : Heap}
def rRepG : R2 := fun x y H Q => ∃ l k xs, x = .ref l ∧ y = .int k ∧ H l = some (.lst xs) ∧ -(2 ^ 63) ≤ k ∧ k < 2 ^ 63 ∧ xs.length * k.toNat ≤ sizeLine ∧ ∀ p H2, Same H H2 → H p = none → H2 p = some (.lst (List.replicate k.toNat xs).flatten) → Q (.ref p) H2
theorem op_repG {X : Cx} : OpR X (binaryOp .Mult) rRepG := fun pins s σ H x y v u Q I rx ry w => by
  rcases w with ⟨l, k, xs, e1, e2, h1, b1, b2, z, q⟩
  exact op_rep pins s σ H x y v u Q I rx ry ⟨l, k, xs, e1, e2, h1, b1, b2, z, fun p np => q p _ (Same.upd np) np upd_same⟩
/-- the way along the law's sides -/
def RngA (f : Addr → Pt) (us ar : List Addr) : Prop := (us.length ≤ 1 → ar = us) ∧ (1 < us.length → Row (us.map f) → ar = us ++ us.dropLast.reverse) ∧ (1 < us.length → ¬ Row (us.map f) → ar = us ++ us.take 1)
theorem sds_rev {α : Type} : ∀ l : List α, sds l.reverse = ((sds l).map fun e => (e.2, e.1)).reverse
  | [] => rfl
  | [_] => rfl
  | a :: b :: r => by
    have e : (a :: b :: r).reverse = r.reverse ++ b :: [a] := by simp
    have e2 : r.reverse ++ [b] = (b :: r).reverse := by simp
    have e3 : ((sds (a :: b :: r)).map fun e => (e.2, e.1)).reverse = ((sds (b :: r)).map fun e => (e.2, e.1)).reverse ++ [(b, a)] := by rw [sds_cons, List.map_cons, List.reverse_cons]
    rw [e, sds_app, e2, sds_rev (b :: r), e3]
    rfl
theorem sds_there {α : Type} (l : List α) : sds (l ++ l.dropLast.reverse) = sds l ++ ((sds l).map fun e => (e.2, e.1)).reverse := by
  rcases List.eq_nil_or_concat l with rfl | ⟨r, q, rfl⟩
  · rfl
  · rw [List.concat_eq_append, ← sds_rev, List.dropLast_concat, List.append_assoc, List.singleton_append, sds_app r q r.reverse]
    congr 1
    rw [List.reverse_append]
    rfl
theorem sds_close {α : Type} {l : List α} {a b : α} (h : l.getLast? = some b) : sds (l ++ [a]) = sds l ++ [(b, a)] := by
  obtain ⟨r, rfl⟩ := List.getLast?_eq_some_iff.mp h
  rw [List.append_assoc, List.singleton_append, sds_app r b [a]]
  rfl
theorem sds_range {α : Type} (d : α) : ∀ l : List α, (List.range (l.length - 1)).map (fun i => (l.getD i d, l.getD (i + 1) d)) = sds l := fun l => by
  apply List.ext_getElem?
  intro j
  rw [List.getElem?_map]
  by_cases c : j < l.length - 1
  · have h1 : j < l.length := by omega
    have h2 : j + 1 < l.length := by omega
    have e : (sds l)[j]? = some (l[j], l[j + 1]) := by
      unfold sds
      rw [List.getElem?_zip_eq_some]
      exact ⟨List.getElem?_eq_getElem h1, by rw [List.getElem?_drop, Nat.add_comm, List.getElem?_eq_getElem h2]⟩
    rw [e, List.getElem?_range c, Option.map_some, List.getD_eq_getElem?_getD, List.getD_eq_getElem?_getD, List.getElem?_eq_getElem h1, List.getElem?_eq_getElem h2]
    rfl
  · rw [List.getElem?_eq_none (by rw [List.length_range]; omega), List.getElem?_eq_none (by rw [sds_len]; omega)]
    rfl
/-- the law's way is the program's -/
theorem ring_arnd {p0 q : Pt} {rows out : List Pt} {f : Addr → Pt} {us ar : List Addr} (e : Ends2 rows p0 q) (hb : Brd p0 q rows out) (eo : us.map f = out) (h : RngA f us ar) : Arnd p0 q rows (ar.map f) := by
  obtain ⟨h1, h2, h3⟩ := h
  have lu : us.length = out.length := by rw [← eo, List.length_map]
  constructor
  · intro r
    have eu := hb.1 r
    by_cases c : us.length ≤ 1
    · rw [h1 c, eo, eu]
      have : rows.length ≤ 1 := by rw [← eu, ← lu]; exact c
      match rows, this with
      | [], _ => rfl
      | [a], _ => rfl
    · rw [h2 (by omega) (by rw [eo, eu]; exact r), List.map_append, List.map_reverse, List.map_dropLast, eo, eu]
  · intro nr
    have eu := hb.2 nr
    obtain ⟨mid, eB, R⟩ := ringB_of e.so e.h0 e.hq nr
    have no : ¬ Row (us.map f) := by
      rw [eo, eu]
      intro z
      have n2 : p0 ≠ q := by
        rintro rfl
        refine nr ((row_iff e.so e.h0 e.hq).mpr fun p hp => ?_)
        unfold tn
        simp
      obtain ⟨m, e1, hm⟩ := part_ends ax_tn (least := 0) (by decide) (by decide) e.so e.h0 e.hq n2
      obtain ⟨m', e2, hm'⟩ := part_ends ax_tm (least := 0) (by decide) (by decide) e.so e.h0 e.hq n2
      have ebn : bordN p0 q rows = p0 :: (m.reverse ++ q :: m') := by
        unfold bordN innerR
        rw [e1, e2]
        simp
      refine nr ((row_iff e.so e.h0 e.hq).mpr fun p hp => ?_)
      refine Classical.byContradiction fun np => ?_
      -- one that is off the line: the chain on its side has a site between the ends
      by_cases neg : tn p0 q p < 0
      · have ne : m ≠ [] := by
          rintro rfl
          have c := part_chn (q := q) ax_tn (least := 0) (by decide) (by decide) e.so e.h0
          have mp : p ∈ part tn p0 q rows := List.mem_filter.mpr ⟨hp, decide_eq_true (by omega)⟩
          have := c.low (q, p0) (by rw [e1]; exact List.mem_cons_self) p mp
          simp only at this
          omega
        obtain ⟨x, mx⟩ := List.exists_mem_of_ne_nil m ne
        have xr : x ∈ bordN p0 q rows := by rw [ebn]; simp [mx]
        have z1 := z p0 (by rw [ebn]; simp) q (by rw [ebn]; simp) x xr
        have n1 := part_edge (q := q) ax_tn (least := 0) (by decide) (by decide) e.so e.h0 e.hq (e := (q, p0))
        obtain ⟨y, r, hy⟩ : ∃ y r, m = y :: r := by
          cases m with
          | nil => exact absurd rfl ne
          | cons a b => exact ⟨a, b, rfl⟩
        have all0 : ∀ x ∈ p0 :: (m ++ [q]), tn p0 q x = 0 := fun x mx => z p0 (by rw [ebn]; simp) q (by rw [ebn]; simp) x (by
          rw [ebn]
          simp at mx ⊢
          rcases mx with h | h | h <;> simp [h])
        -- p is over an edge of the chain, whose ends are on the line
        have np0 : p ≠ p0 := by rintro rfl; rw [(tn_end _ _).1] at neg; omega
        have npq : p ≠ q := by rintro rfl; rw [(tn_end _ _).2] at neg; omega
        have c := part_chn (q := q) ax_tn (least := 0) (by decide) (by decide) e.so e.h0
        have mp : p ∈ part tn p0 q rows := List.mem_filter.mpr ⟨hp, decide_eq_true (by omega)⟩
        by_cases on : p ∈ stkG tn 0 (part tn p0 q rows)
        · rw [e1] at on
          have := all0 p (by simp at on ⊢; rcases on with h | h | h <;> simp [h])
          omega
        · have l0 : lt2 p0 p := (first_is e.so e.h0 p hp).resolve_left np0
          have lq : lt2 p q := (last_is e.so e.hq p hp).resolve_left npq
          obtain ⟨ed, me, za, zb⟩ := lex_edge c.srt (by rw [e1]; rfl) (by rw [e1, ← List.cons_append, List.getLast?_concat]) l0 lq on
          have off := off_part (q := q) ax_tn e.so e.h0 ed me p mp za zb
          have q1 := all0 ed.2 (by have := (edg_mem _ _ me).2; rw [e1] at this; simp at this ⊢; rcases this with h | h | h <;> simp [h])
          have q2 := all0 ed.1 (by have := (edg_mem _ _ me).1; rw [e1] at this; simp at this ⊢; rcases this with h | h | h <;> simp [h])
          have lpq := lt2_tr l0 lq
          have := up_tn lpq za zb off (by omega) (by omega)
          omega
      · have pos : 0 < tn p0 q p := by omega
        have neg : tm p0 q p < 0 := by unfold tm; omega
        have all0 : ∀ x ∈ p0 :: (m' ++ [q]), tn p0 q x = 0 := fun x mx => z p0 (by rw [ebn]; simp) q (by rw [ebn]; simp) x (by
          rw [ebn]
          simp at mx ⊢
          rcases mx with h | h | h <;> simp [h])
        have np0 : p ≠ p0 := by rintro rfl; rw [(tn_end _ _).1] at pos; omega
        have npq : p ≠ q := by rintro rfl; rw [(tn_end _ _).2] at pos; omega
        have c := part_chn (q := q) ax_tm (least := 0) (by decide) (by decide) e.so e.h0
        have mp : p ∈ part tm p0 q rows := List.mem_filter.mpr ⟨hp, decide_eq_true (by omega)⟩
        by_cases on : p ∈ stkG tm 0 (part tm p0 q rows)
        · rw [e2] at on
          have := all0 p (by simp at on ⊢; rcases on with h | h | h <;> simp [h])
          omega
        · have l0 : lt2 p0 p := (first_is e.so e.h0 p hp).resolve_left np0
          have lq : lt2 p q := (last_is e.so e.hq p hp).resolve_left npq
          obtain ⟨ed, me, za, zb⟩ := lex_edge c.srt (by rw [e2]; rfl) (by rw [e2, ← List.cons_append, List.getLast?_concat]) l0 lq on
          have off := off_part (q := q) ax_tm e.so e.h0 ed me p mp za zb
          have q1 := all0 ed.2 (by have := (edg_mem _ _ me).2; rw [e2] at this; simp at this ⊢; rcases this with h | h | h <;> simp [h])
          have q2 := all0 ed.1 (by have := (edg_mem _ _ me).1; rw [e2] at this; simp at this ⊢; rcases this with h | h | h <;> simp [h])
          have lpq := lt2_tr l0 lq
          have := ax_tm.up lpq za zb off (by unfold tm; omega) (by unfold tm; omega)
          omega
    have big : 1 < us.length := by
      refine Classical.byContradiction fun c => no ?_
      intro a ha b hb c' hc
      have same : ∀ x ∈ us.map f, ∀ y ∈ us.map f, x = y := fun x hx y hy => by
        cases us with
        | nil => cases hx
        | cons u r =>
          cases r with
          | nil => rw [List.mem_singleton.mp hx, List.mem_singleton.mp hy]
          | cons v r =>
            simp only [List.length_cons] at c
            omega
      rw [same b hb a ha, same c' hc a ha]
      exact (tn_end a a).1
    rw [h3 big no, List.map_append, List.map_take, eo, eu, eB]
    rfl
end
/-! ### k07: the law's sides of a ring, told -/
section
variable {P : Program} {w : World} {K : PySem.W.Frag} {mg : Str → Option Value} {base : Heap}
abbrev s__law_ring_sides : Stmt := topS 33
abbrev n__law_ring_sides : List Str := ["_law_ring_here", "_law_there", "_law_at", "_law_a", "_law_b"]
theorem c__law_ring_sides : FnScope n__law_ring_sides ["_law_ring_here"] (defScope s__law_ring_sides) := ⟨rfl, rfl, rfl, by decide +kernel, rfl, by decide +kernel, by decide +kernel⟩
def p__law_ring_sides : Sp := fun vs H Q _ => ∃ (p : Addr) (us : List Addr) (f : Addr → Pt), vs = [.ref p] ∧ Pts f H p us ∧ ∀ l ks ar H', Same H H' → H l = none → H' l = some (.lst (ks.map V.ref)) → PrAt H' ks (sds ar) → (∀ a ∈ ar, a ∈ us) → ar.length ≤ 2 * us.length → RngA f us ar → Q (.ref l) H'
theorem news_prAt {H : Hp} {D : Addr} {n : Nat} {ks : List Addr} {ob : Nat → HO} {es : List (Addr × Addr)} (h : News H D ob (List.range n) ks) (he : n = es.length) (ho : ∀ i e, es[i]? = some e → ob i = .tup [.ref e.1, .ref e.2]) : PrAt H ks es := by
  have lk : ks.length = n := by rw [h.1, List.length_range]
  refine ⟨by omega, fun j k ek => ?_⟩
  have hj := (List.getElem?_eq_some_iff.mp ek).1
  have ee : es[j]? = some es[j] := List.getElem?_eq_getElem (by omega)
  refine ⟨_, ee, ?_⟩
  rw [← ho j _ ee]
  exact (h.2 j j k (List.getElem?_range (by omega)) ek).2
theorem PrAt.cat {H : Hp} {ks ls : List Addr} {es fs : List (Addr × Addr)} (h : PrAt H ks es) (k : PrAt H ls fs) : PrAt H (ks ++ ls) (es ++ fs) := by
  refine ⟨by rw [List.length_append, List.length_append, h.len, k.len], fun j a e => ?_⟩
  by_cases c : j < ks.length
  · rw [List.getElem?_append_left c] at e
    rw [List.getElem?_append_left (by rw [← h.len]; exact c)]
    exact h.at_ j a e
  · rw [List.getElem?_append_right (by omega)] at e
    rw [List.getElem?_append_right (by rw [← h.len]; omega), ← h.len]
    exact k.at_ _ a e
theorem ix_at {us : List Addr} {i : Nat} {k : Int} (d : Addr) (h : i < us.length) (e : k = (i : Nat)) : atI (us.map V.ref) k = some (.ref (us.getD i d)) := by
  subst e
  refine atI_nat ?_
  rw [List.getElem?_map, List.getElem?_eq_getElem h, List.getD_eq_getElem?_getD, List.getElem?_eq_getElem h]
  rfl
theorem sds_getD {us : List Addr} {i : Nat} {e : Addr × Addr} (d : Addr) (h : (sds us)[i]? = some e) : e = (us.getD i d, us.getD (i + 1) d) := by
  rw [← sds_range d us, List.getElem?_map] at h
  obtain ⟨j, hj, rfl⟩ := Option.map_eq_some_iff.mp h
  have := List.getElem?_eq_some_iff.mp hj
  obtain ⟨l1, e1⟩ := this
  rw [List.getElem_range] at e1
  rw [e1]
set_option pp.maxSteps 300 in
theorem ok__law_ring_sides  (D : Df K mg "_law_ring_sides" s__law_ring_sides ["_law_ring_here"]) (C__law_flat : Cl P w K mg base CX0 "_law_flat" 2 ["_law_sites_so"] (p__law_flat)) (mint : mg "int" = none) (mlen : mg "len" = none) (mrange : mg "range" = none) : Cl P w K mg base CX0 "_law_ring_sides" 3 ["_law_ring_here"] (p__law_ring_sides) := by
  refine D.cl fun f fd F => F.ok c__law_ring_sides (fun vs H Q E h => ?_) (fun cdv A outer s H vs Q E hr h => ?_)
  · obtain ⟨p, us, g, rfl, hl, q⟩ := h
    rfl
  · obtain ⟨p, us, g, rfl, hl, q⟩ := h
    have nd := c__law_ring_sides.nd
    have hu : _ := hu_of hr
    refine ⟨_, (pss_cons (ps_if (PW.pt (pw_and (pt_cmpR op_gt (pe_callB call_len_seq (by rfl) mlen (by decide +kernel) (pa_cons (pv 0) pa_nil)) pe_int (nomark _)) (pw_and1 (pt_val (pe_cl C__law_flat (hr.mono (by decide)) (by rfl) pass0 (pa_cons (pv 0) pa_nil)))))) (pss_cons (ps_setLc (i := 1) (own := [("_law_at", 2)]) (g := (gName 2)) (tt := tYes)  rfl nd rfl rfl (sw_true rfl rfl rfl (by decide +kernel)) (pi_range1 (by rfl) mrange (pa_cons (pe_op op_sub (pe_callB call_len_seq (by rfl) mlen (by decide +kernel) (pa_cons (pv 0) pa_nil)) pe_int) pa_nil)) (blkOk_by (own := [("_law_at", 2)]) (N := n__law_ring_sides) (sc := defScope s__law_ring_sides) (by decide +kernel)) (fun _ _ _ _ _ => by exact (pg_name (i := 2) nd rfl (.inl rfl))) (fun _ _ _ _ _ => by exact pts_nil) (fun _ _ _ _ _ => by exact (pe_tupG (pa_cons (pe_ix (r := rIxL K) (by exact ix_list) (pv 0) (pv 2) (fun _ _ => rfl)) (pa_cons (pe_ix (r := rIxL K) (by exact ix_list) (pv 0) (pe_op op_add (pv 2) pe_int) (fun _ _ => rfl)) pa_nil))))) (pss_one (ps_ret (pe_op op_catG (pv 1) (pe_lc (own := [("_law_a", 3), ("_law_b", 4)]) (g := (gTup K 2 (gCons (gName 3) (gCons (gName 4) gNil)))) (tt := tYes)  rfl nd (pi_list (pe_revL (pv 1))) (blkOk_by (own := [("_law_a", 3), ("_law_b", 4)]) (N := n__law_ring_sides) (sc := defScope s__law_ring_sides) (by decide +kernel)) (fun _ _ _ _ _ => by exact (pg_tup (by rfl) (pgs_cons (pg_name (i := 3) nd rfl (.inl rfl)) (pgs_cons (pg_name (i := 4) nd rfl (.inl rfl)) pgs_nil)))) (fun _ _ _ _ _ => by exact pts_nil) (fun _ _ _ _ _ => by exact (pe_tupG (pa_cons (pv 4) (pa_cons (pv 3) pa_nil))))))))) pss_nil) (pss_one (ps_ret (pe_op op_catG (pe_lc (own := [("_law_at", 2)]) (g := (gName 2)) (tt := tYes)  rfl nd (pi_range2 (by rfl) mrange (pa_cons pe_int (pa_cons (pe_callB call_len_seq (by rfl) mlen (by decide +kernel) (pa_cons (pv 0) pa_nil)) pa_nil))) (blkOk_by (own := [("_law_at", 2)]) (N := n__law_ring_sides) (sc := defScope s__law_ring_sides) (by decide +kernel)) (fun _ _ _ _ _ => by exact (pg_name (i := 2) nd rfl (.inl rfl))) (fun _ _ _ _ _ => by exact pts_nil) (fun _ _ _ _ _ => by exact (pe_tupG (pa_cons (pe_ix (r := rIxL K) (by exact ix_list) (pv 0) (pe_op op_sub (pv 2) pe_int) (fun _ _ => rfl)) (pa_cons (pe_ix (r := rIxL K) (by exact ix_list) (pv 0) (pv 2) (fun _ _ => rfl)) pa_nil))))) (pe_op op_repG (pe_lstG (pa_cons (pe_tupG (pa_cons (pe_ix ix_list (pv 0) pe_neg (fun _ _ => rfl)) (pa_cons (pe_ix ix_list (pv 0) pe_int (fun _ _ => rfl)) pa_nil))) pa_nil)) (pe_callTy call_int1 (by rfl) mint (by decide +kernel) (pa_cons (pe_cmpR op_gt (pe_callB call_len_seq (by rfl) mlen (by decide +kernel) (pa_cons (pv 0) pa_nil)) pe_int (nomark _)) pa_nil))))))), ?_⟩
    have lus : (us.map V.ref).length = us.length := List.length_map _
    have pos := hl.pos
    have few := hl.few
    have e0 := hl.at_
    repeat array_get_dec
    by_cases c1 : 1 < us.length
    · repeat array_get_dec
      refine ⟨p, us, g, rfl, hl, fun H1 b s1 hb => ?_⟩
      have e1 := s1 _ _ e0
      cases b
      · have nr : ¬ Row (us.map g) := fun z => Bool.noConfusion (hb.mpr z)
        repeat array_get_dec
        refine ⟨⟨by omega, by omega, by omega, by omega⟩, fun D nD => ?_⟩
        have hN : ((((us.map V.ref).length : Nat) : Int) - 1).toNat = us.length - 1 := by omega
        refine lc_newA (walk_range (lo := 1) (n := ((((us.map V.ref).length : Nat) : Int) - 1).toNat)) nD (by omega) (fun _ _ => trivial) (fun i => .tup [.ref (us.getD i p), .ref (us.getD (i + 1) p)]) (fun i x' H2 H3 Kp hi s2 eD yi fin => ?_) fun H2 ks s2 eD nw => ?_
        · obtain ⟨rfl, rfl⟩ := yi
          have e2 := s2 _ _ e1
          repeat array_get_dec
          refine ⟨p, _, _, _, rfl, rfl, SqL.of e2, ix_at p (show i < us.length by omega) (by omega), ?_⟩
          repeat array_get_dec
          refine ⟨p, _, _, _, rfl, rfl, SqL.of e2, ix_at p (show i + 1 < us.length by omega) (by omega), ?_⟩
          repeat array_get_dec
          exact fun t H5 s5 n5 e5 => fin t H5 s5 n5 e5
        · rw [hN] at nw
          have pr := news_prAt nw (es := sds us) (by rw [sds_len]) fun i e he => by rw [sds_getD p he]
          have e2 := s2 _ _ e1
          obtain ⟨t0, r0, eus⟩ : ∃ t0 r0, us = t0 :: r0 := by
            cases us with
            | nil => cases pos
            | cons a r => exact ⟨a, r, rfl⟩
          obtain ⟨tl, etl⟩ : ∃ tl, us.getLast? = some tl := by rw [eus]; exact ⟨_, List.getLast?_eq_some_getLast (List.cons_ne_nil _ _)⟩
          have eh : us.head? = some t0 := by rw [eus]; rfl
          repeat array_get_dec
          refine ⟨p, _, -1, _, rfl, rfl, SqL.of e2, lastI etl, ?_⟩
          repeat array_get_dec
          refine ⟨p, _, 0, _, rfl, rfl, SqL.of e2, headI eh, ?_⟩
          repeat array_get_dec
          refine fun t3 H3 s3 n3 e3 => ?_
          repeat array_get_dec
          refine fun l4 H4 s4 n4 e4 => ?_
          have e24 := s4 _ _ (s3 _ _ e2)
          repeat array_get_dec
          rw [show (if decide (1 < (((us.map V.ref).length : Nat) : Int)) = true then (1 : Int) else 0) = 1 from if_pos (decide_eq_true (by omega))]
          refine ⟨l4, 1, _, rfl, rfl, e4, by decide, by decide, by show 1 ≤ sizeLine; decide, fun l5 H5 s5 n5 e5 => ?_⟩
          have e5 : H5 l5 = some (.lst [V.ref t3]) := e5
          have s25 : Same H2 H5 := s3.trans (s4.trans s5)
          refine ⟨D, l5, _, _, rfl, rfl, s25 _ _ eD, e5, ?_, fun l6 H6 s6 n6 e6 => ?_⟩
          · rw [List.length_map, pr.len, sds_len]
            exact Nat.le_trans (show us.length - 1 + 1 ≤ 1000 by omega) (by decide)
          have s26 := s25.trans s6
          have e6 : H6 l6 = some (.lst ((ks ++ [t3]).map V.ref)) := by rw [e6, List.map_append]; rfl
          have tk : us.take 1 = [t0] := by rw [eus]; rfl
          have pr6 : PrAt H6 (ks ++ [t3]) (sds (us ++ us.take 1)) := by
            rw [tk, sds_close etl]
            refine (pr.same s26).cat ⟨rfl, fun j k ek => ?_⟩
            cases j with
            | zero => cases ek; exact ⟨_, rfl, s6 _ _ (s5 _ _ (s4 _ _ e3))⟩
            | succ j => cases ek
          refine q l6 (ks ++ [t3]) (us ++ us.take 1) H6 ((s1.trans s2).trans s26) ((s1.trans s2).free (s25.free n6)) e6 pr6 (fun a m => ?_) ?_ ⟨fun c => by omega, fun _ r => absurd r nr, fun _ _ => rfl⟩
          · rcases List.mem_append.mp m with m | m
            · exact m
            · exact List.mem_of_mem_take m
          · rw [List.length_append, List.length_take]
            omega
      · have row := hb.mp rfl
        repeat array_get_dec
        refine ⟨by omega, by omega, fun D nD => ?_⟩
        have hN : ((((us.map V.ref).length : Nat) : Int) - 1).toNat = us.length - 1 := by omega
        refine lc_newA (walk_range (lo := 0) (n := ((((us.map V.ref).length : Nat) : Int) - 1).toNat)) nD (by omega) (fun _ _ => trivial) (fun i => .tup [.ref (us.getD i p), .ref (us.getD (i + 1) p)]) (fun i x' H2 H3 Kp hi s2 eD yi fin => ?_) fun H2 ks s2 eD nw => ?_
        · obtain ⟨rfl, rfl⟩ := yi
          have e2 := s2 _ _ e1
          repeat array_get_dec
          refine ⟨p, _, _, _, rfl, rfl, SqL.of e2, ix_at p (show i < us.length by omega) (by omega), ?_⟩
          repeat array_get_dec
          refine ⟨p, _, _, _, rfl, rfl, SqL.of e2, ix_at p (show i + 1 < us.length by omega) (by omega), ?_⟩
          repeat array_get_dec
          exact fun t H5 s5 n5 e5 => fin t H5 s5 n5 e5
        · rw [hN] at nw
          have pr := news_prAt nw (es := sds us) (by rw [sds_len]) fun i e he => by rw [sds_getD p he]
          have lks : ks.length = us.length - 1 := by rw [pr.len, sds_len]
          repeat array_get_dec
          refine ⟨D, _, rfl, SqL.of eD, fun r3 n3 => ?_⟩
          have s3 : Same H2 (upd H2 r3 (.lst (ks.map V.ref).reverse)) := Same.upd n3
          have e3 : (upd H2 r3 (.lst (ks.map V.ref).reverse)) r3 = some (.lst (ks.reverse.map V.ref)) := by rw [upd_same, List.map_reverse]
          generalize upd H2 r3 (.lst (ks.map V.ref).reverse) = H3 at s3 e3 ⊢
          refine ⟨r3, rfl, ⟨_, SqL.of e3⟩, fun D2 nD2 => ?_⟩
          have lkr : (ks.reverse.map V.ref).length = us.length - 1 := by rw [List.length_map, List.length_reverse, lks]
          have pr3 := pr.same s3
          refine lc_newA (walk_list (xs := ks.reverse.map V.ref)) nD2 (by omega) (fun H4 s4 => SqL.of (s4 _ _ e3)) (fun i => .tup [.ref ((((sds us).map fun e => (e.2, e.1)).reverse).getD i (0, 0)).1, .ref ((((sds us).map fun e => (e.2, e.1)).reverse).getD i (0, 0)).2]) (fun i x' H4 H5 Kp hi s4 eD4 yi fin => ?_) fun H4 ls s4 eD4 nw4 => ?_
          · obtain ⟨rfl, hx⟩ := yi
            obtain ⟨k, ek, rfl, mk⟩ := ref_at hx
            have hi2 : i < ks.length := by omega
            rw [List.getElem?_reverse hi2] at ek
            obtain ⟨e, ee, hk⟩ := pr3.at_ _ k ek
            have eg : ((((sds us).map fun e => (e.2, e.1)).reverse).getD i (0, 0)) = (e.2, e.1) := by
              rw [List.getD_eq_getElem?_getD, List.getElem?_reverse (by rw [List.length_map, ← pr.len]; exact hi2), List.length_map, List.getElem?_map, ← pr.len, ee]
              rfl
            rw [eg] at fin
            have hk4 := s4 _ _ hk
            repeat array_get_dec
            exact fun t H5 s5 n5 e5 => fin t H5 s5 n5 e5
          · have pr4 := news_prAt nw4 (es := ((sds us).map fun e => (e.2, e.1)).reverse) (by rw [lkr, List.length_reverse, List.length_map, sds_len]) fun i e he => by rw [List.getD_eq_getElem?_getD, he]; rfl
            have s24 := s3.trans s4
            refine ⟨D, D2, _, _, rfl, rfl, s24 _ _ eD, eD4, ?_, fun l6 H6 s6 n6 e6 => ?_⟩
            · rw [List.length_map, List.length_map, lks, pr4.len, List.length_reverse, List.length_map, sds_len]
              exact Nat.le_trans (show us.length - 1 + (us.length - 1) ≤ 1000 by omega) (by decide)
            rw [← List.map_append] at e6
            have pr6 : PrAt H6 (ks ++ ls) (sds (us ++ us.dropLast.reverse)) := by
              rw [sds_there]
              exact (pr.same (s24.trans s6)).cat (pr4.same s6)
            refine q l6 (ks ++ ls) (us ++ us.dropLast.reverse) H6 (s1.trans (s2.trans (s24.trans s6))) (s1.free (s2.free (s24.free n6))) e6 pr6 (fun a m => ?_) ?_ ⟨fun c => by omega, fun _ _ => rfl, fun _ r => absurd row r⟩
            · rcases List.mem_append.mp m with m | m
              · exact m
              · exact List.dropLast_subset _ (List.mem_reverse.mp m)
            · rw [List.length_append, List.length_reverse, List.length_dropLast]
              omega
    · have one : us.length = 1 := by omega
      obtain ⟨t0, rfl⟩ : ∃ t0, us = [t0] := by
        match us, one with
        | [a], _ => exact ⟨a, rfl⟩
      repeat array_get_dec
      refine ⟨⟨by omega, by omega, by omega, by omega⟩, fun D nD => ?_⟩
      have hN : (((([t0].map V.ref).length : Nat) : Int) - 1).toNat = 0 := by rfl
      refine lc_newA (walk_range (lo := 1) (n := (((([t0].map V.ref).length : Nat) : Int) - 1).toNat)) nD (by omega) (fun _ _ => trivial) (fun i => .tup []) (fun i x' H2 H3 Kp hi s2 eD yi fin => by omega) fun H2 ks s2 eD nw => ?_
      rw [hN] at nw
      have ek : ks = [] := List.eq_nil_of_length_eq_zero nw.1
      subst ek
      have e2 := s2 _ _ e0
      repeat array_get_dec
      refine fun t3 H3 s3 n3 e3 => ?_
      repeat array_get_dec
      refine fun l4 H4 s4 n4 e4 => ?_
      have e24 := s4 _ _ (s3 _ _ e2)
      repeat array_get_dec
      rw [show (if decide (1 < ((([t0].map V.ref).length : Nat) : Int)) = true then (1 : Int) else 0) = 0 from rfl]
      refine ⟨l4, 0, _, rfl, rfl, e4, by decide, by decide, by show 0 ≤ sizeLine; decide, fun l5 H5 s5 n5 e5 => ?_⟩
      have e5 : H5 l5 = some (.lst []) := e5
      have s25 : Same H2 H5 := s3.trans (s4.trans s5)
      refine ⟨D, l5, _, _, rfl, rfl, s25 _ _ eD, e5, Nat.zero_le _, fun l6 H6 s6 n6 e6 => ?_⟩
      exact q l6 [] [t0] H6 (s2.trans (s25.trans s6)) (s2.free (s25.free n6)) e6 ⟨rfl, fun j k ek => by cases ek⟩ (fun a m => m) (by show 1 ≤ 2 * 1; decide) ⟨fun _ => rfl, fun c => absurd c (by show ¬ 1 < 1; decide), fun c => absurd c (by show ¬ 1 < 1; decide)⟩
end
/-! ### k07: the sides that the law sees -/
section
variable {P : Program} {w : World} {K : PySem.W.Frag} {mg : Str → Option Value} {base : Heap}
abbrev s__law_seen : Stmt := topS 34
abbrev n__law_seen : List Str := ["_law_ring_here", "_law_spot", "_law_pairs", "_law_marks", "_law_at", "_law_order", "_law_a", "_law_b", "_law_k"]
theorem c__law_seen : FnScope n__law_seen ["_law_ring_here", "_law_spot"] (defScope s__law_seen) := ⟨rfl, rfl, rfl, by decide +kernel, rfl, by decide +kernel, by decide +kernel⟩
def p__law_seen : Sp := fun vs H Q _ => ∃ (p t : Addr) (us : List Addr) (f : Addr → Pt) (s : Pt), vs = [.ref p, .ref t] ∧ Pts f H p us ∧ Sit H t s.1 s.2 ∧ Bd 1000000 s.1 s.2 ∧ ∀ l ks out ar H', Same H H' → H l = none → H' l = some (.lst (ks.map V.ref)) → Prs H' ks out → (∀ e ∈ out, e.1 ∈ us ∧ e.2 ∈ us) → RngA f us ar → SeenL (sds (ar.map f)) (mks s (ar.map f)) (out.map fun e => (f e.1, f e.2)) → ks.length ≤ 1000 → Q (.ref l) H'
/-- the numbers from i on, then those ahead of it -/
def ordN (n i : Nat) : List Nat := (List.range n).drop i ++ (List.range n).take i
theorem ordN_len {n i : Nat} (h : i ≤ n) : (ordN n i).length = n := by
  unfold ordN
  rw [List.length_append, List.length_drop, List.length_take, List.length_range]
  omega
theorem ordN_mem {n i k : Nat} (h : k ∈ ordN n i) : k < n := by
  unfold ordN at h
  rcases List.mem_append.mp h with m | m
  · exact List.mem_range.mp (List.mem_of_mem_drop m)
  · exact List.mem_range.mp (List.mem_of_mem_take m)
theorem rgV_ord {n i : Nat} (h : i ≤ n) {a b c : Int} (ea : a = i) (eb : b = n) (ec : c = i) : rgV a b ++ rgV 0 c = (ordN n i).map fun k => V.int (k : Nat) := by
  subst ea eb ec
  unfold ordN rgV
  rw [List.map_append]
  congr 1
  · apply List.ext_getElem?
    intro j
    rw [List.getElem?_map, List.getElem?_map, List.getElem?_drop]
    by_cases c : i + j < n
    · rw [List.getElem?_range c, List.getElem?_range (by omega)]
      simp
    · rw [List.getElem?_eq_none (by rw [List.length_range]; omega), List.getElem?_eq_none (by rw [List.length_range]; omega)]
      rfl
  · apply List.ext_getElem?
    intro j
    rw [List.getElem?_map, List.getElem?_map, List.getElem?_take]
    by_cases c : j < i
    · rw [if_pos c, List.getElem?_range (by omega), List.getElem?_range (by omega)]
      simp
    · rw [if_neg c, List.getElem?_eq_none (by rw [List.length_range]; omega)]
      rfl
theorem zip_range {α : Type} (d : α) {l : List α} {m : List Bool} (len : l.length = m.length) : l.zip m = (List.range l.length).map fun i => (l.getD i d, m.getD i false) := by
  apply List.ext_getElem?
  intro j
  rw [List.getElem?_map]
  by_cases c : j < l.length
  · rw [List.getElem?_range c, Option.map_some, List.getElem?_eq_getElem (by rw [List.length_zip]; omega), List.getElem_zip, List.getD_eq_getElem?_getD, List.getD_eq_getElem?_getD, List.getElem?_eq_getElem c, List.getElem?_eq_getElem (by omega)]
    rfl
  · rw [List.getElem?_eq_none (by rw [List.length_zip]; omega), List.getElem?_eq_none (by rw [List.length_range]; omega)]
    rfl
theorem ord_picked {α : Type} (d : α) {l : List α} {m : List Bool} (len : l.length = m.length) (i : Nat) : ((ordN l.length i).filter fun k => m.getD k false).map (fun k => l.getD k d) = picked ((l.zip m).drop i) ++ picked ((l.zip m).take i) := by
  rw [zip_range d len, ← List.map_drop, ← List.map_take, ← picked_app, ← List.map_append]
  unfold picked ordN
  rw [List.filter_map, List.map_map]
  rfl
theorem prev_at {mk : List Bool} {i : Nat} {k : Int} (h : i < mk.length) (e : k = (i : Nat)) : ∃ b, mk[prevI mk.length i]? = some b ∧ atI (mk.map V.bl) (k - 1) = some (.bl b) := by
  subst e
  by_cases c : i = 0
  · subst c
    have hl : mk.getLast? = some (mk.getLast (by rintro rfl; cases h)) := List.getLast?_eq_some_getLast _
    refine ⟨_, ?_, bl_last hl⟩
    unfold prevI
    rw [if_pos rfl, ← List.getLast?_eq_getElem?, hl]
  · have hj : i - 1 < mk.length := by omega
    refine ⟨mk[i - 1], ?_, ?_⟩
    · unfold prevI
      rw [if_neg c, List.getElem?_eq_getElem hj]
    · have : ((i : Nat) : Int) - 1 = ((i - 1 : Nat) : Int) := by omega
      rw [this]
      refine atI_nat ?_
      rw [List.getElem?_map, List.getElem?_eq_getElem hj]
      rfl
theorem bl_at {mk : List Bool} {i : Nat} {k : Int} {b : Bool} (h : mk[i]? = some b) (e : k = (i : Nat)) : atI (mk.map V.bl) k = some (.bl b) := by
  subst e
  refine atI_nat ?_
  rw [List.getElem?_map, h]
  rfl
set_option pp.maxSteps 300 in
theorem ok__law_seen  (D : Df K mg "_law_seen" s__law_seen ["_law_ring_here", "_law_spot"]) (C__law_lean : Cl P w K mg base CX0 "_law_lean" 1 ["_law_a", "_law_b", "_law_c"] (p__law_lean)) (C__law_ring_sides : Cl P w K mg base CX0 "_law_ring_sides" 3 ["_law_ring_here"] (p__law_ring_sides)) (mlen : mg "len" = none) (mlist : mg "list" = none) (mrange : mg "range" = none) : Cl P w K mg base CX0 "_law_seen" 4 ["_law_ring_here", "_law_spot"] (p__law_seen) := by
  refine D.cl fun f fd F => F.ok c__law_seen (fun vs H Q E h => ?_) (fun cdv A outer s H vs Q E hr h => ?_)
  · obtain ⟨p, t, us, g, s0, rfl, hl, st, hb, q⟩ := h
    rfl
  · obtain ⟨p, t, us, g, s0, rfl, hl, st, hb, q⟩ := h
    have nd := c__law_seen.nd
    have hu : _ := hu_of hr
    refine ⟨_, (pss_cons (ps_set (i := 2) nd rfl (.inr rfl) (pe_cl C__law_ring_sides (hr.mono (by decide)) (by rfl) pass0 (pa_cons (pv 0) pa_nil))) (pss_cons (ps_set (i := 3) nd rfl (.inr rfl) (pe_lc (own := [("_law_a", 6), ("_law_b", 7)]) (g := (gTup K 2 (gCons (gName 6) (gCons (gName 7) gNil)))) (tt := tYes)  rfl nd (pi_list (pv 2)) (blkOk_by (own := [("_law_a", 6), ("_law_b", 7)]) (N := n__law_seen) (sc := defScope s__law_seen) (by decide +kernel)) (fun _ _ _ _ _ => by exact (pg_tup (by rfl) (pgs_cons (pg_name (i := 6) nd rfl (.inl rfl)) (pgs_cons (pg_name (i := 7) nd rfl (.inl rfl)) pgs_nil)))) (fun _ _ _ _ _ => by exact pts_nil) (fun _ _ _ _ _ => by exact (pe_cmpR op_lt (pe_cl C__law_lean (hr.mono (by decide)) (by rfl) pass0 (pa_cons (pv 6) (pa_cons (pv 7) (pa_cons (pv 1) pa_nil)))) pe_int (nomark _))))) (pss_cons (ps_for PassesOwn.never rfl (pi_range1 (by rfl) mrange (pa_cons (pe_callB call_len_seq (by rfl) mlen (by decide +kernel) (pa_cons (pv 2) pa_nil)) pa_nil)) (pg_name (i := 4) nd rfl (.inl rfl)) (pss_one (ps_if (PW.pt (pw_and (pt_val (pe_ix ix_list (pv 3) (pv 4) (fun _ _ => rfl))) (pw_and1 (pt_not (pt_val (pe_ix ix_list (pv 3) (pe_op op_sub (pv 4) pe_int) (fun _ _ => rfl))))))) (pss_cons (ps_set (i := 5) nd rfl (.inl rfl) (pe_op op_catG (pe_listRg rfl (by rfl) mlist (prg_2 (by rfl) mrange (pv 4) (pe_callB call_len_seq (by rfl) mlen (by decide +kernel) (pa_cons (pv 2) pa_nil)))) (pe_listRg rfl (by rfl) mlist (prg_1 (by rfl) mrange (pv 4))))) (pss_one (ps_ret (pe_lc (own := [("_law_k", 8)]) (g := (gName 8))  rfl nd (pi_list (pv 5)) (blkOk_by (own := [("_law_k", 8)]) (N := n__law_seen) (sc := defScope s__law_seen) (by decide +kernel)) (fun _ _ _ _ _ => by exact (pg_name (i := 8) nd rfl (.inl rfl))) (fun _ _ _ _ _ => by exact (pts_one (pt_val (pe_ix (r := rIxL K) (by exact ix_list) (pv 3) (pv 8) (fun _ _ => rfl))))) (fun _ _ _ _ _ => by exact (pe_ix (r := rIxL K) (by exact ix_list) (pv 2) (pv 8) (fun _ _ => rfl))))))) pss_nil))) (pss_one (ps_ret (pe_lstG pa_nil)))))), ?_⟩
    have few := hl.few
    repeat array_get_dec
    refine ⟨p, us, g, rfl, hl, fun l ks ar H1 s1 n1 e1 pr mem flen rng => ?_⟩
    have hl1 := hl.same s1
    have st1 := s1 _ _ st
    have lk : (ks.map V.ref).length = ks.length := List.length_map _
    have lks : ks.length = (sds ar).length := pr.len
    have fewk : ks.length ≤ 400 := by rw [lks, sds_len]; omega
    repeat array_get_dec
    refine ⟨⟨_, SqL.of e1⟩, fun D nD => ?_⟩
    have len2 : ks.length = (mks s0 (ar.map g)).length := by rw [lks, mks_sds, List.length_map]
    refine lc_val (walk_list (xs := ks.map V.ref)) nD (by omega) (fun H3 s3 => SqL.of (s3 _ _ e1)) ((mks s0 (ar.map g)).map V.bl) (by rw [List.length_map, lk, len2]) (fun i v z H3 H4 Kp' hy s3 eD yi fin' => ?_) fun H2 s2 eD => ?_
    · obtain ⟨rfl, hx⟩ := yi
      obtain ⟨k, ek, rfl, mkk⟩ := ref_at hx
      obtain ⟨e, ee, hk⟩ := pr.at_ i k ek
      have me := sds_mem (List.mem_of_getElem? ee)
      have hl3 := hl1.same s3
      have z1 := hl3.sit e.1 (mem _ me.1)
      have z2 := hl3.sit e.2 (mem _ me.2)
      have z3 := s3 _ _ st1
      have hk3 := s3 _ _ hk
      repeat array_get_dec
      refine ⟨e.1, e.2, t, g e.1, g e.2, s0, rfl, z1.1, z2.1, z3, z1.2, z2.2, hb, ?_⟩
      repeat array_get_dec
      have hz : z = .bl (decide (tn (g e.1) (g e.2) s0 < 0)) := by
        rw [List.getElem?_map, mks_sds, List.getElem?_map, ee] at hy
        exact (Option.some.inj hy).symm
      rw [hz] at fin'
      exact fin' _ (Same.refl _)
    have e2 := s2 _ _ e1
    have S2 := s1.trans s2
    generalize hmk : mks s0 (ar.map g) = mk at eD len2
    have lm : (mk.map V.bl).length = ks.length := by rw [List.length_map, ← len2]
    have lmk : mk.length = ks.length := len2.symm
    have D_ne : H1 D = none := nD
    repeat array_get_dec
    refine ⟨by omega, by omega, for_range (lo := 0) (n := ((((ks.map V.ref).length : Nat) : Int)).toNat) (fun i σ' H' => (∃ y4 y5 y6 y7 y8, σ' = [some (.ref p), some (.ref t), some (.ref l), some (.ref D), y4, y5, y6, y7, y8]) ∧ Same H2 H' ∧ ∀ j, j < i → ¬ rise mk j) ⟨⟨_, _, _, _, _, rfl⟩, Same.refl _, fun j h => absurd h (Nat.not_lt_zero j)⟩ (fun i σ' H' hi z => ?_) fun σ' H' z => ?_⟩
    · obtain ⟨⟨y4, y5, y6, y7, y8, rfl⟩, sH, nr⟩ := z
      have hi2 : i < mk.length := by omega
      have eDH := sH _ _ eD
      have elH := sH _ _ e2
      have e1i : mk[i]? = some mk[i] := List.getElem?_eq_getElem hi2
      repeat array_get_dec
      refine ⟨D, _, _, _, rfl, rfl, SqL.of eDH, bl_at e1i (by omega), ?_⟩
      generalize hb0 : mk[i] = b0 at e1i
      refine ⟨_, rfl, ?_⟩
      cases b0
      · repeat array_get_dec
        refine ⟨⟨_, _, _, _, _, rfl⟩, sH, fun j lj => ?_⟩
        rcases Nat.lt_succ_iff_lt_or_eq.mp lj with h | rfl
        · exact nr j h
        · intro r
          have := r.1
          rw [e1i] at this
          cases this
      repeat array_get_dec
      obtain ⟨bp, ep, epr⟩ := prev_at (k := 0 + (i : Nat)) hi2 (by omega)
      refine ⟨D, _, _, _, rfl, rfl, SqL.of eDH, epr, ?_⟩
      refine ⟨_, rfl, ?_⟩
      cases bp
      rotate_left
      · repeat array_get_dec
        refine ⟨⟨_, _, _, _, _, rfl⟩, sH, fun j lj => ?_⟩
        rcases Nat.lt_succ_iff_lt_or_eq.mp lj with h | rfl
        · exact nr j h
        · exact fun r => r.2 ep
      have ri : rise mk i := ⟨e1i, by rw [ep]; exact fun z => Bool.noConfusion (Option.some.inj z)⟩
      repeat array_get_dec
      refine ⟨RgOk.of_le (by omega) (by omega) (by omega) (by omega), fun a3 n3 => ?_⟩
      have s3 : Same H' (upd H' a3 (.lst (rgV (0 + (i : Nat)) ((ks.map V.ref).length : Nat)))) := Same.upd n3
      have e3 : (upd H' a3 (.lst (rgV (0 + (i : Nat)) ((ks.map V.ref).length : Nat)))) a3 = some (.lst (rgV (0 + (i : Nat)) ((ks.map V.ref).length : Nat))) := upd_same
      generalize upd H' a3 (.lst (rgV (0 + (i : Nat)) ((ks.map V.ref).length : Nat))) = H3 at s3 e3 ⊢
      repeat array_get_dec
      refine ⟨RgOk.of_le (by omega) (by omega) (by omega) (by omega), fun a4 n4 => ?_⟩
      have s4 : Same H3 (upd H3 a4 (.lst (rgV 0 (0 + (i : Nat))))) := Same.upd n4
      have e4 : (upd H3 a4 (.lst (rgV 0 (0 + (i : Nat))))) a4 = some (.lst (rgV 0 (0 + (i : Nat)))) := upd_same
      generalize upd H3 a4 (.lst (rgV 0 (0 + (i : Nat)))) = H4 at s4 e4 ⊢
      refine ⟨a3, a4, _, _, rfl, rfl, s4 _ _ e3, e4, ?_, fun a5 H5 s5 n5 e5 => ?_⟩
      · rw [rgV_length, rgV_length]
        exact Nat.le_trans (show _ ≤ 1000 by omega) (by decide)
      rw [rgV_ord (n := ks.length) (i := i) (by omega) (by omega) (by omega) (by omega)] at e5
      have lo : (ordN ks.length i).length = ks.length := ordN_len (by omega)
      have s35 : Same H' H5 := s3.trans (s4.trans s5)
      have eD5 := s35 _ _ eDH
      have el5 := s35 _ _ elH
      repeat array_get_dec
      refine ⟨⟨_, SqL.of e5⟩, fun D6 nD6 => ?_⟩
      have lov : ((ordN ks.length i).map fun k => V.int (k : Nat)).length = ks.length := by rw [List.length_map, lo]
      refine lc_fil (walk_list (xs := (ordN ks.length i).map fun k => V.int (k : Nat))) nD6 (by omega) (fun H6 s6 => SqL.of (s6 _ _ e5)) (fun j => mk.getD ((ordN ks.length i).getD j 0) false) (fun j => .ref (ks.getD ((ordN ks.length i).getD j 0) p)) (fun j v H6 H7 Kp Kn hj s6 eD6 yi fin finN => ?_) fun H6 s6 eD6 => ?_
      · obtain ⟨rfl, hx⟩ := yi
        rw [List.getElem?_map] at hx
        obtain ⟨k, ek, rfl⟩ := Option.map_eq_some_iff.mp hx
        have hk := ordN_mem (List.mem_of_getElem? ek)
        rw [getD_at ek] at fin finN
        have emk : mk[k]? = some mk[k] := List.getElem?_eq_getElem (by omega)
        rw [getD_at emk] at fin finN
        have eD7 := s6 _ _ eD5
        have el7 := s6 _ _ el5
        repeat array_get_dec
        refine ⟨D, _, _, _, rfl, rfl, SqL.of eD7, bl_at emk rfl, ?_⟩
        refine ⟨_, rfl, ?_⟩
        generalize mk[k] = bk at fin finN
        cases bk
        · exact finN _ rfl (Same.refl _)
        · refine ⟨_, rfl, _, rfl, ?_⟩
          refine ⟨l, _, _, _, rfl, rfl, SqL.of el7, ix_at p hk rfl, ?_⟩
          exact fin _ rfl (Same.refl _)
      · have eO : H6 D6 = some (.lst ((picked ((ks.zip mk).drop i) ++ picked ((ks.zip mk).take i)).map V.ref)) := by
          rw [eD6, lov, ← ord_picked p (l := ks) (m := mk) len2 i, List.map_map]
          have z := range_filter (ordN ks.length i) 0 fun k => mk.getD k false
          rw [← z, List.map_map, lo]
          rfl
        have s26 : Same H2 H6 := sH.trans (s35.trans s6)
        have sn : SeenL ks mk (picked ((ks.zip mk).drop i) ++ picked ((ks.zip mk).take i)) := .inr ⟨i, hi2, ri, nr, rfl⟩
        have pr6 : Prs H6 ks (sds ar) := (pr.prs.same s2).same s26
        have sub6 : ∀ u ∈ picked ((ks.zip mk).drop i) ++ picked ((ks.zip mk).take i), u ∈ ks := fun u m => by
          rcases List.mem_append.mp m with m | m
          · exact (List.of_mem_zip (List.mem_of_mem_drop (picked_mem.mp m))).1
          · exact (List.of_mem_zip (List.mem_of_mem_take (picked_mem.mp m))).1
        have z := (sn.map (pv2 H6)).map fun e => (g e.1, g e.2)
        rw [pr6.map, ← sds_map g ar] at z
        subst hmk
        refine q D6 _ _ ar H6 (S2.trans s26) ((S2.trans (sH.trans s35)).free nD6) eO (pr6.sub sub6) (fun e m => ?_) rng z ?_
        · obtain ⟨u, mu, rfl⟩ := List.mem_map.mp m
          have me : pv2 H6 u ∈ sds ar := by
            rw [← pr6.map]
            exact List.mem_map_of_mem (sub6 u mu)
          have := sds_mem me
          exact ⟨mem _ this.1, mem _ this.2⟩
        · have lz : (ks.zip (mks s0 (ar.map g))).length ≤ ks.length := by rw [List.length_zip]; omega
          have h1 := List.length_filter_le (·.2) ((ks.zip (mks s0 (ar.map g))).drop i)
          have h2 := List.length_filter_le (·.2) ((ks.zip (mks s0 (ar.map g))).take i)
          unfold picked
          rw [List.length_append, List.length_map, List.length_map]
          rw [List.length_drop] at h1
          rw [List.length_take] at h2
          omega
    · obtain ⟨⟨y4, y5, y6, y7, y8, rfl⟩, sH, nr⟩ := z
      repeat array_get_dec
      refine fun a6 H6 s6 n6 e6 => ?_
      subst hmk
      have sn : SeenL (sds (ar.map g)) (mks s0 (ar.map g)) (([] : List (Addr × Addr)).map fun e => (g e.1, g e.2)) := .inl ⟨fun j lj => nr j (by omega), rfl⟩
      exact q a6 [] [] ar H6 (S2.trans (sH.trans s6)) ((S2.trans sH).free n6) e6 ⟨fun k m => absurd m List.not_mem_nil, rfl⟩ (fun e m => absurd m List.not_mem_nil) rng sn (Nat.zero_le _)
end
/-! ### k07: a site put to the others -/
section
variable {P : Program} {w : World} {K : PySem.W.Frag} {mg : Str → Option Value} {base : Heap}
/-- pairs of sites, by value -/
def dP (e : Pt × Pt) : PyData := .tuple [dS e.1, dS e.2]
theorem dP_eqv (e k : Pt × Pt) : PyData.eqv (dP e) (dP k) = decide (e = k) := by
  unfold dP
  simp only [PyData.eqv, PyData.eqvAll, dS_eqv]
  rw [Bool.eq_iff_iff]
  simp only [Bool.and_eq_true, decide_eq_true_eq, and_true]
  exact ⟨fun h => Prod.ext h.1 h.2, fun h => by rw [h]; exact ⟨rfl, rfl⟩⟩
theorem dP_one (e : Pt × Pt) : PyData.canLay0 (dP e) = true ∧ (dP e).depth ≤ 10 := by
  unfold dP dS
  simp [PyData.canLay0, PyData.canLayAll0, PyData.depth, PyData.depthAll]
theorem dP_all (es : List (Pt × Pt)) : PyData.canLayAll0 (es.map dP) = true ∧ PyData.depthAll (es.map dP) ≤ 10 := by
  induction es with
  | nil => exact ⟨rfl, Nat.zero_le _⟩
  | cons e es ih =>
    obtain ⟨h1, h2⟩ := ih
    obtain ⟨h3, h4⟩ := dP_one e
    refine ⟨?_, ?_⟩
    · rw [List.map_cons]
      show (PyData.canLay0 (dP e) && _) = true
      rw [h1, h3]
      rfl
    · simp only [List.map_cons, PyData.depthAll]
      omega
theorem dP_shaped (es : List (Pt × Pt)) : SeqAt.shaped (.list (es.map dP)) = true := by
  obtain ⟨h1, h2⟩ := dP_all es
  unfold SeqAt.shaped
  rw [Bool.and_eq_true]
  refine ⟨by simp [PyData.canLay0, h1], decide_eq_true ?_⟩
  simp only [PyData.depth]
  omega
theorem dP_shaped1 (e : Pt × Pt) : SeqAt.shaped (dP e) = true := rfl
theorem dP_eqvA : ∀ es fs : List (Pt × Pt), PyData.eqvAll (es.map dP) (fs.map dP) = decide (es = fs)
  | [], [] => rfl
  | [], _ :: _ => rfl
  | _ :: _, [] => rfl
  | p :: ps, q :: qs => by
    rw [List.map_cons, List.map_cons, PyData.eqvAll, dP_eqv, dP_eqvA ps qs]
    by_cases h : p = q <;> by_cases k : ps = qs <;> simp [h, k]
theorem dP_eqvL (es fs : List (Pt × Pt)) : PyData.eqv (.list (es.map dP)) (.list (fs.map dP)) = decide (es = fs) := by
  rw [← dP_eqvA]
  simp only [PyData.eqv]
theorem dP_any (p : Pt × Pt) (qs : List (Pt × Pt)) : ((qs.map dP).any fun z => PyData.eqv z (dP p)) = decide (p ∈ qs) := by
  induction qs with
  | nil => rfl
  | cons q qs ih =>
    rw [List.map_cons, List.any_cons, ih, dP_eqv]
    by_cases h : q = p
    · simp [h]
    · have h2 : ¬ p = q := fun e => h e.symm
      by_cases k : p ∈ qs <;> simp [h, h2, k]
/-- the value of a pair of addresses -/
def val2 (f : Addr → Pt) (e : Addr × Addr) : Pt × Pt := (f e.1, f e.2)
/-- a list of pairs of sites -/
structure PrS (f : Addr → Pt) (H : Hp) (l : Addr) (ks : List Addr) (es : List (Addr × Addr)) : Prop where
  lst : H l = some (.lst (ks.map V.ref))
  prs : Prs H ks es
  sit : ∀ e ∈ es, Sit H e.1 (f e.1).1 (f e.1).2 ∧ Sit H e.2 (f e.2).1 (f e.2).2
theorem PrS.same {f : Addr → Pt} {H H' : Hp} {l : Addr} {ks : List Addr} {es : List (Addr × Addr)} (h : PrS f H l ks es) (s : Same H H') : PrS f H' l ks es := ⟨s _ _ h.lst, h.prs.same s, fun e m => ⟨s _ _ (h.sit e m).1, s _ _ (h.sit e m).2⟩⟩
theorem dpP {f : Addr → Pt} {H : Hp} {k : Addr} {e : Addr × Addr} (hk : H k = some (.tup [.ref e.1, .ref e.2])) (h1 : Sit H e.1 (f e.1).1 (f e.1).2) (h2 : Sit H e.2 (f e.2).1 (f e.2).2) : Dp K H (.ref k) (dP (val2 f e)) := .tup (SqT.of hk) (.cons (dpS h1) (.cons (dpS h2) .nil))
theorem dpP_all {f : Addr → Pt} {H : Hp} : ∀ {ks : List Addr}, (∀ k ∈ ks, H k = some (.tup [.ref (pv2 H k).1, .ref (pv2 H k).2]) ∧ Sit H (pv2 H k).1 (f (pv2 H k).1).1 (f (pv2 H k).1).2 ∧ Sit H (pv2 H k).2 (f (pv2 H k).2).1 (f (pv2 H k).2).2) → DpAll K H (ks.map V.ref) (((ks.map (pv2 H)).map (val2 f)).map dP)
  | [], _ => .nil
  | k :: ks, h => .cons (dpP (h k List.mem_cons_self).1 (h k List.mem_cons_self).2.1 (h k List.mem_cons_self).2.2) (dpP_all fun u m => h u (List.mem_cons_of_mem _ m))
theorem PrS.dp {f : Addr → Pt} {H : Hp} {l : Addr} {ks : List Addr} {es : List (Addr × Addr)} (h : PrS f H l ks es) : Dp K H (.ref l) (.list ((es.map (val2 f)).map dP)) := by
  rw [← h.prs.map]
  refine .lst (SqL.of h.lst) (dpP_all fun k m => ⟨h.prs.at_ k m, ?_⟩)
  have := h.sit (pv2 H k) (by rw [← h.prs.map]; exact List.mem_map_of_mem m)
  exact this
section
variable {H : Hp} {Q : VK} {a b k : Addr} {f : Addr → Pt} {e : Addr × Addr} {ks ls : List Addr} {es fs : List (Addr × Addr)}
theorem w_inP (hk : H k = some (.tup [.ref e.1, .ref e.2])) (h1 : Sit H e.1 (f e.1).1 (f e.1).2) (h2 : Sit H e.2 (f e.2).1 (f e.2).2) (h : PrS f H a ks es) (z : Q (.bl (decide (val2 f e ∈ es.map (val2 f)))) H) : rInD K (.ref k) (.ref a) H Q := ⟨_, _, dpP hk h1 h2, h.dp, dP_shaped1 _, dP_shaped _, by rw [dP_any]; exact z⟩
theorem w_ninP (hk : H k = some (.tup [.ref e.1, .ref e.2])) (h1 : Sit H e.1 (f e.1).1 (f e.1).2) (h2 : Sit H e.2 (f e.2).1 (f e.2).2) (h : PrS f H a ks es) (z : Q (.bl (!decide (val2 f e ∈ es.map (val2 f)))) H) : rNotInD K (.ref k) (.ref a) H Q := ⟨_, _, dpP hk h1 h2, h.dp, dP_shaped1 _, dP_shaped _, by rw [dP_any]; exact z⟩
theorem w_neP (h : PrS f H a ks es) (h2 : PrS f H b ls fs) (z : Q (.bl (!decide (es.map (val2 f) = fs.map (val2 f)))) H) : rNeD K (.ref a) (.ref b) H Q := ⟨_, _, h.dp, h2.dp, dP_shaped _, dP_shaped _, by rw [dP_eqvL]; exact z⟩
theorem w_eqP (h : PrS f H a ks es) (h2 : PrS f H b ls fs) (z : Q (.bl (decide (es.map (val2 f) = fs.map (val2 f)))) H) : rEqD K (.ref a) (.ref b) H Q := ⟨_, _, h.dp, h2.dp, dP_shaped _, dP_shaped _, by rw [dP_eqvL]; exact z⟩
end
/-- nothing -/
theorem PrS.nil {f : Addr → Pt} {H : Hp} {l : Addr} (h : H l = some (.lst [])) : PrS f H l [] [] := ⟨h, ⟨fun k m => absurd m List.not_mem_nil, rfl⟩, fun e m => absurd m List.not_mem_nil⟩
theorem PrAt.prS {f : Addr → Pt} {H : Hp} {l : Addr} {ks ar us : List Addr} (h : PrAt H ks (sds ar)) (e : H l = some (.lst (ks.map V.ref))) (sub : ∀ a ∈ ar, a ∈ us) (s : SitF f H us) : PrS f H l ks (sds ar) := ⟨e, h.prs, fun x m => by
  have := sds_mem m
  exact ⟨(s _ (sub _ this.1)).1, (s _ (sub _ this.2)).1⟩⟩
theorem sds_val (f : Addr → Pt) (ar : List Addr) : (sds ar).map (val2 f) = sds (ar.map f) := (sds_map f ar).symm
theorem seen_in {ar : List Pt} {s : Pt} {out : List (Pt × Pt)} (h : SeenL (sds ar) (mks s ar) out) (ne : out ≠ []) {e : Pt × Pt} : e ∈ out ↔ e ∈ sds ar ∧ tn e.1 e.2 s < 0 := by
  rw [h.mem ne]
  unfold mks
  constructor
  · intro m
    obtain ⟨j, hj, ej⟩ := List.getElem_of_mem m
    rw [List.getElem_zip, List.getElem_map] at ej
    have e1 := (Prod.mk.inj ej).1
    have e2 := (Prod.mk.inj ej).2
    rw [e1] at e2
    exact ⟨e1 ▸ List.getElem_mem _, of_decide_eq_true e2⟩
  · rintro ⟨m, h⟩
    obtain ⟨j, hj, rfl⟩ := List.getElem_of_mem m
    have lz : j < ((sds ar).zip ((sds ar).map fun e => decide (tn e.1 e.2 s < 0))).length := by rw [List.length_zip, List.length_map]; omega
    have : ((sds ar).zip ((sds ar).map fun e => decide (tn e.1 e.2 s < 0)))[j] = ((sds ar)[j], true) := by rw [List.getElem_zip, List.getElem_map, decide_eq_true h]
    rw [← this]
    exact List.getElem_mem _
theorem brd_nodup {rows out : List Pt} {p0 q : Pt} (e : Ends2 rows p0 q) (hb : Brd p0 q rows out) : out.Nodup := by
  by_cases r : Row rows
  · rw [hb.1 r]
    exact List.Pairwise.imp (S := fun a b : Pt => a ≠ b) (fun {a b} h e => by subst e; exact lt2_irr h) e.so
  · rw [hb.2 r]
    obtain ⟨mid, eB, ring⟩ := ringB_of e.so e.h0 e.hq r
    rw [eB]
    exact ring_nodup (R := Nxt rows) (fun _ _ _ => nxt_uniq ring.nr) mid p0 ring.pr ring.n0
/-- a border that is told is a list of sites, one at least, no more than the sites are -/
theorem brd_pts {rows out : List Pt} {p0 q : Pt} {f : Addr → Pt} {H : Hp} {b : Addr} {us ts : List Addr} (e : Ends2 rows p0 q) (hb : Brd p0 q rows out) (eb : H b = some (.lst (us.map V.ref))) (eo : us.map f = out) (sub : ∀ u ∈ us, u ∈ ts) (s : SitF f H ts) (few : ts.length < 200) : Pts f H b us := by
  refine ⟨eb, ?_, ?_, s.sub sub⟩
  · have := brd_head e hb
    rw [← eo] at this
    cases us with
    | nil => cases this
    | cons _ _ => exact Nat.succ_pos _
  · have n := brd_nodup e hb
    have z := sub_len n (m := ts.map f) fun x hx => by
      rw [← eo] at hx
      obtain ⟨u, m, rfl⟩ := List.mem_map.mp hx
      exact List.mem_map_of_mem (sub u m)
    rw [← eo, List.length_map, List.length_map] at z
    omega
/-- all of some addresses: pairs in order, ends, border -/
theorem brd_all {f : Addr → Pt} {ts : List Addr} (n : (ts.map f).Nodup) (ne : ts ≠ []) : ∃ (rs : List Addr) (p0 q : Pt) (out : List Pt), rs.Perm ts ∧ Ends2 (rs.map f) p0 q ∧ Brd p0 q (rs.map f) out := by
  obtain ⟨rows, pm, so⟩ := sorted_ex n
  obtain ⟨rs, pr, er⟩ := lift_perm pm.symm ts rfl
  subst er
  have nonl : rs.map f ≠ [] := fun z => ne (by
    have := pr.length_eq
    rw [List.map_eq_nil_iff.mp z] at this
    exact List.eq_nil_of_length_eq_zero this.symm)
  obtain ⟨p0, q, e⟩ := ends_ex nonl so
  obtain ⟨out, hb⟩ := brd_ex p0 q (rs.map f)
  exact ⟨rs, p0, q, out, pr, e, hb⟩
abbrev s__law_wider_right : Stmt := topS 36
abbrev n__law_wider_right : List Str := ["_law_sites_so", "_law_ring_here", "_law_spot", "_law_seen_so", "_law_later", "_law_kept_so", "_law_pair"]
theorem c__law_wider_right : FnScope n__law_wider_right ["_law_sites_so", "_law_ring_here", "_law_spot", "_law_seen_so"] (defScope s__law_wider_right) := ⟨rfl, rfl, rfl, by decide +kernel, rfl, by decide +kernel, by decide +kernel⟩
def p__law_wider_right : Sp := fun vs H Q _ => ∃ (p c t l : Addr) (ts rs us ks : List Addr) (out : List (Addr × Addr)) (f : Addr → Pt) (p0 q : Pt) (ar : List Pt), vs = [.ref p, .ref c, .ref t, .ref l] ∧ Lot f H p ts ∧ ts.length < 100 ∧ rs.Perm ts ∧ Ends2 (rs.map f) p0 q ∧ ¬ Row (rs.map f) ∧ Pts f H c us ∧ us.map f = bordN p0 q (rs.map f) ∧ Sit H t (f t).1 (f t).2 ∧ Bd 1000000 (f t).1 (f t).2 ∧
  PrS f H l ks out ∧ ks.length ≤ 1000 ∧ Arnd p0 q (rs.map f) ar ∧ SeenL (sds ar) (mks (f t) ar) (out.map (val2 f)) ∧ out ≠ [] ∧ ∀ H', Same H H' → Q (.bl true) H'
set_option pp.maxSteps 300 in
theorem ok__law_wider_right  (D : Df K mg "_law_wider_right" s__law_wider_right ["_law_sites_so", "_law_ring_here", "_law_spot", "_law_seen_so"]) (C_border : Cl P w K mg base CX0 "border" 3 ["sites"] (p_border)) (C__law_ring_sides : Cl P w K mg base CX0 "_law_ring_sides" 3 ["_law_ring_here"] (p__law_ring_sides)) : Cl P w K mg base CX0 "_law_wider_right" 4 ["_law_sites_so", "_law_ring_here", "_law_spot", "_law_seen_so"] (p__law_wider_right) := by
  refine D.cl fun f fd F => F.ok c__law_wider_right (fun vs H Q E h => ?_) (fun cdv A outer s H vs Q E hr h => ?_)
  · obtain ⟨p, c, t, l, ts, rs, us, ks, out, g, p0, q0, ar, rfl, hl, few, pm, he, nr, hur, eu, st, hb, hS, fewS, arn, sn, ne, q⟩ := h
    rfl
  · obtain ⟨p, c, t, l, ts, rs, us, ks, out, g, p0, q0, ar, rfl, hl, few, pm, he, nr, hur, eu, st, hb, hS, fewS, arn, sn, ne, q⟩ := h
    have nd := c__law_wider_right.nd
    have hu : _ := hu_of hr
    refine ⟨_, (pss_cons (ps_set (i := 4) nd rfl (.inr rfl) (pe_cl C__law_ring_sides (hr.mono (by decide)) (by rfl) pass0 (pa_cons (pe_cl C_border (hr.mono (by decide)) (by rfl) pass0 (pa_cons (pe_op op_catG (pv 0) (pe_lstG (pa_cons (pv 2) pa_nil))) pa_nil)) pa_nil))) (pss_cons (ps_setLc (i := 5) (own := [("_law_pair", 6)]) (g := (gName 6))  rfl nd rfl rfl (sw_true rfl rfl rfl (by decide +kernel)) (pi_list (pe_cl C__law_ring_sides (hr.mono (by decide)) (by rfl) pass0 (pa_cons (pv 1) pa_nil))) (blkOk_by (own := [("_law_pair", 6)]) (N := n__law_wider_right) (sc := defScope s__law_wider_right) (by decide +kernel)) (fun _ _ _ _ _ => by exact (pg_name (i := 6) nd rfl (.inl rfl))) (fun _ _ _ _ _ => by exact (pts_one (pt_cmpR (r := rNotInD K) (by exact op_notInD (u65 hr)) (pv 6) (pv 3) rfl))) (fun _ _ _ _ _ => by exact (pv 6))) (pss_one (ps_ret (pe_and (pe_cmpR (op_eqD hr.units) (pe_lc (own := [("_law_pair", 6)]) (g := (gName 6))  rfl nd (pi_list (pv 3)) (blkOk_by (own := [("_law_pair", 6)]) (N := n__law_wider_right) (sc := defScope s__law_wider_right) (by decide +kernel)) (fun _ _ _ _ _ => by exact (pg_name (i := 6) nd rfl (.inl rfl))) (fun _ _ _ _ _ => by exact (pts_one (pt_cmpR (r := rInD K) (by exact op_inD (u65 hr)) (pv 6) (pv 4) rfl))) (fun _ _ _ _ _ => by exact (pv 6))) (pe_lstG pa_nil) (nomark _)) (pe_one (pe_cmpR (op_eqD hr.units) (pe_lc (own := [("_law_pair", 6)]) (g := (gName 6))  rfl nd (pi_list (pv 5)) (blkOk_by (own := [("_law_pair", 6)]) (N := n__law_wider_right) (sc := defScope s__law_wider_right) (by decide +kernel)) (fun _ _ _ _ _ => by exact (pg_name (i := 6) nd rfl (.inl rfl))) (fun _ _ _ _ _ => by exact (pts_one (pt_cmpR (r := rNotInD K) (by exact op_notInD (u65 hr)) (pv 6) (pv 4) rfl))) (fun _ _ _ _ _ => by exact (pv 6))) (pe_lstG pa_nil) (nomark _)))))))), ?_⟩
    have e0 := hl.at_
    have lts : (ts.map V.ref).length = ts.length := List.length_map _
    -- all that is seen
    have eA : ar = bordN p0 q0 (rs.map g) ++ [p0] := arn.2 nr
    subst eA
    have nxt := fun {a b : Pt} => sides_are he.so he.h0 he.hq nr (a := a) (b := b)
    obtain ⟨e1, m1⟩ : ∃ e, e ∈ out := List.exists_mem_of_ne_nil _ ne
    have neV : out.map (val2 g) ≠ [] := fun z => ne (List.map_eq_nil_iff.mp z)
    have inn := fun {e : Pt × Pt} => seen_in sn neV (e := e)
    have s1' := inn.mp (List.mem_map_of_mem m1)
    have n1 : Nxt (rs.map g) (g e1.1) (g e1.2) := nxt.mp s1'.1
    have far : g t ∉ ts.map g := fun m => by
      have z := n1.1.2.2.2 (g t) ((pm.map g).mem_iff.mpr m)
      have z2 : tn (g e1.1) (g e1.2) (g t) < 0 := s1'.2
      omega
    repeat array_get_dec
    refine fun a1 H1 s1 n1' e1' => ?_
    refine ⟨p, a1, _, _, rfl, rfl, s1 _ _ e0, e1', Nat.le_trans (show _ ≤ 1000 by rw [List.length_map]; show ts.length + 1 ≤ 1000; omega) (by decide), fun a2 H2 s2 n2 e2 => ?_⟩
    have S2 := s1.trans s2
    have e2 : H2 a2 = some (.lst ((ts ++ [t]).map V.ref)) := by rw [e2, List.map_append]; rfl
    have sit2 : SitF g H2 (ts ++ [t]) := fun u m => by
      rcases List.mem_append.mp m with m | m
      · exact ⟨S2 _ _ (hl.sit u m).1, (hl.sit u m).2⟩
      · rw [List.mem_singleton.mp m]
        exact ⟨S2 _ _ st, hb⟩
    have nod2 : ((ts ++ [t]).map g).Nodup := by
      rw [List.map_append]
      refine List.nodup_append.mpr ⟨hl.nod, by simp, fun a ma b mb e => far ?_⟩
      rw [List.map_cons, List.map_nil, List.mem_singleton] at mb
      rw [← mb, ← e]
      exact ma
    obtain ⟨rs', p0', q', out', pm', he', hb'⟩ := brd_all nod2 (by simp)
    have lot2 : Lot g H2 a2 (ts ++ [t]) := ⟨e2, by simp, by rw [List.length_append, List.length_singleton]; omega, sit2, nod2⟩
    have memR : ∀ x, x ∈ rs'.map g ↔ x = g t ∨ x ∈ rs.map g := fun x => by
      rw [(pm'.map g).mem_iff, (pm.map g).mem_iff, List.map_append, List.mem_append, List.map_cons, List.map_nil, List.mem_singleton, or_comm]
    have nr' : ¬ Row (rs'.map g) := fun r => nr fun a ha b hb c hc => r a ((memR a).mpr (.inr ha)) b ((memR b).mpr (.inr hb)) c ((memR c).mpr (.inr hc))
    have wide := fun {a b : Pt} => wider_nxt n1.1 s1'.2 memR (a := a) (b := b)
    refine ⟨out', a2, ts ++ [t], rs', g, p0', q', rfl, lot2, pm', he', hb', fun us3 b3 H3 s3 n3 e3 eo3 sub3 => ?_⟩
    have sit3 := sit2.same s3
    have pts3 := brd_pts he' hb' e3 eo3 sub3 sit3 (by rw [List.length_append, List.length_singleton]; omega)
    repeat array_get_dec
    refine ⟨b3, us3, g, rfl, pts3, fun l4 ks4 ar4 H4 s4 n4 e4 pr4 mem4 len4 rng4 => ?_⟩
    have arn4 := ring_arnd he' hb' eo3 rng4
    have eA4 := arn4.2 nr'
    have nxt4 := fun {a b : Pt} => sides_are he'.so he'.h0 he'.hq nr' (a := a) (b := b)
    have S4 := S2.trans (s3.trans s4)
    have later := pr4.prS e4 mem4 ((pts3.same s4).sit)
    have few4 := pts3.few
    repeat array_get_dec
    refine ⟨c, us, g, rfl, hur.same S4, fun l5 ks5 ar5 H5 s5 n5 e5 pr5 mem5 len5 rng5 => ?_⟩
    have brd5 : Brd p0 q0 (rs.map g) (bordN p0 q0 (rs.map g)) := ⟨fun r => absurd r nr, fun _ => rfl⟩
    have eA5 := (ring_arnd he brd5 eu rng5).2 nr
    have S5 := S4.trans s5
    have all5 := pr5.prS e5 mem5 ((hur.same S5).sit)
    have later5 := later.same s5
    have hS5 := hS.same S5
    have few5 := hur.few
    have lk5 : (ks5.map V.ref).length = ks5.length := List.length_map _
    have few5' : ks5.length ≤ 1000 := by rw [pr5.len, sds_len]; omega
    refine ⟨l5, rfl, ⟨_, SqL.of e5⟩, fun D nD => ?_⟩
    have prs5 := all5.prs
    have mem5' : ∀ k ∈ ks5, H5 k = some (.tup [.ref (pv2 H5 k).1, .ref (pv2 H5 k).2]) ∧ pv2 H5 k ∈ sds ar5 := fun k m => ⟨prs5.at_ k m, by rw [← prs5.map]; exact List.mem_map_of_mem m⟩
    refine lc_fil (walk_list (xs := ks5.map V.ref)) nD (by omega) (fun H6 s6 => SqL.of (s6 _ _ e5)) (fun i => decide (val2 g (pv2 H5 (ks5.getD i c)) ∉ out.map (val2 g))) (fun i => .ref (ks5.getD i c)) (fun i x H6 H7 Kp Kn hi s6 eD yi fin finN => ?_) fun H6 s6 eD => ?_
    · obtain ⟨rfl, hx⟩ := yi
      obtain ⟨k, ek, rfl, mk⟩ := ref_at hx
      rw [getD_at ek] at fin finN
      obtain ⟨hk, me⟩ := mem5' k mk
      have z := all5.sit _ me
      have hk6 := s6 _ _ hk
      repeat array_get_dec
      refine w_ninP hk6 (s6 _ _ z.1) (s6 _ _ z.2) (hS5.same s6) ?_
      refine ⟨_, rfl, ?_⟩
      by_cases c1 : val2 g (pv2 H5 k) ∈ out.map (val2 g)
      · rw [decide_eq_true c1]
        exact finN _ (by rw [decide_eq_false (fun z => z c1)]) (Same.refl _)
      · rw [decide_eq_false c1]
        repeat array_get_dec
        exact fin _ (decide_eq_true c1) (Same.refl _)
    have eK : H6 D = some (.lst ((ks5.filter fun k => decide (val2 g (pv2 H5 k) ∉ out.map (val2 g))).map V.ref)) := by
      rw [eD, lk5, ← range_filter ks5 c fun k => decide (val2 g (pv2 H5 k) ∉ out.map (val2 g)), List.map_map]
      rfl
    have S6 := S5.trans s6
    have hS6 := hS5.same s6
    have later6 := later5.same s6
    have all6 := all5.same s6
    have subK : ∀ k ∈ ks5.filter fun k => decide (val2 g (pv2 H5 k) ∉ out.map (val2 g)), k ∈ ks5 ∧ val2 g (pv2 H5 k) ∉ out.map (val2 g) := fun k m => ⟨(List.mem_filter.mp m).1, of_decide_eq_true (List.mem_filter.mp m).2⟩
    have lenK : (ks5.filter fun k => decide (val2 g (pv2 H5 k) ∉ out.map (val2 g))).length ≤ 1000 := Nat.le_trans (List.length_filter_le _ _) few5'
    generalize ks5.filter (fun k => decide (val2 g (pv2 H5 k) ∉ out.map (val2 g))) = kk at eK subK lenK
    have notIn : ∀ e ∈ out, val2 g e ∉ (sds ar4).map (val2 g) := fun e m z => by
      rw [sds_val, eA4] at z
      have n := wide.2 (nxt4.mp z)
      have k : tn (g e.1) (g e.2) (g t) < 0 := (inn.mp (List.mem_map_of_mem m)).2
      omega
    have isIn : ∀ k ∈ kk, val2 g (pv2 H5 k) ∈ (sds ar4).map (val2 g) := fun k m => by
      obtain ⟨mk, no⟩ := subK k m
      have me : val2 g (pv2 H5 k) ∈ (sds ar5).map (val2 g) := List.mem_map_of_mem (mem5' k mk).2
      rw [sds_val, eA5] at me
      rw [sds_val, eA4]
      refine nxt4.mpr (wide.1 (nxt.mp me) ?_)
      refine Classical.byContradiction fun z => no (inn.mpr ⟨me, ?_⟩)
      have : ¬ 0 ≤ tn (g (pv2 H5 k).1) (g (pv2 H5 k).2) (g t) := z
      show tn (g (pv2 H5 k).1) (g (pv2 H5 k).2) (g t) < 0
      omega
    have lks : (ks.map V.ref).length = ks.length := List.length_map _
    have lkk : (kk.map V.ref).length = kk.length := List.length_map _
    repeat array_get_dec
    refine ⟨⟨_, SqL.of hS6.lst⟩, fun D8 nD8 => ?_⟩
    refine lc_fil (walk_list (xs := ks.map V.ref)) nD8 (by omega) (fun H7 s7 => SqL.of (s7 _ _ hS6.lst)) (fun _ => false) (fun _ => .non) (fun i x H7 H8 Kp Kn hi s7 eD8 yi fin finN => ?_) fun H7 s7 eD8 => ?_
    · obtain ⟨rfl, hx⟩ := yi
      obtain ⟨k, ek, rfl, mk⟩ := ref_at hx
      have hk := hS6.prs.at_ k mk
      have me : pv2 H6 k ∈ out := by rw [← hS6.prs.map]; exact List.mem_map_of_mem mk
      have z := hS6.sit _ me
      have hk7 := s7 _ _ hk
      repeat array_get_dec
      refine w_inP hk7 (s7 _ _ z.1) (s7 _ _ z.2) (later6.same s7) ?_
      rw [decide_eq_false (notIn _ me)]
      repeat array_get_dec
      exact finN _ rfl (Same.refl _)
    have eD8 : H7 D8 = some (.lst []) := by rw [eD8]; simp
    repeat array_get_dec
    refine fun a9 H9 s9 n9 e9 => ?_
    refine w_eqP (f := g) (PrS.nil (s9 _ _ eD8)) (PrS.nil e9) ?_
    refine ⟨true, rfl, ?_⟩
    have eK9 := s9 _ _ (s7 _ _ eK)
    have s69 := s7.trans s9
    repeat array_get_dec
    refine ⟨⟨_, SqL.of eK9⟩, fun Da nDa => ?_⟩
    refine lc_fil (walk_list (xs := kk.map V.ref)) nDa (by omega) (fun Hb sb => SqL.of (sb _ _ eK9)) (fun _ => false) (fun _ => .non) (fun i x Hb Hc Kp Kn hi sb eDa yi fin finN => ?_) fun Hb sb eDa => ?_
    · obtain ⟨rfl, hx⟩ := yi
      obtain ⟨k, ek, rfl, mk⟩ := ref_at hx
      obtain ⟨hk, me⟩ := mem5' k (subK k mk).1
      have z := all5.sit _ me
      have s5b := s6.trans (s69.trans sb)
      have hkb := s5b _ _ hk
      repeat array_get_dec
      refine w_ninP hkb (s5b _ _ z.1) (s5b _ _ z.2) ((later6.same s69).same sb) ?_
      rw [decide_eq_true (isIn k mk)]
      repeat array_get_dec
      exact finN _ rfl (Same.refl _)
    have eDa : Hb Da = some (.lst []) := by rw [eDa]; simp
    repeat array_get_dec
    refine fun ac Hc sc nc ec => ?_
    refine w_eqP (f := g) (PrS.nil (sc _ _ eDa)) (PrS.nil ec) ?_
    exact q _ (S6.trans (s69.trans (sb.trans sc)))
end
/-! ### k07: a right answer -/
section
variable {P : Program} {w : World} {K : PySem.W.Frag} {mg : Str → Option Value} {base : Heap}
theorem sit_src {H : Hp} {t s : Addr} {x y : Int} {N : Nat} (e : Sit H t x y) (hs : SrcB N H s) : t ≠ s := by
  obtain ⟨_, _, _, e2, _⟩ := hs
  rintro rfl
  unfold Sit at e
  rw [e] at e2
  cases e2
theorem SitF.stp {f : Addr → Pt} {H H' : Hp} {s : Addr} {ts : List Addr} {N : Nat} (h : SitF f H ts) (hs : SrcB N H s) (st : Stp s H H') : SitF f H' ts := fun t m => ⟨st.keep _ _ (sit_src (h t m).1 hs) (h t m).1, (h t m).2⟩
theorem Pts.stp {f : Addr → Pt} {H H' : Hp} {p s : Addr} {ts : List Addr} {N : Nat} (h : Pts f H p ts) (hs : SrcB N H s) (st : Stp s H H') : Pts f H' p ts := ⟨st.keep _ _ (refs_ne h.at_ hs) h.at_, h.pos, h.few, h.sit.stp hs st⟩
theorem Lot.stp {f : Addr → Pt} {H H' : Hp} {p s : Addr} {ts : List Addr} {N : Nat} (h : Lot f H p ts) (hs : SrcB N H s) (st : Stp s H H') : Lot f H' p ts := ⟨st.keep _ _ (refs_ne h.at_ hs) h.at_, h.pos, h.few, h.sit.stp hs st, h.nod⟩
/-- told by what stands there -/
theorem SitF.vals {f : Addr → Pt} {H : Hp} {ts : List Addr} (h : SitF f H ts) : ∀ t ∈ ts, hv H t = f t := fun t m => hv_of (h t m).1
theorem SitF.re {f : Addr → Pt} {H : Hp} {ts : List Addr} (h : SitF f H ts) : SitF (hv H) H ts := fun t m => by
  rw [h.vals t m]
  exact h t m
theorem SitF.mapv {f : Addr → Pt} {H : Hp} {ts us : List Addr} (h : SitF f H ts) (sub : ∀ u ∈ us, u ∈ ts) : us.map (hv H) = us.map f := List.map_congr_left fun u m => h.vals u (sub u m)
theorem Lot.re {f : Addr → Pt} {H : Hp} {p : Addr} {ts : List Addr} (h : Lot f H p ts) : Lot (hv H) H p ts := ⟨h.at_, h.pos, h.few, h.sit.re, by rw [h.sit.mapv fun u m => m]; exact h.nod⟩
theorem Pts.re {f : Addr → Pt} {H : Hp} {p : Addr} {ts : List Addr} (h : Pts f H p ts) : Pts (hv H) H p ts := ⟨h.at_, h.pos, h.few, h.sit.re⟩
theorem arnd_uniq {p0 q : Pt} {rows a b : List Pt} (h : Arnd p0 q rows a) (k : Arnd p0 q rows b) : a = b := by
  by_cases r : Row rows
  · exact (h.1 r).trans (k.1 r).symm
  · exact (h.2 r).trans (k.2 r).symm
theorem Lays.small {l : List Pt} {outs : List (List Pt)} (h : Lays l outs) : ∀ o ∈ outs, o.length ≤ l.length := by
  induction h with
  | nil => intro o m; cases m
  | @step l rows out outs p0 q pm e hb _ ih =>
    intro o m
    rcases List.mem_cons.mp m with rfl | m
    · have sub : ∀ x ∈ o, x ∈ l := fun x mx => by
        refine pm.mem_iff.mp ?_
        by_cases r : Row rows
        · rw [hb.1 r] at mx
          exact mx
        · rw [hb.2 r] at mx
          obtain ⟨mid, eB, ring⟩ := ringB_of e.so e.h0 e.hq r
          rw [eB] at mx
          exact pr_sub (l := p0 :: mid) ring.pr x mx
      exact sub_len (brd_nodup e hb) sub
    · exact Nat.le_trans (ih o m) (List.length_filter_le _ _)
/-- lists of sites, by value -/
def dL (o : List Pt) : PyData := .list (o.map dS)
theorem dL_all (os : List (List Pt)) : PyData.canLayAll0 (os.map dL) = true ∧ PyData.depthAll (os.map dL) ≤ 20 := by
  induction os with
  | nil => exact ⟨rfl, Nat.zero_le _⟩
  | cons o os ih =>
    obtain ⟨h1, h2⟩ := ih
    obtain ⟨h3, h4⟩ := dS_all o
    refine ⟨?_, ?_⟩
    · rw [List.map_cons]
      show (PyData.canLay0 (dL o) && _) = true
      rw [h1]
      simp [dL, PyData.canLay0, h3]
    · simp only [List.map_cons, PyData.depthAll]
      have : (dL o).depth ≤ 20 := by
        unfold dL
        simp only [PyData.depth]
        omega
      omega
theorem dL_shaped (os : List (List Pt)) : SeqAt.shaped (.list (os.map dL)) = true := by
  obtain ⟨h1, h2⟩ := dL_all os
  unfold SeqAt.shaped
  rw [Bool.and_eq_true]
  refine ⟨by simp [PyData.canLay0, h1], decide_eq_true ?_⟩
  simp only [PyData.depth]
  omega
theorem dL_eqvA : ∀ os qs : List (List Pt), PyData.eqvAll (os.map dL) (qs.map dL) = decide (os = qs)
  | [], [] => rfl
  | [], _ :: _ => rfl
  | _ :: _, [] => rfl
  | p :: ps, q :: qs => by
    rw [List.map_cons, List.map_cons, PyData.eqvAll, show PyData.eqv (dL p) (dL q) = decide (p = q) from dS_eqvL p q, dL_eqvA ps qs]
    by_cases h : p = q <;> by_cases k : ps = qs <;> simp [h, k]
theorem dL_eqvL (os qs : List (List Pt)) : PyData.eqv (.list (os.map dL)) (.list (qs.map dL)) = decide (os = qs) := by
  rw [← dL_eqvA]
  simp only [PyData.eqv]
theorem dpa_cat : ∀ {H : Hp} {xs ys : List V} {ds es : List PyData}, DpAll K H xs ds → DpAll K H ys es → DpAll K H (xs ++ ys) (ds ++ es)
  | _, _, _, _, _, .nil, k => k
  | _, _, _, _, _, .cons h t, k => .cons h (dpa_cat t k)
theorem LL.dpa {f : Addr → Pt} {H : Hp} {ts ls : List Addr} {outs : List (List Pt)} (h : LL f H ts ls outs) (s : ∀ t ∈ ts, Sit H t (f t).1 (f t).2) : DpAll K H (ls.map V.ref) (outs.map dL) := by
  induction h with
  | nil => exact .nil
  | @snoc ls outs l us h e sub ih =>
    rw [List.map_append, List.map_append]
    exact dpa_cat ih (.cons (dpS_list e fun t m => s t (sub t m)) .nil)
theorem w_neLL {f g : Addr → Pt} {H : Hp} {Q : VK} {a b : Addr} {ts us ls ms : List Addr} {os qs : List (List Pt)} (ea : H a = some (.lst (ls.map V.ref))) (h : LL f H ts ls os) (s : ∀ t ∈ ts, Sit H t (f t).1 (f t).2) (eb : H b = some (.lst (ms.map V.ref))) (k : LL g H us ms qs) (s2 : ∀ t ∈ us, Sit H t (g t).1 (g t).2) (z : Q (.bl (!decide (os = qs))) H) : rNeD K (.ref a) (.ref b) H Q :=
  ⟨_, _, .lst (SqL.of ea) (h.dpa s), .lst (SqL.of eb) (k.dpa s2), dL_shaped _, dL_shaped _, by rw [dL_eqvL]; exact z⟩
/-- the first place where it is so -/
theorem first_true : ∀ (l : List Bool), true ∈ l → ∃ j : Nat, l[j]? = some true ∧ ∀ m : Nat, m < j → l[m]? = some false
  | [], h => by cases h
  | true :: l, _ => ⟨0, rfl, fun m h => absurd h (Nat.not_lt_zero m)⟩
  | false :: l, h => by
    obtain ⟨j, e, b⟩ := first_true l ((List.mem_cons.mp h).resolve_left (fun z => Bool.noConfusion z))
    refine ⟨j + 1, e, fun m lt => ?_⟩
    cases m with
    | zero => rfl
    | succ m => exact b m (by omega)
theorem lay_place {l : List Pt} {outs : List (List Pt)} (h : Lays l outs) {x : Pt} (m : x ∈ l) : ∃ j : Nat, (outs.map fun o => decide (x ∈ o))[j]? = some true ∧ ∀ m : Nat, m < j → (outs.map fun o => decide (x ∈ o))[m]? = some false := by
  obtain ⟨o, mo, mx⟩ := h.all x m
  exact first_true _ (List.mem_map.mpr ⟨o, mo, decide_eq_true mx⟩)
abbrev s__law_right : Stmt := topS 37
abbrev n__law_right : List Str := ["_law_purse_here", "_law_sites_so", "_law_due", "_law_ring_here", "_law_row", "_law_spot", "_law_turn_so", "_law_a", "_law_b", "_law_u", "_law_v", "_law_seen_so", "_law_some"]
theorem c__law_right : FnScope n__law_right ["_law_purse_here"] (defScope s__law_right) := ⟨rfl, rfl, rfl, by decide +kernel, rfl, by decide +kernel, by decide +kernel⟩
def p_right : Sp := fun vs H Q _ => ∃ (s : Addr) (N : Nat), vs = [.ref s] ∧ SrcB N H s ∧ N < 2 ^ 37 ∧ ∀ H', Stp s H H' → SrcB (N + 1000) H' s → Q (.bl true) H'
set_option pp.maxSteps 300 in
theorem ok__law_right  (D : Df K mg "_law_right" s__law_right ["_law_purse_here"]) (C__law_coin : Cl P w K mg base CX0 "_law_coin" 1 ["_law_purse_here", "_law_many"] (p__law_coin)) (C__law_pick : Cl P w K mg base CX0 "_law_pick" 2 ["_law_purse_here", "_law_some"] (p__law_pick)) (C__law_sites : Cl P w K mg base CX0 "_law_sites" 4 ["_law_purse_here", "_law_least_so", "_law_most_so"] (p__law_sites)) (C__law_flat : Cl P w K mg base CX0 "_law_flat" 2 ["_law_sites_so"] (p__law_flat)) (C__law_border : Cl P w K mg base CX0 "_law_border" 3 ["_law_sites_so"] (p__law_border)) (C__law_fits : Cl P w K mg base CX0 "_law_fits" 1 ["_law_spot"] (p__law_fits)) (C__law_layers : Cl P w K mg base CX0 "_law_layers" 4 ["_law_sites_so"] (p__law_layers)) (C_layers : Cl P w K mg base CX0 "layers" 3 ["sites"] (p_layers)) (C_layer_of : Cl P w K mg base CX0 "layer_of" 4 ["sites", "site"] (p_layer_of)) (C_seen_sides : Cl P w K mg base CX0 "seen_sides" 3 ["sites", "site"] (p_seen_sides)) (C__law_seen : Cl P w K mg base CX0 "_law_seen" 4 ["_law_ring_here", "_law_spot"] (p__law_seen)) (C__law_wider_right : Cl P w K mg base CX0 "_law_wider_right" 4 ["_law_sites_so", "_law_ring_here", "_law_spot", "_law_seen_so"] (p__law_wider_right)) (mrange : mg "range" = none) : Cl P w K mg base CX0 "_law_right" 5 ["_law_purse_here"] (p_right) := by
  refine D.cl fun f fd F => F.ok c__law_right (fun vs H Q E h => ?_) (fun cdv A outer s H vs Q E hr h => ?_)
  · obtain ⟨s, N, rfl, hs, hN, q⟩ := h
    rfl
  · obtain ⟨s, N, rfl, hs, hN, q⟩ := h
    have nd := c__law_right.nd
    have hu : _ := hu_of hr
    refine ⟨_, (pss_cons (ps_set (i := 1) nd rfl (.inl rfl) (pe_cl C__law_sites (hr.mono (by decide)) (by rfl) pass0 (pa_cons (pv 0) (pa_cons pe_int (pa_cons pe_int pa_nil))))) (pss_cons (ps_par (i := 2) (j := 3) (by rfl) nd rfl rfl (by decide) rfl rfl (pa_cons (pe_cl C__law_layers (hr.mono (by decide)) (by rfl) pass0 (pa_cons (pv 1) pa_nil)) (pa_cons (pe_cl C__law_border (hr.mono (by decide)) (by rfl) pass0 (pa_cons (pv 1) pa_nil)) pa_nil)) (by rfl)) (pss_cons (ps_for PassesOwn.never rfl (pi_list (pe_op op_catG (pe_lstG (pa_cons (pe_cl C_layers (hr.mono (by decide)) (by rfl) pass0 (pa_cons (pv 1) pa_nil)) pa_nil)) (pe_cl C_layers (hr.mono (by decide)) (by rfl) pass0 (pa_cons (pv 1) pa_nil)))) (pg_name (i := 4) nd rfl (.inl rfl)) (pss_one (ps_expr (pe_bm PySem.F.plainAttrs_list PySem.F.slot_list_append PySem.F.type_list_append mt_append (pv 4) (pa_cons pe_non pa_nil))))) (pss_cons (ps_if (PW.pt (pw_or (pt_cmpR (op_neD hr.units) (pe_cl C_layers (hr.mono (by decide)) (by rfl) pass0 (pa_cons (pv 1) pa_nil)) (pv 2) (nomark _)) (pw_or1 (pt_cmpR (op_neD hr.units) (pe_cl C_layers (hr.mono (by decide)) (by rfl) pass0 (pa_cons (pe_revL (pv 1)) pa_nil)) (pv 2) (nomark _))))) (pss_one (ps_ret pe_bl)) pss_nil) (pss_cons (ps_for PassesOwn.never rfl (pi_list (pv 1)) (pg_name (i := 5) nd rfl (.inr rfl)) (pss_one (ps_if (pt_cmpR op_ne (pe_cl C_layer_of (hr.mono (by decide)) (by rfl) pass0 (pa_cons (pv 1) (pa_cons (pv 5) pa_nil))) (pe_bm PySem.F.plainAttrs_list PySem.F.slot_list_index PySem.F.type_list_index mt_index (pe_lc (own := [("_law_some", 12)]) (g := (gName 12)) (tt := tYes)  rfl nd (pi_list (pv 2)) (blkOk_by (own := [("_law_some", 12)]) (N := n__law_right) (sc := defScope s__law_right) (by decide +kernel)) (fun _ _ _ _ _ => by exact (pg_name (i := 12) nd rfl (.inl rfl))) (fun _ _ _ _ _ => by exact pts_nil) (fun _ _ _ _ _ => by exact (pe_cmpR (r := rInD K) (by exact op_inD (u65 hr)) (pv 5) (pv 12) rfl))) (pa_cons pe_bl pa_nil)) (nomark _)) (pss_one (ps_ret pe_bl)) pss_nil))) (pss_cons (ps_for PassesOwn.never rfl (pi_range1 (by rfl) mrange (pa_cons pe_int pa_nil)) (pg_name (i := 6) nd rfl (.inl rfl)) (pss_cons (ps_par (i := 7) (j := 8) (by rfl) nd rfl rfl (by decide) rfl rfl (pa_cons (pe_cl C__law_pick (hr.mono (by decide)) (by rfl) pass0 (pa_cons (pv 0) (pa_cons (pv 1) pa_nil))) (pa_cons (pe_cl C__law_pick (hr.mono (by decide)) (by rfl) pass0 (pa_cons (pv 0) (pa_cons (pv 1) pa_nil))) pa_nil)) (by rfl)) (pss_cons (ps_par (i := 9) (j := 10) (by rfl) nd rfl rfl (by decide) rfl rfl (pa_cons (pe_op op_sub (pe_cl C__law_coin (hr.mono (by decide)) (by rfl) pass0 (pa_cons (pv 0) (pa_cons pe_int pa_nil))) pe_int) (pa_cons (pe_op op_sub (pe_cl C__law_coin (hr.mono (by decide)) (by rfl) pass0 (pa_cons (pv 0) (pa_cons pe_int pa_nil))) pe_int) pa_nil)) (by rfl)) (pss_cons (ps_set (i := 5) nd rfl (.inr rfl) (pe_cl C__law_pick (hr.mono (by decide)) (by rfl) pass0 (pa_cons (pv 0) (pa_cons (pe_lstG (pa_cons (pe_tupG (pa_cons (pe_op op_add (pe_ix ix_tup (pv 7) pe_int (fun _ _ => rfl)) (pv 9)) (pa_cons (pe_op op_add (pe_ix ix_tup (pv 7) pe_int (fun _ _ => rfl)) (pv 10)) pa_nil))) (pa_cons (pe_tupG (pa_cons (pe_op op_sub (pe_op op_mulW pe_int (pe_ix ix_tup (pv 7) pe_int (fun _ _ => rfl))) (pe_ix ix_tup (pv 8) pe_int (fun _ _ => rfl))) (pa_cons (pe_op op_sub (pe_op op_mulW pe_int (pe_ix ix_tup (pv 7) pe_int (fun _ _ => rfl))) (pe_ix ix_tup (pv 8) pe_int (fun _ _ => rfl))) pa_nil))) (pa_cons (pv 7) pa_nil)))) pa_nil)))) (pss_one (ps_if (pt_val (pe_cl C__law_fits (hr.mono (by decide)) (by rfl) pass0 (pa_cons (pv 5) pa_nil))) (pss_cons (ps_set (i := 11) nd rfl (.inl rfl) (pe_cl C__law_seen (hr.mono (by decide)) (by rfl) pass0 (pa_cons (pv 3) (pa_cons (pv 5) pa_nil)))) (pss_cons (ps_expr (pe_bm PySem.F.plainAttrs_list PySem.F.slot_list_append PySem.F.type_list_append mt_append (pe_cl C_seen_sides (hr.mono (by decide)) (by rfl) pass0 (pa_cons (pv 1) (pa_cons (pv 5) pa_nil))) (pa_cons pe_non pa_nil))) (pss_cons (ps_if (pt_cmpR (op_neD hr.units) (pe_cl C_seen_sides (hr.mono (by decide)) (by rfl) pass0 (pa_cons (pv 1) (pa_cons (pv 5) pa_nil))) (pv 11) (nomark _)) (pss_one (ps_ret pe_bl)) pss_nil) (pss_one (ps_if (PW.pt (pw_and (pt_cmpR (op_neD hr.units) (pv 11) (pe_lstG pa_nil) (nomark _)) (pw_and (pt_not (pt_val (pe_cl C__law_flat (hr.mono (by decide)) (by rfl) pass0 (pa_cons (pv 3) pa_nil)))) (pw_and1 (pt_not (pt_val (pe_cl C__law_wider_right (hr.mono (by decide)) (by rfl) pass0 (pa_cons (pv 1) (pa_cons (pv 3) (pa_cons (pv 5) (pa_cons (pv 11) pa_nil))))))))))) (pss_one (ps_ret pe_bl)) pss_nil))))) pss_nil)))))) (pss_one (ps_ret pe_bl)))))))), ?_⟩
    repeat array_get_dec
    refine ⟨s, 1, 14, N, rfl, hs, by omega, by decide, by decide, by decide, fun p ts H1 B1 hl len np => ?_⟩
    generalize hg : hv H1 = g at hl
    have few := hl.few
    obtain ⟨rs, p0, q0, out, pm, he, hb⟩ := brd_all hl.nod (fun z => absurd hl.pos (by rw [z]; decide))
    obtain ⟨outs, hL⟩ := lays_ex (ts.map g).length (l := ts.map g) (Nat.le_refl _) hl.nod
    repeat array_get_dec
    refine ⟨p, ts, g, outs, rfl, hl, by omega, hL, fun pd dl H2 s2 n2 e2 LD => ?_⟩
    have hl2 := hl.same s2
    repeat array_get_dec
    refine ⟨p, ts, rs, g, p0, q0, out, rfl, hl2, by omega, pm, he, hb, fun us pr H3 s3 n3 e3 eo sub => ?_⟩
    have hl3 := hl2.same s3
    have ed3 := s3 _ _ e2
    have LD3 := LD.keep fun l m o e => s3 _ _ e
    have hr3 := brd_pts he hb e3 eo sub hl3.sit (by omega)
    -- what is told is new
    repeat array_get_dec
    refine ⟨p, ts, g, outs, rfl, hl3, hL, fun q4 l4 H4 s4 n4 e4 L4 f4 => ?_⟩
    repeat array_get_dec
    refine fun q5 H5 s5 n5 e5 => ?_
    repeat array_get_dec
    have S35 := s4.trans s5
    refine ⟨p, ts, g, outs, rfl, hl3.same S35, hL, fun q6 l6 H6 s6 n6 e6 L6 f6 => ?_⟩
    have lts : (ts.map g).length = ts.length := List.length_map _
    have len6 : l6.length ≤ 200 := by
      have := hL.len
      rw [L6.len]
      omega
    have len4 : l4.length ≤ 200 := by
      have := hL.len
      rw [L4.len]
      omega
    refine ⟨q5, q6, _, _, rfl, rfl, s6 _ _ e5, e6, Nat.le_trans (show _ ≤ 1000 by rw [List.length_map]; show 1 + l6.length ≤ 1000; omega) (by decide), fun q7 H7 s7 n7 e7 => ?_⟩
    have e7 : H7 q7 = some (.lst ((q4 :: l6).map V.ref)) := e7
    have S37 := S35.trans (s6.trans s7)
    have ins : ∀ l ∈ q4 :: l6, H3 l = none ∧ l ≠ q7 ∧ ∃ xs, H7 l = some (.lst xs) ∧ xs.length ≤ 1000 := fun l m => by
      rcases List.mem_cons.mp m with rfl | m
      · have z := (s5.trans s6) _ _ e4
        exact ⟨n4, ne_of_none z n7, _, s7 _ _ z, by rw [List.length_map]; omega⟩
      · obtain ⟨j, hj, rfl⟩ := List.getElem_of_mem m
        obtain ⟨vs, ev, eov, _⟩ := L6.get j _ (List.getElem?_eq_getElem hj)
        have z := hL.small _ (List.mem_of_getElem? eov)
        rw [List.length_map] at z
        exact ⟨S35.free (f6 _ m), ne_of_none ev n7, _, s7 _ _ ev, by rw [List.length_map]; omega⟩
    have lX : ((q4 :: l6).map V.ref).length ≤ 201 := by rw [List.length_map, List.length_cons]; omega
    refine ⟨q7, rfl, ⟨_, SqL.of e7⟩, for_list (K := K) (a := q7) (xs := (q4 :: l6).map V.ref) (fun i σ' H' => (∃ y4 y5 y6 y7 y8 y9 y10 y11 y12, σ' = [some (.ref s), some (.ref p), some (.ref pd), some (.ref pr), y4, y5, y6, y7, y8, y9, y10, y11, y12]) ∧ Same H3 H' ∧ H' q7 = some (.lst ((q4 :: l6).map V.ref)) ∧ ∀ l ∈ q4 :: l6, ∃ xs, H' l = some (.lst xs) ∧ xs.length ≤ 1000 + i) ⟨⟨_, _, _, _, _, _, _, _, _, rfl⟩, S37, e7, fun l m => (ins l m).2.2⟩ (fun i σ' H' _ z => SqL.of z.2.2.1) (fun i x σ' H' hx z => ?_) fun σ' H' z => ?_⟩
    · obtain ⟨⟨y4, y5, y6, y7, y8, y9, y10, y11, y12, rfl⟩, sH, eq, each⟩ := z
      have hi : i < 201 := Nat.lt_of_lt_of_le (List.getElem?_eq_some_iff.mp hx).1 lX
      obtain ⟨l, el, rfl, ml⟩ := ref_at hx
      obtain ⟨l0, l7, _⟩ := ins l ml
      obtain ⟨xs, exs, lxs⟩ := each l ml
      repeat array_get_dec
      refine ⟨.inl ⟨rfl, _, SqL.of exs⟩, ?_⟩
      repeat array_get_dec
      refine ⟨l, xs, .non, rfl, rfl, exs, Nat.lt_of_lt_of_le (show xs.length < 2000 by omega) (by decide), ?_⟩
      refine ⟨⟨_, _, _, _, _, _, _, _, _, rfl⟩, Same.put sH l0, by rw [upd_ne l7.symm]; exact eq, fun k m => ?_⟩
      by_cases c : k = l
      · subst c
        exact ⟨_, upd_same, by rw [List.length_append]; show xs.length + 1 ≤ 1000 + (i + 1); omega⟩
      · obtain ⟨ys, ey, ly⟩ := each k m
        exact ⟨ys, by rw [upd_ne c]; exact ey, by omega⟩
    obtain ⟨⟨y4, y5, y6, y7, y8, y9, y10, y11, y12, rfl⟩, s8, _, _⟩ := z
    clear ins e7 n7 n6 n5 L6 f6 e6 e5 L4 f4 e4 n4 s7 s6 s5 s4 S37 S35
    have hl8 := hl3.same s8
    -- the layers are the law's
    repeat array_get_dec
    refine ⟨p, ts, g, outs, rfl, hl8, hL, fun q9 l9 H9 s9 n9 e9 L9 _ => ?_⟩
    have hl9 := hl8.same s9
    have S9 := s8.trans s9
    have LD9 := LD3.keep fun l m o e => S9 _ _ e
    repeat array_get_dec
    refine w_neLL e9 L9 (fun t m => (hl9.sit t m).1) (S9 _ _ ed3) LD9 (fun t m => (hl9.sit t m).1) ?_
    refine ⟨_, rfl, ?_⟩
    rw [decide_eq_true rfl]
    repeat array_get_dec
    refine ⟨p, _, rfl, SqL.of hl9.at_, fun pv npv => ?_⟩
    have sv : Same H9 (upd H9 pv (.lst (ts.map V.ref).reverse)) := Same.upd npv
    have ev : upd H9 pv (.lst (ts.map V.ref).reverse) pv = some (.lst (ts.reverse.map V.ref)) := by rw [upd_same, List.map_reverse]
    generalize upd H9 pv (.lst (ts.map V.ref).reverse) = Hv at sv ev ⊢
    have loV : Lot g Hv pv ts.reverse := ⟨ev, by rw [List.length_reverse]; exact hl.pos, by rw [List.length_reverse]; exact few, (hl9.sit.same sv).sub fun u m => List.mem_reverse.mp m, ((List.reverse_perm ts).map g).nodup_iff.mpr hl.nod⟩
    repeat array_get_dec
    refine ⟨pv, ts.reverse, g, outs, rfl, loV, hL.perm ((List.reverse_perm ts).symm.map g), fun qa la Ha sa na ea La _ => ?_⟩
    have Sa := S9.trans (sv.trans sa)
    have hla := hl3.same Sa
    have LDa := LD3.keep fun l m o e => Sa _ _ e
    repeat array_get_dec
    refine w_neLL ea La (fun t m => (hla.sit t (List.mem_reverse.mp m)).1) (Sa _ _ ed3) LDa (fun t m => (hla.sit t m).1) ?_
    refine ⟨_, rfl, ?_⟩
    rw [decide_eq_true rfl]
    repeat array_get_dec
    -- each site's layer
    have ltr : (ts.map V.ref).length = ts.length := List.length_map _
    refine ⟨⟨_, SqL.of hla.at_⟩, for_list (K := K) (a := p) (xs := ts.map V.ref) (fun i σ' H' => (∃ y4 y5 y6 y7 y8 y9 y10 y11 y12, σ' = [some (.ref s), some (.ref p), some (.ref pd), some (.ref pr), y4, y5, y6, y7, y8, y9, y10, y11, y12]) ∧ Same H3 H') ⟨⟨_, _, _, _, _, _, _, _, _, rfl⟩, Sa⟩ (fun i σ' H' _ z => SqL.of (hl3.same z.2).at_) (fun i x σ' H' hx z => ?_) fun σ' Hc z => ?_⟩
    · obtain ⟨⟨y4, y5, y6, y7, y8, y9, y10, y11, y12, rfl⟩, sH⟩ := z
      obtain ⟨t, et, rfl, mt⟩ := ref_at hx
      have hlH := hl3.same sH
      obtain ⟨j, ej, before⟩ := lay_place hL (List.mem_map_of_mem (f := g) mt)
      repeat array_get_dec
      refine ⟨p, t, (g t).1, (g t).2, ts, g, outs, j, rfl, hlH, hL, (hlH.sit t mt).1, (hlH.sit t mt).2, List.mem_map_of_mem mt, ej, before, fun Hb sb => ?_⟩
      have Sb := sH.trans sb
      have hlb := hl3.same Sb
      have LDb := LD3.keep fun l m o e => Sb _ _ e
      have edb := Sb _ _ ed3
      repeat array_get_dec
      refine ⟨⟨_, SqL.of edb⟩, fun D nD => ?_⟩
      have fewd : dl.length ≤ 200 := by
        have := hL.len
        rw [LDb.len]
        omega
      have ldl : (dl.map V.ref).length = dl.length := List.length_map _
      refine lc_val (walk_list (xs := dl.map V.ref)) nD (by omega) (fun H6 s6 => SqL.of (s6 _ _ edb)) (outs.map fun o => V.bl (decide (g t ∈ o))) (by rw [List.length_map, ldl, LDb.len]) (fun i yv v H6 H7 Kp' hy s6 eD2 yi fin' => ?_) fun H6 s6 eD => ?_
      · obtain ⟨rfl, hx⟩ := yi
        obtain ⟨l, el, rfl, ml⟩ := ref_at hx
        obtain ⟨vs, ev, eov, subv⟩ := LDb.get i l el
        rw [List.getElem?_map, eov] at hy
        cases hy
        have hl6 := hlb.same s6
        repeat array_get_dec
        refine w_inS (p := g t) (f := g) (hl6.sit t mt).1 (s6 _ _ ev) (fun u m => (hl6.sit u (subv u m)).1) ?_
        exact fin' _ (Same.refl _)
      · repeat array_get_dec
        refine ⟨.inl ⟨rfl, _, SqL.of eD⟩, ?_⟩
        repeat array_get_dec
        have em : (outs.map fun o => V.bl (decide (g t ∈ o))) = (outs.map fun o => decide (g t ∈ o)).map V.bl := by rw [List.map_map]; rfl
        rw [em] at eD
        refine ⟨D, _, .bl true, j, .bl true, rfl, rfl, SqL.of eD, rfl, bl_flat _, by rw [List.getElem?_map, ej]; rfl, rfl, fun m z lt ez => ?_, ?_⟩
        · rw [List.getElem?_map, before m lt] at ez
          cases ez
          rfl
        repeat array_get_dec
        exact ⟨⟨_, _, _, _, _, _, _, _, _, rfl⟩, Sb.trans s6⟩
    obtain ⟨⟨y4, y5, y6, y7, y8, y9, y10, y11, y12, rfl⟩, sC⟩ := z
    have hlc := hl3.same sC
    have hrc := hr3.same sC
    have Bc := B1.same (s2.trans (s3.trans sC))
    clear hl8 hl9 hla LD9 LDa LD3 LD Sa S9 s9 sa sv s8
    repeat array_get_dec
    refine ⟨by decide, by decide, for_range (lo := 0) (n := 9) (fun i σ' H' => (∃ y4 y5 y6 y7 y8 y9 y10 y11 y12, σ' = [some (.ref s), some (.ref p), some (.ref pd), some (.ref pr), y4, y5, y6, y7, y8, y9, y10, y11, y12]) ∧ SB s (N + 300 + 5 * i) Hc H') ⟨⟨_, _, _, _, _, _, _, _, _, rfl⟩, SB.refl Bc.sb⟩ (fun i σ' H' hi z => ?_) fun σ' H' z => ?_⟩
    · obtain ⟨⟨y4, y5, y6, y7, y8, y9, y10, y11, y12, rfl⟩, B⟩ := z
      have hlH := hlc.stp Bc.sb B.st
      have ps : p ≠ s := refs_ne hlH.at_ B.sb
      have ltr : (ts.map V.ref).length = ts.length := List.length_map _
      repeat array_get_dec
      refine ⟨s, p, ts.map V.ref, N + 300 + 5 * i, rfl, B.sb, by omega, hlH.at_, ps, by have := hl.pos; omega, by omega, fun xa Ha ma sta sba => ?_⟩
      obtain ⟨a, mat, rfl⟩ := List.mem_map.mp ma
      have Ba := B.step sta sba
      have hla := hlc.stp Bc.sb Ba.st
      repeat array_get_dec
      refine ⟨s, p, ts.map V.ref, N + 300 + 5 * i + 1, rfl, Ba.sb, by omega, hla.at_, ps, by have := hl.pos; omega, by omega, fun xb Hb mb stb sbb => ?_⟩
      obtain ⟨b, mbt, rfl⟩ := List.mem_map.mp mb
      have Bb := Ba.step stb sbb
      repeat array_get_dec
      refine ⟨s, 9, N + 300 + 5 * i + 1 + 1, rfl, Bb.sb, by omega, by decide, i_small (by decide), fun u Hu u0 u1 stu sbu => ?_⟩
      have Bu := Bb.step stu sbu
      repeat array_get_dec
      refine ⟨s, 9, N + 300 + 5 * i + 1 + 1 + 1, rfl, Bu.sb, by omega, by decide, i_small (by decide), fun v Hv v0 v1 stv sbv => ?_⟩
      have Bv := Bu.step stv sbv
      have hlv := hlc.stp Bc.sb Bv.st
      obtain ⟨ea, a1, a2, a3, a4⟩ := hlv.sit a mat
      obtain ⟨eb, b1, b2, b3, b4⟩ := hlv.sit b mbt
      unfold Sit at ea eb
      repeat array_get_dec
      refine fun t1 Hw sw1 nt1 et1 => ?_
      have ea1 := sw1 _ _ ea
      have eb1 := sw1 _ _ eb
      repeat array_get_dec
      refine fun t2 Hx sx2 nt2 et2 => ?_
      repeat array_get_dec
      refine fun l3 Hy sy3 nl3 el3 => ?_
      have s13 := sw1.trans (sx2.trans sy3)
      have By := Bv.same s13
      have l3s : l3 ≠ s := (Bv.same (sw1.trans sx2)).sb.ne nl3
      repeat array_get_dec
      refine ⟨s, l3, [.ref t1, .ref t2, .ref a], N + 300 + 5 * i + 1 + 1 + 1 + 1, rfl, By.sb, by omega, el3, l3s, by show 0 < 3; decide, by show 3 ≤ 1000; decide, fun xt Hd mt std sbd => ?_⟩
      have Bd' := By.step std sbd
      have hld := hlc.stp Bc.sb Bd'.st
      have hrd := hrc.stp Bc.sb Bd'.st
      obtain ⟨t, x, y, rfl, sit⟩ : ∃ t x y, xt = .ref t ∧ Sit Hd t x y := by
        have n1 : t1 ≠ s := Bv.sb.ne nt1
        have n2 : t2 ≠ s := (Bv.same sw1).sb.ne nt2
        rcases List.mem_cons.mp mt with rfl | mt
        · exact ⟨t1, _, _, rfl, std.keep _ _ n1 (sy3 _ _ (sx2 _ _ et1))⟩
        rcases List.mem_cons.mp mt with rfl | mt
        · exact ⟨t2, _, _, rfl, std.keep _ _ n2 (sy3 _ _ et2)⟩
        · rw [List.mem_singleton.mp mt]
          exact ⟨a, _, _, rfl, (hld.sit a mat).1⟩
      repeat array_get_dec
      refine ⟨t, x, y, rfl, sit, fun b hbd => ?_⟩
      have next : ∀ {Hz : Hp}, Same Hd Hz → SB s (N + 300 + 5 * (i + 1)) Hc Hz := fun sz => (Bd'.mono (by omega)).same sz
      cases b
      · repeat array_get_dec
        exact ⟨⟨_, _, _, _, _, _, _, _, _, rfl⟩, next (Same.refl _)⟩
      have bd := hbd.mp rfl
      -- all by what stands there now
      have lo := hld.re
      have po := hrd.re
      have er : rs.map (hv Hd) = rs.map g := hld.sit.mapv fun u m => pm.mem_iff.mp m
      have eu : us.map (hv Hd) = out := by rw [hrd.sit.mapv fun u m => m, eo]
      have gt : hv Hd t = (x, y) := hv_of sit
      have he2 : Ends2 (rs.map (hv Hd)) p0 q0 := by rw [er]; exact he
      have hb2 : Brd p0 q0 (rs.map (hv Hd)) out := by rw [er]; exact hb
      have sit2 : Sit Hd t (hv Hd t).1 (hv Hd t).2 := by rw [gt]; exact sit
      have bd2 : Bd 1000000 (hv Hd t).1 (hv Hd t).2 := by rw [gt]; exact bd
      generalize hv Hd = f at lo po er eu gt he2 hb2 sit2 bd2
      have se : ((x, y) : Pt) = f t := gt.symm
      repeat array_get_dec
      refine ⟨pr, t, us, f, f t, rfl, po, sit2, bd2, fun ls ks1 out1 ar1 He sde nls els prs1 mem1 rng1 sn1 few1 => ?_⟩
      have arn1 := ring_arnd he2 hb2 eu rng1
      have loe := lo.same sde
      have poe := po.same sde
      have prS1 : PrS f He ls ks1 out1 := ⟨els, prs1, fun e m => ⟨(poe.sit _ (mem1 e m).1).1, (poe.sit _ (mem1 e m).2).1⟩⟩
      repeat array_get_dec
      refine ⟨p, t, x, y, ts, rs, f, p0, q0, rfl, loe, pm, he2, sde _ _ sit, bd, fun l2 ks2 out2 ar2 Hf sef nl2 el2 _ _ _ _ few2 => ?_⟩
      refine ⟨.inl ⟨rfl, _, SqL.of el2⟩, ?_⟩
      refine ⟨l2, _, .non, rfl, rfl, el2, Nat.lt_of_le_of_lt (show _ ≤ 1000 by rw [List.length_map]; exact few2) (by decide), ?_⟩
      have seg : Same He (upd Hf l2 (.lst (ks2.map V.ref ++ [.non]))) := Same.put sef nl2
      generalize upd Hf l2 (.lst (ks2.map V.ref ++ [.non])) = Hg at seg ⊢
      clear sef nl2 el2 few2
      have sdg := sde.trans seg
      repeat array_get_dec
      refine ⟨p, t, x, y, ts, rs, f, p0, q0, rfl, loe.same seg, pm, he2, sdg _ _ sit, bd, fun l3 ks3 out3 ar3 Hh sgh nl3 el3 prs3 mem3 arn3 sn3 few3 => ?_⟩
      have loh := (loe.same seg).same sgh
      have prS3 : PrS f Hh l3 ks3 out3 := ⟨el3, prs3, fun e m => ⟨(loh.sit _ (mem3 e m).1).1, (loh.sit _ (mem3 e m).2).1⟩⟩
      have prS1h := (prS1.same seg).same sgh
      have ea13 := arnd_uniq arn3 arn1
      rw [ea13, se] at sn3
      have same13 : out3.map (val2 f) = out1.map (val2 f) := sn3.uniq sn1
      have sdh := sdg.trans sgh
      repeat array_get_dec
      refine w_neP prS3 prS1h ?_
      refine ⟨_, rfl, ?_⟩
      rw [decide_eq_true same13]
      repeat array_get_dec
      refine fun l5 Hi shi nl5 el5 => ?_
      have sdi := sdh.trans shi
      refine w_neP (prS1h.same shi) (PrS.nil el5) ?_
      refine ⟨_, rfl, ?_⟩
      by_cases ne : out1 = []
      · rw [decide_eq_true (by rw [ne])]
        repeat array_get_dec
        exact ⟨⟨_, _, _, _, _, _, _, _, _, rfl⟩, next sdi⟩
      rw [decide_eq_false (show ¬ out1.map (val2 f) = ([] : List (Addr × Addr)).map (val2 f) from fun z => ne (List.map_eq_nil_iff.mp z))]
      repeat array_get_dec
      refine ⟨pr, us, f, rfl, po.same sdi, fun Hj b sij hbj => ?_⟩
      have sdj := sdi.trans sij
      cases b
      rotate_left
      · repeat array_get_dec
        exact ⟨⟨_, _, _, _, _, _, _, _, _, rfl⟩, next sdj⟩
      have nrU : ¬ Row (us.map f) := fun z => Bool.noConfusion (hbj.mpr z)
      have nr : ¬ Row (rs.map f) := fun z => nrU (by rw [eu, hb2.1 z]; exact z)
      repeat array_get_dec
      refine ⟨p, pr, t, ls, ts, rs, us, ks1, out1, f, p0, q0, ar1.map f, rfl, lo.same sdj, by omega, pm, he2, nr, po.same sdj, by rw [eu]; exact hb2.2 nr, sdj _ _ sit2, bd2, (prS1h.same shi).same sij, few1, arn1, sn1, ne, fun Hk sjk => ?_⟩
      repeat array_get_dec
      exact ⟨⟨_, _, _, _, _, _, _, _, _, rfl⟩, next (sdj.trans sjk)⟩
    · obtain ⟨⟨y4, y5, y6, y7, y8, y9, y10, y11, y12, rfl⟩, B⟩ := z
      repeat array_get_dec
      refine q _ (Bc.st.trans B.st) ?_
      exact (B.mono (by omega)).sb
end
/-! ### k07: squares within one another -/
section
variable {P : Program} {w : World} {K : PySem.W.Frag} {mg : Str → Option Value} {base : Heap}
theorem rg_down {b m : Nat} (hb : 0 < b) (hb2 : b ≤ 1000) (hm : 0 < m) (hm2 : m ≤ 1000) : RgC ((b : Int) * m) 0 (0 - (b : Int)) m := by
  have p : 0 < (b : Int) * m := Int.mul_pos (by omega) (by omega)
  have le : (b : Int) * m ≤ 1000000 := by
    have : b * m ≤ 1000 * 1000 := Nat.mul_le_mul hb2 hm2
    have e : ((b * m : Nat) : Int) = (b : Int) * m := Int.natCast_mul b m
    omega
  have sz : Builtin.Range.rangeSize ((b : Int) * m) 0 (0 - (b : Int)) = m := by
    unfold Builtin.Range.rangeSize
    rw [if_neg (by omega), if_pos p, show -(0 - (b : Int)) = b by omega]
    have e : (b : Int) * m - 0 - 1 = (b - 1 : Int) + b * (m - 1) := by
      rw [Int.mul_sub]
      omega
    rw [e, Int.add_mul_ediv_left _ _ (by omega), Int.ediv_eq_zero_of_lt (by omega) (by omega)]
    omega
  refine ⟨by omega, by omega, ?_, sz⟩
  unfold Builtin.Range.small
  rw [sz]
  simp only [Builtin.Range.rangeFitsLong, Bool.and_eq_true, Bool.or_eq_true, decide_eq_true_eq, beq_iff_eq]
  refine ⟨?_, .inr ?_⟩
  · first | omega | (refine ⟨?_, ?_⟩ <;> omega) | skip
  · rw [if_neg (by omega), Bool.and_eq_true, decide_eq_true_eq, decide_eq_true_eq]
    omega
/-- lists of addresses at addresses -/
structure Lsts (H : Hp) (ls : List Addr) (uss : List (List Addr)) : Prop where
  len : ls.length = uss.length
  at_ : ∀ (j : Nat) (l : Addr), ls[j]? = some l → ∃ us, uss[j]? = some us ∧ H l = some (.lst (us.map V.ref))
theorem Lsts.same {H H' : Hp} {ls : List Addr} {uss : List (List Addr)} (h : Lsts H ls uss) (s : Same H H') : Lsts H' ls uss := ⟨h.len, fun j l e => by
  obtain ⟨us, e1, e2⟩ := h.at_ j l e
  exact ⟨us, e1, s _ _ e2⟩⟩
theorem Lsts.stp {H H' : Hp} {s : Addr} {N : Nat} {ls : List Addr} {uss : List (List Addr)} (h : Lsts H ls uss) (hs : SrcB N H s) (st : Stp s H H') : Lsts H' ls uss := ⟨h.len, fun j l e => by
  obtain ⟨us, e1, e2⟩ := h.at_ j l e
  exact ⟨us, e1, st.keep _ _ (refs_ne e2 hs) e2⟩⟩
theorem Lsts.cat {H : Hp} {ls ms : List Addr} {uss vss : List (List Addr)} (h : Lsts H ls uss) (k : Lsts H ms vss) : Lsts H (ls ++ ms) (uss ++ vss) := by
  refine ⟨by rw [List.length_append, List.length_append, h.len, k.len], fun j a e => ?_⟩
  by_cases c : j < ls.length
  · rw [List.getElem?_append_left c] at e
    rw [List.getElem?_append_left (by rw [← h.len]; exact c)]
    exact h.at_ j a e
  · rw [List.getElem?_append_right (by omega)] at e
    rw [List.getElem?_append_right (by rw [← h.len]; omega), ← h.len]
    exact k.at_ _ a e
theorem rel_lists {H : Hp} : ∀ {ys : List V} {P : Nat → List Addr → Prop}, (∀ i y, ys[i]? = some y → ∃ l us, y = .ref l ∧ H l = some (.lst (us.map V.ref)) ∧ P i us) → ∃ (ls : List Addr) (uss : List (List Addr)), ys = ls.map V.ref ∧ Lsts H ls uss ∧ ∀ i us, uss[i]? = some us → P i us
  | [], P, _ => ⟨[], [], rfl, ⟨rfl, fun j l e => by cases e⟩, fun i us e => by cases e⟩
  | y :: ys, P, h => by
    obtain ⟨l, us, rfl, el, p0⟩ := h 0 y rfl
    obtain ⟨ls, uss, rfl, L, pr⟩ := rel_lists (ys := ys) (P := fun i us => P (i + 1) us) fun i y e => h (i + 1) y e
    refine ⟨l :: ls, us :: uss, rfl, ⟨by rw [List.length_cons, List.length_cons, L.len], fun j k e => ?_⟩, fun i vs e => ?_⟩
    · cases j with
      | zero => cases e; exact ⟨us, rfl, el⟩
      | succ j => exact L.at_ j k e
    · cases i with
      | zero => cases e; exact p0
      | succ i => exact pr i vs e
theorem Lsts.ll {f : Addr → Pt} {H : Hp} {ts ls : List Addr} {uss : List (List Addr)} (h : Lsts H ls uss) (sub : ∀ us ∈ uss, ∀ u ∈ us, u ∈ ts) : LL f H ts ls (uss.map fun us => us.map f) := by
  have go : ∀ n, n ≤ ls.length → LL f H ts (ls.take n) ((uss.take n).map fun us => us.map f) := by
    intro n
    induction n with
    | zero => intro _; exact .nil
    | succ n ih =>
      intro le
      have el : ls[n]? = some ls[n] := List.getElem?_eq_getElem (by omega)
      obtain ⟨us, eu, e⟩ := h.at_ n _ el
      rw [List.take_add_one, List.take_add_one, el, eu, List.map_append]
      exact .snoc (ih (by omega)) e (sub us (List.mem_of_getElem? eu))
  have z := go ls.length (Nat.le_refl _)
  rwa [List.take_length, h.len, List.take_length] at z
/-- the side of the i-th square -/
def nk (b m i : Nat) : Int := (b : Int) * m + (i : Nat) * (0 - (b : Int))
theorem nk_is {b m i : Nat} (h : i < m) : nk b m i = ((b * (m - i) : Nat) : Int) := by
  obtain ⟨d, rfl⟩ : ∃ d, m = i + d := ⟨m - i, by omega⟩
  unfold nk
  rw [Nat.add_sub_cancel_left, Int.natCast_mul, Int.natCast_add, Int.mul_add]
  have : (i : Int) * (0 - (b : Int)) = -((b : Int) * i) := by rw [Int.mul_comm, Int.sub_mul]; omega
  omega
theorem nk_bd {b m i : Nat} (hb : 0 < b) (hb2 : b ≤ 900) (hm : m ≤ 49) (h : i < m) : 0 < nk b m i ∧ nk b m i ≤ 44100 := by
  rw [nk_is h]
  have p : 0 < b * (m - i) := Nat.mul_pos hb (by omega)
  have q : b * (m - i) ≤ 900 * 49 := Nat.mul_le_mul hb2 (by omega)
  omega
def nks (b m : Nat) : List Int := (List.range m).map (nk b m)
theorem nks_dn {b m : Nat} (hb : 0 < b) : (nks b m).Pairwise (fun x y => y < x) := by
  unfold nks
  rw [List.pairwise_map]
  refine List.Pairwise.imp_of_mem (R := fun a b : Nat => a < b) (fun {i j} mi mj lt => ?_) List.pairwise_lt_range
  have hi := List.mem_range.mp mi
  have hj := List.mem_range.mp mj
  rw [nk_is hi, nk_is hj]
  have : b * (m - j) < b * (m - i) := Nat.mul_lt_mul_of_pos_left (by omega) hb
  omega
theorem nks_pos {b m : Nat} (hb : 0 < b) : ∀ x ∈ nks b m, 0 < x := fun x h => by
  obtain ⟨i, mi, rfl⟩ := List.mem_map.mp h
  have hi := List.mem_range.mp mi
  rw [nk_is hi]
  have p : 0 < b * (m - i) := Nat.mul_pos hb (by omega)
  omega
theorem flat_nest (ks : List Int) (mid : Bool) : (ks.map sq ++ if mid = true then [[(0, 0)]] else []).flatten = nest ks mid := by
  unfold nest
  rw [List.flatten_append, List.flatMap_def]
  cases mid <;> rfl
theorem Lsts.rev {H : Hp} {ls : List Addr} {uss : List (List Addr)} (h : Lsts H ls uss) : Lsts H ls.reverse uss.reverse := by
  refine ⟨by rw [List.length_reverse, List.length_reverse, h.len], fun j l e => ?_⟩
  have lj := (List.getElem?_eq_some_iff.mp e).1
  rw [List.length_reverse] at lj
  rw [List.getElem?_reverse lj] at e
  rw [List.getElem?_reverse (by rw [← h.len]; exact lj), ← h.len]
  exact h.at_ _ l e
/-- a square's corners at us -/
def SqAt (H : Hp) (k : Int) (us : List Addr) : Prop := ∃ a b c d, us = [a, b, c, d] ∧ Sit H a (0 - k) (0 - k) ∧ Sit H b k (0 - k) ∧ Sit H c k k ∧ Sit H d (0 - k) k
theorem SqAt.mono {H H' : Hp} {k : Int} {us : List Addr} (h : SqAt H k us) (s : ∀ u ∈ us, ∀ o, H u = some o → H' u = some o) : SqAt H' k us := by
  obtain ⟨a, b, c, d, rfl, h1, h2, h3, h4⟩ := h
  exact ⟨a, b, c, d, rfl, s _ (by simp) _ h1, s _ (by simp) _ h2, s _ (by simp) _ h3, s _ (by simp) _ h4⟩
theorem SqAt.stp {H H' : Hp} {s : Addr} {N : Nat} {k : Int} {us : List Addr} (h : SqAt H k us) (hs : SrcB N H s) (st : Stp s H H') : SqAt H' k us := by
  obtain ⟨a, b, c, d, rfl, h1, h2, h3, h4⟩ := h
  exact ⟨a, b, c, d, rfl, st.keep _ _ (sit_src h1 hs) h1, st.keep _ _ (sit_src h2 hs) h2, st.keep _ _ (sit_src h3 hs) h3, st.keep _ _ (sit_src h4 hs) h4⟩
theorem SqAt.map {H : Hp} {k : Int} {us : List Addr} (h : SqAt H k us) : us.map (hv H) = sq k := by
  obtain ⟨a, b, c, d, rfl, h1, h2, h3, h4⟩ := h
  simp only [List.map_cons, List.map_nil, hv_of h1, hv_of h2, hv_of h3, hv_of h4]
  rfl
theorem SqAt.sitF {H : Hp} {k : Int} {us : List Addr} (h : SqAt H k us) (k0 : 0 < k) (k1 : k ≤ 44100) : SitF (hv H) H us := by
  obtain ⟨a, b, c, d, rfl, h1, h2, h3, h4⟩ := h
  intro u m
  rcases List.mem_cons.mp m with rfl | m
  · rw [hv_of h1]; exact ⟨h1, by simp only [Bd]; omega⟩
  rcases List.mem_cons.mp m with rfl | m
  · rw [hv_of h2]; exact ⟨h2, by simp only [Bd]; omega⟩
  rcases List.mem_cons.mp m with rfl | m
  · rw [hv_of h3]; exact ⟨h3, by simp only [Bd]; omega⟩
  rw [List.mem_singleton.mp m]
  rw [hv_of h4]; exact ⟨h4, by simp only [Bd]; omega⟩
theorem SqAt.len {H : Hp} {k : Int} {us : List Addr} (h : SqAt H k us) : us.length = 4 := by
  obtain ⟨a, b, c, d, rfl, _⟩ := h
  rfl
abbrev s__law_nested_right : Stmt := topS 38
abbrev n__law_nested_right : List Str := ["_law_purse_here", "_law_many_so", "_law_by", "_law_due", "_law_sites_so", "_law_ring_here", "_law_spot", "_law_k"]
theorem c__law_nested_right : FnScope n__law_nested_right ["_law_purse_here"] (defScope s__law_nested_right) := ⟨rfl, rfl, rfl, by decide +kernel, rfl, by decide +kernel, by decide +kernel⟩
set_option pp.maxSteps 300 in
theorem ok__law_nested_right  (D : Df K mg "_law_nested_right" s__law_nested_right ["_law_purse_here"]) (C__law_coin : Cl P w K mg base CX0 "_law_coin" 1 ["_law_purse_here", "_law_many"] (p__law_coin)) (C__law_pick : Cl P w K mg base CX0 "_law_pick" 2 ["_law_purse_here", "_law_some"] (p__law_pick)) (C_layers : Cl P w K mg base CX0 "layers" 3 ["sites"] (p_layers)) (C_layer_of : Cl P w K mg base CX0 "layer_of" 4 ["sites", "site"] (p_layer_of)) (mrange : mg "range" = none) : Cl P w K mg base CX0 "_law_nested_right" 5 ["_law_purse_here"] (p_right) := by
  refine D.cl fun f fd F => F.ok c__law_nested_right (fun vs H Q E h => ?_) (fun cdv A outer s H vs Q E hr h => ?_)
  · obtain ⟨s, N, rfl, hs, hN, q⟩ := h
    rfl
  · obtain ⟨s, N, rfl, hs, hN, q⟩ := h
    have nd := c__law_nested_right.nd
    have hu : _ := hu_of hr
    refine ⟨_, (pss_cons (ps_par (i := 1) (j := 2) (by rfl) nd rfl rfl (by decide) rfl rfl (pa_cons (pe_op op_add pe_int (pe_cl C__law_coin (hr.mono (by decide)) (by rfl) pass0 (pa_cons (pv 0) (pa_cons pe_int pa_nil)))) (pa_cons (pe_op op_add pe_int (pe_cl C__law_coin (hr.mono (by decide)) (by rfl) pass0 (pa_cons (pv 0) (pa_cons pe_int pa_nil)))) pa_nil)) (by rfl)) (pss_cons (ps_setLc (i := 3) (own := [("_law_k", 7)]) (g := (gName 7)) (tt := tYes)  rfl nd rfl rfl (sw_true rfl rfl rfl (by decide +kernel)) (pi_range3 (by rfl) mrange (pa_cons (pe_op op_mulW (pv 2) (pv 1)) (pa_cons pe_int (pa_cons (pe_op op_sub pe_int (pv 2)) pa_nil)))) (blkOk_by (own := [("_law_k", 7)]) (N := n__law_nested_right) (sc := defScope s__law_nested_right) (by decide +kernel)) (fun _ _ _ _ _ => by exact (pg_name (i := 7) nd rfl (.inl rfl))) (fun _ _ _ _ _ => by exact pts_nil) (fun _ _ _ _ _ => by exact (pe_lstG (pa_cons (pe_tupG (pa_cons (pe_op op_sub pe_int (pv 7)) (pa_cons (pe_op op_sub pe_int (pv 7)) pa_nil))) (pa_cons (pe_tupG (pa_cons (pv 7) (pa_cons (pe_op op_sub pe_int (pv 7)) pa_nil))) (pa_cons (pe_tupG (pa_cons (pv 7) (pa_cons (pv 7) pa_nil))) (pa_cons (pe_tupG (pa_cons (pe_op op_sub pe_int (pv 7)) (pa_cons (pv 7) pa_nil))) pa_nil))))))) (pss_cons (ps_set (i := 3) nd rfl (.inl rfl) (pe_op op_catG (pv 3) (pe_op op_repG (pe_lstG (pa_cons (pe_lstG (pa_cons (pe_tupG (pa_cons pe_int (pa_cons pe_int pa_nil))) pa_nil)) pa_nil)) (pe_cl C__law_coin (hr.mono (by decide)) (by rfl) pass0 (pa_cons (pv 0) (pa_cons pe_int pa_nil)))))) (pss_cons (ps_set (i := 4) nd rfl (.inl rfl) (pe_lstG pa_nil)) (pss_cons (ps_for PassesOwn.never rfl (pi_list (pe_revL (pv 3))) (pg_name (i := 5) nd rfl (.inl rfl)) (pss_one (ps_set (i := 4) nd rfl (.inl rfl) (pe_op op_catG (pv 4) (pv 5))))) (pss_cons (ps_set (i := 6) nd rfl (.inr rfl) (pe_cl C__law_pick (hr.mono (by decide)) (by rfl) pass0 (pa_cons (pv 0) (pa_cons (pv 4) pa_nil)))) (pss_cons (ps_if (pt_cmpR (op_neD hr.units) (pe_cl C_layers (hr.mono (by decide)) (by rfl) pass0 (pa_cons (pv 4) pa_nil)) (pv 3) (nomark _)) (pss_one (ps_ret pe_bl)) pss_nil) (pss_one (ps_ret (pe_cmpR op_eq (pe_cl C_layer_of (hr.mono (by decide)) (by rfl) pass0 (pa_cons (pv 4) (pa_cons (pv 6) pa_nil))) (pe_bm PySem.F.plainAttrs_list PySem.F.slot_list_index PySem.F.type_list_index mt_index (pe_lc (own := [("_law_ring_here", 5)]) (g := (gName 5)) (tt := tYes)  rfl nd (pi_list (pv 3)) (blkOk_by (own := [("_law_ring_here", 5)]) (N := n__law_nested_right) (sc := defScope s__law_nested_right) (by decide +kernel)) (fun _ _ _ _ _ => by exact (pg_name (i := 5) nd rfl (.inl rfl))) (fun _ _ _ _ _ => by exact pts_nil) (fun _ _ _ _ _ => by exact (pe_cmpR (r := rInD K) (by exact op_inD (u65 hr)) (pv 6) (pv 5) rfl))) (pa_cons pe_bl pa_nil)) (nomark _))))))))))), ?_⟩
    repeat array_get_dec
    refine ⟨s, 49, N, rfl, hs, by omega, by decide, i_small (by decide), fun m0 H1 m0a m0b st1 sb1 => ?_⟩
    have B1 := (SB.refl hs).step st1 sb1
    repeat array_get_dec
    refine ⟨s, 900, N + 1, rfl, B1.sb, by omega, by decide, i_small (by decide), fun b0 H2 b0a b0b st2 sb2 => ?_⟩
    have B2 := B1.step st2 sb2
    obtain ⟨m, em⟩ : ∃ m : Nat, 1 + m0 = m := ⟨(1 + m0).toNat, by omega⟩
    obtain ⟨b, eb⟩ : ∃ b : Nat, 1 + b0 = b := ⟨(1 + b0).toNat, by omega⟩
    have hm : 0 < m := by omega
    have hm2 : m ≤ 49 := by omega
    have hbp : 0 < b := by omega
    have hb2 : b ≤ 900 := by omega
    repeat array_get_dec
    refine ⟨(1 + b0) * (1 + m0), 0, 0 - (1 + b0), m, rfl, by rw [em, eb]; exact rg_down hbp (by omega) hm (by omega), fun D nD => ?_⟩
    refine lc_rel (walk_rangeC (lo := (1 + b0) * (1 + m0)) (c := 0 - (1 + b0)) (n := m)) nD (by omega) (fun _ _ => trivial) (fun i v H => ∃ l us, v = .ref l ∧ l ≠ D ∧ H l = some (.lst (us.map V.ref)) ∧ (∀ u ∈ us, u ≠ D) ∧ SqAt H (nk b m i) us) (fun i y Ha Hb k z => ?_) (fun i x Ha Hb Kp hi sa eD yi fin => ?_) fun H3 ys s3 eD ly rel => ?_
    · obtain ⟨l, us, rfl, nl, el, nu, sq⟩ := z
      exact ⟨l, us, rfl, nl, k _ _ nl el, nu, sq.mono fun u m o e => k _ _ (nu u m) e⟩
    · obtain ⟨rfl, hx⟩ := yi
      obtain ⟨acc, eD⟩ := eD
      have hx : x = .int (nk b m i) := by rw [hx, em, eb]; rfl
      subst hx
      generalize nk b m i = k at fin
      repeat array_get_dec
      refine fun t1 Hc s1 n1 e1 => ?_
      repeat array_get_dec
      refine fun t2 Hd s2 n2 e2 => ?_
      repeat array_get_dec
      refine fun t3 He s3 n3 e3 => ?_
      repeat array_get_dec
      refine fun t4 Hf s4 n4 e4 => ?_
      repeat array_get_dec
      refine fun l5 Hg s5 n5 e5 => ?_
      have eDc := s1 _ _ eD
      have eDd := s2 _ _ eDc
      have eDe := s3 _ _ eDd
      have eDf := s4 _ _ eDe
      refine fin _ _ (s1.trans (s2.trans (s3.trans (s4.trans s5)))) ⟨l5, [t1, t2, t3, t4], rfl, (ne_of_none eDf n5).symm, e5, fun u mu => ?_, t1, t2, t3, t4, rfl, s5 _ _ (s4 _ _ (s3 _ _ (s2 _ _ e1))), s5 _ _ (s4 _ _ (s3 _ _ e2)), s5 _ _ (s4 _ _ e3), s5 _ _ e4⟩
      rcases List.mem_cons.mp mu with rfl | mu
      · exact (ne_of_none eD n1).symm
      rcases List.mem_cons.mp mu with rfl | mu
      · exact (ne_of_none eDc n2).symm
      rcases List.mem_cons.mp mu with rfl | mu
      · exact (ne_of_none eDd n3).symm
      rw [List.mem_singleton.mp mu]
      exact (ne_of_none eDe n4).symm
    obtain ⟨ls, uss, rfl, LS3, sq3⟩ := rel_lists (H := H3) (ys := ys) (P := fun i us => SqAt H3 (nk b m i) us) fun i y e => by
      obtain ⟨l, us, h1, _, h3, _, h5⟩ := rel i y e
      exact ⟨l, us, h1, h3, h5⟩
    have lls : ls.length = m := by rwa [List.length_map] at ly
    have luss : uss.length = m := by rw [← LS3.len, lls]
    clear rel
    have B3 := B2.same s3
    repeat array_get_dec
    refine fun t4 H4 s4 n4 e4 => ?_
    repeat array_get_dec
    refine fun l5 H5 s5 n5 e5 => ?_
    repeat array_get_dec
    refine fun l6 H6 s6 n6 e6 => ?_
    repeat array_get_dec
    have s46 := s4.trans (s5.trans s6)
    have B6 := B3.same s46
    refine ⟨s, 2, N + 1 + 1, rfl, B6.sb, by omega, by decide, i_small (by decide), fun c H7 c0 c1 st7 sb7 => ?_⟩
    have B7 := B6.step st7 sb7
    have eD6 := s46 _ _ eD
    have eD7 := st7.keep _ _ (refs_ne eD6 B6.sb) eD6
    have e67 : H7 l6 = some (.lst [.ref l5]) := st7.keep _ _ (refs_ne (ks := [l5]) e6 B6.sb) e6
    have e5' := s6 _ _ e5
    have e57 : H7 l5 = some (.lst [.ref t4]) := st7.keep _ _ (refs_ne (ks := [t4]) e5' B6.sb) e5'
    have e4' : Sit H6 t4 0 0 := s6 _ _ (s5 _ _ e4)
    have e47 : Sit H7 t4 0 0 := st7.keep _ _ (sit_src e4' B6.sb) e4'
    have LS7 := (LS3.same s46).stp B6.sb st7
    have sq7 : ∀ i us, uss[i]? = some us → SqAt H7 (nk b m i) us := fun i us e => ((sq3 i us e).mono fun u _ o eo => s46 _ _ eo).stp B6.sb st7
    obtain ⟨mid, emid⟩ : ∃ mid : Bool, c.toNat = if mid = true then 1 else 0 := by
      by_cases h : c = 0
      · exact ⟨false, by rw [h]; rfl⟩
      · exact ⟨true, by rw [if_pos rfl]; omega⟩
    refine ⟨l6, c, _, rfl, rfl, e67, by omega, by omega, by rw [emid]; cases mid; exact Nat.zero_le _; show 1 ≤ sizeLine; decide, fun r H8 s8 n8 e8 => ?_⟩
    have e8 : H8 r = some (.lst ((if mid = true then [l5] else []).map V.ref)) := by
      rw [e8, emid]
      cases mid <;> rfl
    have lmid : (if mid = true then [l5] else []).length ≤ 1 := by cases mid; exact Nat.zero_le _; exact Nat.le_refl _
    refine ⟨D, r, _, _, rfl, rfl, s8 _ _ eD7, e8, Nat.le_trans (show _ ≤ 1000 by rw [List.length_map, List.length_map]; omega) (by decide), fun pd H9 s9 n9 e9 => ?_⟩
    rw [← List.map_append] at e9
    have s79 := s8.trans s9
    have B9 := B7.same s79
    have LSm : Lsts H9 (if mid = true then [l5] else []) (if mid = true then [[t4]] else []) := by
      cases mid with
      | false => exact ⟨rfl, fun j l e => by cases e⟩
      | true =>
        refine ⟨rfl, fun j l e => ?_⟩
        cases j with
        | zero => cases e; exact ⟨[t4], rfl, s79 _ _ e57⟩
        | succ j => cases e
    have LS9 := (LS7.same s79).cat LSm
    have e49 : Sit H9 t4 0 0 := s79 _ _ e47
    have sq9 : ∀ i us, uss[i]? = some us → SqAt H9 (nk b m i) us := fun i us e => (sq7 i us e).mono fun u _ o eo => s79 _ _ eo
    -- the values, by what stands there
    have valU : uss.map (fun us => us.map (hv H9)) = (nks b m).map sq := by
      apply List.ext_getElem?
      intro j
      unfold nks
      rw [List.getElem?_map, List.getElem?_map, List.getElem?_map]
      by_cases h : j < m
      · have ej : uss[j]? = some uss[j] := List.getElem?_eq_getElem (by omega)
        rw [ej, List.getElem?_range h, Option.map_some, Option.map_some, Option.map_some, (sq9 j _ ej).map]
      · rw [List.getElem?_eq_none (by omega), List.getElem?_eq_none (by rw [List.length_range]; omega)]
        rfl
    have val : (uss ++ if mid = true then [[t4]] else []).map (fun us => us.map (hv H9)) = (nks b m).map sq ++ if mid = true then [[(0, 0)]] else [] := by
      rw [List.map_append, valU]
      congr 1
      cases mid with
      | false => rfl
      | true => show [[hv H9 t4]] = _; rw [hv_of e49]; rfl
    have sitA : ∀ us ∈ uss ++ (if mid = true then [[t4]] else []), SitF (hv H9) H9 us ∧ us.length ≤ 4 ∧ 0 < us.length := fun us mu => by
      rcases List.mem_append.mp mu with mu | mu
      · obtain ⟨j, hj, rfl⟩ := List.getElem_of_mem mu
        have z := sq9 j _ (List.getElem?_eq_getElem hj)
        have bd := nk_bd hbp hb2 hm2 (show j < m by omega)
        exact ⟨z.sitF bd.1 bd.2, by rw [z.len]; decide, by rw [z.len]; decide⟩
      · cases mid with
        | false => cases mu
        | true =>
          have mu : us ∈ [[t4]] := mu
          rw [List.mem_singleton.mp mu]
          refine ⟨fun u m => ?_, by show 1 ≤ 4; decide, by show 0 < 1; decide⟩
          rw [List.mem_singleton.mp m, hv_of e49]
          exact ⟨e49, by decide, by decide, by decide, by decide⟩
    have lA : (uss ++ (if mid = true then [[t4]] else [])).length ≤ m + 1 ∧ 0 < (uss ++ (if mid = true then [[t4]] else [])).length := by
      rw [List.length_append, luss]
      cases mid <;> simp <;> omega
    generalize hv H9 = f at val sitA
    generalize uss ++ (if mid = true then [[t4]] else []) = UA at LS9 val sitA lA
    generalize ls ++ (if mid = true then [l5] else []) = LA at e9 LS9
    repeat array_get_dec
    refine fun pz Ha sa nz ez => ?_
    repeat array_get_dec
    have e9a := sa _ _ e9
    refine ⟨pd, _, rfl, SqL.of e9a, fun pv nv => ?_⟩
    have sv : Same Ha (upd Ha pv (.lst (LA.map V.ref).reverse)) := Same.upd nv
    have ev : upd Ha pv (.lst (LA.map V.ref).reverse) pv = some (.lst (LA.reverse.map V.ref)) := by rw [upd_same, List.map_reverse]
    generalize upd Ha pv (.lst (LA.map V.ref).reverse) = Hv at sv ev ⊢
    have s9v := sa.trans sv
    have LR := (LS9.same s9v).rev
    have ezv := sv _ _ ez
    refine ⟨pv, rfl, ⟨_, SqL.of ev⟩, for_list (K := K) (a := pv) (xs := LA.reverse.map V.ref) (fun i σ' H' => (∃ pz' y5 y6 y7, σ' = [some (.ref s), some (.int (1 + m0)), some (.int (1 + b0)), some (.ref pd), some (.ref pz'), y5, y6, y7] ∧ H' pz' = some (.lst (((UA.reverse.take i).flatten).map V.ref))) ∧ Same Hv H' ∧ ((UA.reverse.take i).flatten).length ≤ 4 * i) ⟨⟨pz, _, _, _, rfl, ezv⟩, Same.refl _, Nat.le_refl _⟩ (fun i σ' H' _ z => SqL.of (z.2.1 _ _ ev)) (fun i x σ' H' hx z => ?_) fun σ' Hc z => ?_⟩
    · obtain ⟨⟨pz', y5, y6, y7, rfl, ep⟩, sH, lf⟩ := z
      obtain ⟨l, el, rfl, ml⟩ := ref_at hx
      obtain ⟨us, eu, eul⟩ := LR.at_ i l el
      have hi := (List.getElem?_eq_some_iff.mp eu).1
      rw [List.length_reverse] at hi
      have l4 := (sitA us (List.mem_reverse.mp (List.mem_of_getElem? eu))).2.1
      have tk : (UA.reverse.take (i + 1)).flatten = (UA.reverse.take i).flatten ++ us := by
        rw [List.take_add_one, eu, List.flatten_append]
        simp
      repeat array_get_dec
      refine ⟨pz', l, _, _, rfl, rfl, ep, sH _ _ eul, Nat.le_trans (show _ ≤ 1000 by rw [List.length_map, List.length_map]; omega) (by decide), fun pn Hn sn nn en => ?_⟩
      refine ⟨⟨pn, _, _, _, rfl, by rw [en, tk, List.map_append]⟩, sH.trans sn, by rw [tk, List.length_append]; omega⟩
    obtain ⟨⟨pp, y5, y6, y7, rfl, ep⟩, sC, _⟩ := z
    have s9c := s9v.trans sC
    have lLA : (LA.reverse.map V.ref).length = UA.reverse.length := by rw [List.length_map, LR.len]
    rw [lLA, List.take_length] at ep
    have LS := LS9.same s9c
    have B := B9.same s9c
    have epd := s9c _ _ e9
    have sit0 : ∀ us ∈ UA, SitF f Hc us := fun us m => (sitA us m).1.same s9c
    have memF : ∀ u, u ∈ UA.reverse.flatten ↔ ∃ us ∈ UA, u ∈ us := fun u => by
      rw [List.mem_flatten]
      constructor
      · rintro ⟨l, ml, mu⟩; exact ⟨l, List.mem_reverse.mp ml, mu⟩
      · rintro ⟨l, ml, mu⟩; exact ⟨l, List.mem_reverse.mpr ml, mu⟩
    have mapF : UA.reverse.flatten.map f = ((UA.map fun us => us.map f).reverse).flatten := by
      rw [List.map_flatten, List.map_reverse]
    have pmF : (UA.reverse.flatten.map f).Perm (nest (nks b m) mid) := by
      rw [mapF, ← flat_nest, ← val]
      exact (List.reverse_perm _).flatten
    have dn := nks_dn (m := m) hbp
    have ps := nks_pos (m := m) hbp
    have lays := (lays_nest mid (nks b m) dn ps).perm pmF.symm
    have lenF : UA.reverse.flatten.length ≤ 4 * UA.length ∧ 0 < UA.reverse.flatten.length := by
      have go : ∀ (L : List (List Addr)), (∀ us ∈ L, us.length ≤ 4) → L.flatten.length ≤ 4 * L.length := by
        intro L
        induction L with
        | nil => intro _; exact Nat.le_refl _
        | cons a L ih =>
          intro h
          have h1 := h a List.mem_cons_self
          have h2 := ih fun us mu => h us (List.mem_cons_of_mem _ mu)
          rw [List.flatten_cons, List.length_append, List.length_cons]
          omega
      refine ⟨by have z := go UA.reverse fun us mu => (sitA us (List.mem_reverse.mp mu)).2.1; rwa [List.length_reverse] at z, ?_⟩
      obtain ⟨us, mu⟩ := List.exists_mem_of_length_pos lA.2
      have p := (sitA us mu).2.2
      obtain ⟨u, hu⟩ := List.exists_mem_of_length_pos p
      exact List.length_pos_of_mem ((memF u).mpr ⟨us, mu, hu⟩)
    have lot : Lot f Hc pp UA.reverse.flatten := ⟨ep, lenF.2, by
      have z : UA.reverse.flatten.length = (nest (nks b m) mid).length := by
        rw [← pmF.length_eq, List.length_map]
      have w : (nest (nks b m) mid).length ≤ 4 * m + 1 := by
        have go : ∀ ks : List Int, (ks.flatMap sq).length = 4 * ks.length := by
          intro ks
          induction ks with
          | nil => rfl
          | cons a L ih =>
            rw [List.flatMap_cons, List.length_append, List.length_cons, ih]
            show 4 + _ = _
            omega
        unfold nest
        rw [List.length_append, go, nks, List.length_map, List.length_range]
        cases mid
        · exact Nat.le_succ _
        · exact Nat.le_refl _
      omega, fun u mu => by
        obtain ⟨us, ms, hu⟩ := (memF u).mp mu
        exact sit0 us ms u hu, pmF.nodup_iff.mpr (nest_nodup mid (nks b m) dn ps)⟩
    have subF : ∀ us ∈ UA, ∀ u ∈ us, u ∈ UA.reverse.flatten := fun us ms u hu => (memF u).mpr ⟨us, ms, hu⟩
    generalize UA.reverse.flatten = ts at lot lays subF ep
    have few := lot.few
    have ltr : (ts.map V.ref).length = ts.length := List.length_map _
    repeat array_get_dec
    refine ⟨s, pp, ts.map V.ref, _, rfl, B.sb, by omega, ep, refs_ne ep B.sb, by have := lot.pos; omega, by omega, fun xt Hd mt std sbd => ?_⟩
    obtain ⟨t, mtt, rfl⟩ := List.mem_map.mp mt
    have Bd' := B.step std sbd
    have lotd := lot.stp B.sb std
    have LSd := LS.stp B.sb std
    have epdd := std.keep _ _ (refs_ne epd B.sb) epd
    have LLd := LSd.ll (f := f) subF
    rw [val] at LLd
    generalize hO : (nks b m).map sq ++ (if mid = true then [[(0, 0)]] else []) = outs at LLd lays
    repeat array_get_dec
    refine ⟨pp, ts, f, outs, rfl, lotd, lays, fun qa la He se na ea La _ => ?_⟩
    have lote := lotd.same se
    have LLe := LLd.keep fun l m o e => se _ _ e
    repeat array_get_dec
    refine w_neLL ea La (fun t m => (lote.sit t m).1) (se _ _ epdd) LLe (fun t m => (lote.sit t m).1) ?_
    refine ⟨_, rfl, ?_⟩
    rw [decide_eq_true rfl]
    obtain ⟨j, ej, before⟩ := lay_place lays (List.mem_map_of_mem (f := f) mtt)
    repeat array_get_dec
    refine ⟨pp, t, (f t).1, (f t).2, ts, f, outs, j, rfl, lote, lays, (lote.sit t mtt).1, (lote.sit t mtt).2, List.mem_map_of_mem mtt, ej, before, fun Hf sf => ?_⟩
    have lotf := lote.same sf
    have LLf := LLe.keep fun l m o e => sf _ _ e
    have edf := (se.trans sf) _ _ epdd
    repeat array_get_dec
    refine ⟨⟨_, SqL.of edf⟩, fun D2 nD2 => ?_⟩
    have fewd : LA.length ≤ 200 := by
      have z := lays.len
      rw [List.length_map] at z
      rw [LLf.len]
      omega
    have ldl : (LA.map V.ref).length = LA.length := List.length_map _
    refine lc_val (walk_list (xs := LA.map V.ref)) nD2 (by omega) (fun H6 s6 => SqL.of (s6 _ _ edf)) (outs.map fun o => V.bl (decide (f t ∈ o))) (by rw [List.length_map, ldl, LLf.len]) (fun i yv v H6 H7 Kp' hy s6 eD2 yi fin' => ?_) fun Hg sg eD2 => ?_
    · obtain ⟨rfl, hx⟩ := yi
      obtain ⟨l, el, rfl, ml⟩ := ref_at hx
      obtain ⟨vs, ev, eov, subv⟩ := LLf.get i l el
      rw [List.getElem?_map, eov] at hy
      cases hy
      have hl6 := lotf.same s6
      repeat array_get_dec
      refine w_inS (p := f t) (f := f) (hl6.sit t mtt).1 (s6 _ _ ev) (fun u m => (hl6.sit u (subv u m)).1) ?_
      exact fin' _ (Same.refl _)
    · repeat array_get_dec
      refine ⟨.inl ⟨rfl, _, SqL.of eD2⟩, ?_⟩
      repeat array_get_dec
      have em2 : (outs.map fun o => V.bl (decide (f t ∈ o))) = (outs.map fun o => decide (f t ∈ o)).map V.bl := by rw [List.map_map]; rfl
      rw [em2] at eD2
      refine ⟨D2, _, .bl true, j, .bl true, rfl, rfl, SqL.of eD2, rfl, bl_flat _, by rw [List.getElem?_map, ej]; rfl, rfl, fun m z lt ez => ?_, ?_⟩
      · rw [List.getElem?_map, before m lt] at ez
        cases ez
        rfl
      have Bz := Bd'.same ((se.trans sf).trans sg)
      repeat array_get_dec
      have z := q _ Bz.st (Bz.mono (by omega)).sb
      have e : decide (V.int ((j : Nat) : Int) = V.int ((j : Nat) : Int)) = true := decide_eq_true rfl
      show Q (.bl (decide (V.int ((j : Nat) : Int) = V.int ((j : Nat) : Int)))) Hg
      rw [e]
      exact z
end
/-! ### k07: the law -/
section
variable {P : Program} {w : World} {K : PySem.W.Frag} {mg : Str → Option Value} {base : Heap}
abbrev s_law : Stmt := topS 39
abbrev n_law : List Str := ["_law_script", "_law_figure", "_law_purse_here", "_law_turn_so"]
theorem c_law : FnScope n_law ["_law_script"] (defScope s_law) := ⟨rfl, rfl, rfl, by decide +kernel, rfl, by decide +kernel, by decide +kernel⟩
def p_law (K : PySem.W.Frag) : Sp := fun vs H Q _ => ∃ (a : Addr) (ns : List Int), vs = [.ref a] ∧ SqL K H a (ns.map V.int) ∧ ns.length ≤ 63 ∧ ∀ H', Q (.bl true) H'
theorem cut_ints {ns : List Int} {lo hi : Option Int} {x : V} (h : x ∈ cutV (ns.map V.int) lo hi) : ∃ n : Int, x = .int n := by
  have m := List.mem_of_mem_drop (List.mem_of_mem_take h)
  obtain ⟨n, _, e⟩ := List.mem_map.mp m
  exact ⟨n, e.symm⟩
/-- the three sites at the end -/
theorem last_rows : Ends2 [((0, 0) : Pt), (0, 4), (4, 0)] (0, 0) (4, 0) := ⟨by simp [lt2], rfl, rfl⟩
theorem last_nr : ¬ Row [((0, 0) : Pt), (0, 4), (4, 0)] := fun r => absurd (r (0, 0) (by decide) (0, 4) (by decide) (4, 0) (by decide)) (by decide)
theorem last_ring : bordN (0, 0) (4, 0) [((0, 0) : Pt), (0, 4), (4, 0)] ++ [(0, 0)] = [(0, 0), (4, 0), (0, 4), (0, 0)] := by decide +kernel
theorem last_seen {a : List Pt} {out : List (Pt × Pt)} (h : Arnd (0, 0) (4, 0) [((0, 0) : Pt), (0, 4), (4, 0)] a) (k : SeenL (sds a) (mks (3, 3) a) out) : out = [((4, 0), (0, 4))] := by
  have e := (h.2 last_nr).trans last_ring
  subst e
  refine k.uniq (.inr ⟨1, by decide, ⟨by decide, by decide⟩, fun j lj r => ?_, by decide +kernel⟩)
  have : j = 0 := by omega
  subst this
  exact absurd r.1 (by decide)
theorem w_eqP2 {H : Hp} {Q : VK} {a b : Addr} {f g : Addr → Pt} {ks ls : List Addr} {es fs : List (Addr × Addr)} (h : PrS f H a ks es) (h2 : PrS g H b ls fs) (z : Q (.bl (decide (es.map (val2 f) = fs.map (val2 g)))) H) : rEqD K (.ref a) (.ref b) H Q := ⟨_, _, h.dp, h2.dp, dP_shaped _, dP_shaped _, by rw [dP_eqvL]; exact z⟩
set_option pp.maxSteps 300 in
theorem ok_law  {f : Addr} {fd : FuncData} (F : Fun K "law" "law" s_law f fd) (C__law_purse : Cl P w K mg base CX0 "_law_purse" 1 ["_law_figure"] (p__law_purse)) (C_seen_sides : Cl P w K mg base CX0 "seen_sides" 3 ["sites", "site"] (p_seen_sides)) (C__law_right : Cl P w K mg base CX0 "_law_right" 5 ["_law_purse_here"] (p_right)) (C__law_nested_right : Cl P w K mg base CX0 "_law_nested_right" 5 ["_law_purse_here"] (p_right)) (mrange : mg "range" = none) : FnOk P w K mg base CX0 8 f fd ["_law_script"] (p_law K) := by
  refine F.ok c_law (fun vs H Q E h => ?_) (fun cdv A outer s H vs Q E hr h => ?_)
  · obtain ⟨a, ns, rfl, hS, hlen, q⟩ := h
    rfl
  · obtain ⟨a, ns, rfl, hS, hlen, q⟩ := h
    have nd := c_law.nd
    have hu : _ := hu_of hr
    refine ⟨_, (pss_cons (ps_for PassesOwn.never rfl (pi_list (pe_op op_catG (pe_slice sl_listG (pv 0) po_none (po_some pe_int)) (pe_lstG (pa_cons pe_int pa_nil)))) (pg_name (i := 1) nd rfl (.inl rfl)) (pss_cons (ps_set (i := 2) nd rfl (.inl rfl) (pe_cl C__law_purse (hr.mono (by decide)) (by rfl) pass0 (pa_cons (pv 1) pa_nil))) (pss_cons (ps_for PassesOwn.never rfl (pi_range1 (by rfl) mrange (pa_cons pe_int pa_nil)) (pg_name (i := 3) nd rfl (.inl rfl)) (pss_one (ps_if (pt_not (pt_val (pe_cl C__law_right (hr.mono (by decide)) (by rfl) pass0 (pa_cons (pv 2) pa_nil)))) (pss_one (ps_ret pe_bl)) pss_nil))) (pss_one (ps_if (pt_not (pt_val (pe_cl C__law_nested_right (hr.mono (by decide)) (by rfl) pass0 (pa_cons (pv 2) pa_nil)))) (pss_one (ps_ret pe_bl)) pss_nil))))) (pss_one (ps_ret (pe_cmpR (op_eqD hr.units) (pe_cl C_seen_sides (hr.mono (by decide)) (by rfl) pass0 (pa_cons (pe_lstG (pa_cons (pe_tupG (pa_cons pe_int (pa_cons pe_int pa_nil))) (pa_cons (pe_tupG (pa_cons pe_int (pa_cons pe_int pa_nil))) (pa_cons (pe_tupG (pa_cons pe_int (pa_cons pe_int pa_nil))) pa_nil)))) (pa_cons (pe_tupG (pa_cons pe_int (pa_cons pe_int pa_nil))) pa_nil))) (pe_lstG (pa_cons (pe_tupG (pa_cons (pe_tupG (pa_cons pe_int (pa_cons pe_int pa_nil))) (pa_cons (pe_tupG (pa_cons pe_int (pa_cons pe_int pa_nil))) pa_nil))) pa_nil)) (nomark _))))), ?_⟩
    refine ⟨_, rfl, _, rfl, a, ns.map V.int, rfl, hS, fun p1 H1 s1 f1 e1 => ?_⟩
    repeat array_get_dec
    refine fun p2 H2 s2 f2 e2 => ?_
    have lc : (cutV (ns.map V.int) none (some 5)).length ≤ ns.length := by
      have z := cutV_length (ns.map V.int) none (some 5)
      rwa [List.length_map] at z
    refine ⟨p1, p2, _, _, rfl, rfl, s2 _ _ e1, e2, Nat.le_trans (Nat.add_le_add_right (Nat.le_trans lc hlen) _) (by decide), fun p3 H3 s3 f3 e3 => ?_⟩
    repeat array_get_dec
    refine ⟨⟨_, SqL.of e3⟩, for_list (K := K) (a := p3) (xs := cutV (ns.map V.int) none (some 5) ++ [.int 0]) (fun _ σ' H' => (∃ y1 y2 y3, σ' = [some (.ref a), y1, y2, y3]) ∧ H' p3 = some (.lst (cutV (ns.map V.int) none (some 5) ++ [.int 0]))) ⟨⟨_, _, _, rfl⟩, e3⟩ (fun _ σ' H' _ z => SqL.of z.2) (fun i x σ' H' hx z => ?_) fun σ' H' z => ?_⟩
    · obtain ⟨⟨y1, y2, y3, rfl⟩, e3'⟩ := z
      obtain ⟨n, rfl⟩ : ∃ n : Int, x = .int n := by
        rcases List.mem_append.mp (List.mem_of_getElem? hx) with m | m
        · exact cut_ints m
        · exact ⟨0, List.mem_singleton.mp m⟩
      repeat array_get_dec
      refine fun s H4 s4 f4 b4 => ?_
      have e4 := s4 _ _ e3'
      have ne : p3 ≠ s := ne_of_none e3' f4
      repeat array_get_dec
      refine ⟨by decide, by decide, for_range (lo := 0) (n := 3) (fun i σ' H' => (∃ y3, σ' = [some (.ref a), some (.int n), some (.ref s), y3]) ∧ SB s (3 + 1000 * i) H4 H') ⟨⟨_, rfl⟩, SB.refl b4⟩ (fun i σ' H' hi z => ?_) fun σ' H' z => ?_⟩
      · obtain ⟨⟨y3, rfl⟩, B⟩ := z
        repeat array_get_dec
        refine ⟨s, 3 + 1000 * i, rfl, B.sb, by omega, fun H5 st5 sb5 => ?_⟩
        repeat array_get_dec
        exact ⟨⟨_, rfl⟩, (B.step st5 sb5).mono (by omega)⟩
      · obtain ⟨⟨y3, rfl⟩, B⟩ := z
        repeat array_get_dec
        refine ⟨s, 3 + 1000 * 3, rfl, B.sb, by decide, fun H5 st5 sb5 => ?_⟩
        repeat array_get_dec
        exact ⟨⟨_, _, _, rfl⟩, (B.step st5 sb5).st.keep _ _ ne e4⟩
    · obtain ⟨⟨y1, y2, y3, rfl⟩, e3'⟩ := z
      repeat array_get_dec
      refine fun t1 K1 c1 n1 g1 => ?_
      repeat array_get_dec
      refine fun t2 K2 c2 n2 g2 => ?_
      repeat array_get_dec
      refine fun t3 K3 c3 n3 g3 => ?_
      repeat array_get_dec
      refine fun l4 K4 c4 n4 g4 => ?_
      repeat array_get_dec
      refine fun t5 K5 c5 n5 g5 => ?_
      have k1 : Sit K5 t1 0 0 := c5 _ _ (c4 _ _ (c3 _ _ (c2 _ _ g1)))
      have k2 : Sit K5 t2 4 0 := c5 _ _ (c4 _ _ (c3 _ _ g2))
      have k3 : Sit K5 t3 0 4 := c5 _ _ (c4 _ _ g3)
      have kl := c5 _ _ g4
      obtain ⟨f, hf⟩ : ∃ f, f = hv K5 := ⟨_, rfl⟩
      have v1 : f t1 = (0, 0) := by rw [hf, hv_of k1]
      have v2 : f t2 = (4, 0) := by rw [hf, hv_of k2]
      have v3 : f t3 = (0, 4) := by rw [hf, hv_of k3]
      have er : [t1, t3, t2].map f = [((0, 0) : Pt), (0, 4), (4, 0)] := by simp [v1, v2, v3]
      have lot : Lot f K5 l4 [t1, t2, t3] := ⟨kl, by show 0 < 3; decide, by show 3 < 201; decide, fun t m => by
        rcases List.mem_cons.mp m with rfl | m
        · rw [v1]; exact ⟨k1, by decide, by decide, by decide, by decide⟩
        rcases List.mem_cons.mp m with rfl | m
        · rw [v2]; exact ⟨k2, by decide, by decide, by decide, by decide⟩
        rw [List.mem_singleton.mp m, v3]
        exact ⟨k3, by decide, by decide, by decide, by decide⟩, by simp [v1, v2, v3]⟩
      repeat array_get_dec
      refine ⟨l4, t5, 3, 3, [t1, t2, t3], [t1, t3, t2], f, (0, 0), (4, 0), rfl, lot, .cons _ (.swap _ _ _), by rw [er]; exact last_rows, g5, ⟨by decide, by decide, by decide, by decide⟩, fun l6 ks out ar K6 c6 n6 g6 prs mem arn sn few => ?_⟩
      rw [er] at arn
      have val := last_seen arn sn
      have lot6 := lot.same c6
      have pS : PrS f K6 l6 ks out := ⟨g6, prs, fun e m => ⟨(lot6.sit _ (mem e m).1).1, (lot6.sit _ (mem e m).2).1⟩⟩
      repeat array_get_dec
      refine fun u1 K7 c7 n7 g7 => ?_
      repeat array_get_dec
      refine fun u2 K8 c8 n8 g8 => ?_
      repeat array_get_dec
      refine fun u3 K9 c9 n9 g9 => ?_
      repeat array_get_dec
      refine fun u4 Ka ca na ga => ?_
      have w1 : Sit Ka u1 4 0 := ca _ _ (c9 _ _ (c8 _ _ g7))
      have w2 : Sit Ka u2 0 4 := ca _ _ (c9 _ _ g8)
      have w3 : Ka u3 = some (.tup [.ref u1, .ref u2]) := ca _ _ g9
      have pT : PrS (hv Ka) Ka u4 [u3] [(u1, u2)] := by
        refine ⟨ga, ⟨fun k m => ?_, ?_⟩, fun e m => ?_⟩
        · rw [List.mem_singleton.mp m, pv2_of w3]; exact w3
        · show [pv2 Ka u3] = _; rw [pv2_of w3]
        · rw [List.mem_singleton.mp m, hv_of w1, hv_of w2]; exact ⟨w1, w2⟩
      refine w_eqP2 (pS.same (c7.trans (c8.trans (c9.trans ca)))) pT ?_
      have e1 : out.map (val2 f) = [((4, 0), (0, 4))] := val
      have e2 : ([(u1, u2)] : List (Addr × Addr)).map (val2 (hv Ka)) = [((4, 0), (0, 4))] := by
        show [(hv Ka u1, hv Ka u2)] = _
        rw [hv_of w1, hv_of w2]
      rw [e1, e2, decide_eq_true rfl]
      exact q _
end
/-! ### what the top has written; the law's own head -/
theorem all_mk {l : PySem.W.OpenLaw} {w : World} {K : PySem.W.Frag} {h : Heap} {mg : Str → Option Value} {fa f_is_site f_check_site f_are_sites f_ascending f_check_member f_chains_of f_border_of f_sides_of f_border f_layers f_layer_of f_seen_sides f__law_purse f__law_coin f__law_pick f__law_ring f__law_places f__law_sites f__law_lean f__law_flat f__law_border f__law_layers f__law_ring_sides f__law_seen f__law_fits f__law_wider_right f__law_right f__law_nested_right fL : Addr} (X : K.In h) (G : h.Ns mainGlobals mg) (hfa : mg "law" = some (.ref fa))
    {od_is_site an_is_site : Option Addr} {sl_is_site : Array (Option Value)} {oc_is_site kV_is_site dc_is_site pm_is_site cd_is_site ct_is_site : Value}
    {od_check_site an_check_site : Option Addr} {sl_check_site : Array (Option Value)} {oc_check_site kV_check_site dc_check_site pm_check_site cd_check_site ct_check_site : Value}
    {od_are_sites an_are_sites : Option Addr} {sl_are_sites : Array (Option Value)} {oc_are_sites kV_are_sites dc_are_sites pm_are_sites cd_are_sites ct_are_sites : Value}
    {od_ascending an_ascending : Option Addr} {sl_ascending : Array (Option Value)} {oc_ascending kV_ascending dc_ascending pm_ascending cd_ascending ct_ascending : Value}
    {od_check_member an_check_member : Option Addr} {sl_check_member : Array (Option Value)} {oc_check_member kV_check_member dc_check_member pm_check_member cd_check_member ct_check_member : Value}
    {od_chains_of an_chains_of : Option Addr} {sl_chains_of : Array (Option Value)} {oc_chains_of kV_chains_of dc_chains_of pm_chains_of cd_chains_of ct_chains_of : Value}
    {od_border_of an_border_of : Option Addr} {sl_border_of : Array (Option Value)} {oc_border_of kV_border_of dc_border_of pm_border_of cd_border_of ct_border_of : Value}
    {od_sides_of an_sides_of : Option Addr} {sl_sides_of : Array (Option Value)} {oc_sides_of kV_sides_of dc_sides_of pm_sides_of cd_sides_of ct_sides_of : Value}
    {od_border an_border : Option Addr} {sl_border : Array (Option Value)} {oc_border kV_border dc_border pm_border cd_border ct_border : Value}
    {od_layers an_layers : Option Addr} {sl_layers : Array (Option Value)} {oc_layers kV_layers dc_layers pm_layers cd_layers ct_layers : Value}
    {od_layer_of an_layer_of : Option Addr} {sl_layer_of : Array (Option Value)} {oc_layer_of kV_layer_of dc_layer_of pm_layer_of cd_layer_of ct_layer_of : Value}
    {od_seen_sides an_seen_sides : Option Addr} {sl_seen_sides : Array (Option Value)} {oc_seen_sides kV_seen_sides dc_seen_sides pm_seen_sides cd_seen_sides ct_seen_sides : Value}
    {od__law_purse an__law_purse : Option Addr} {sl__law_purse : Array (Option Value)} {oc__law_purse kV__law_purse dc__law_purse pm__law_purse cd__law_purse ct__law_purse : Value}
    {od__law_coin an__law_coin : Option Addr} {sl__law_coin : Array (Option Value)} {oc__law_coin kV__law_coin dc__law_coin pm__law_coin cd__law_coin ct__law_coin : Value}
    {od__law_pick an__law_pick : Option Addr} {sl__law_pick : Array (Option Value)} {oc__law_pick kV__law_pick dc__law_pick pm__law_pick cd__law_pick ct__law_pick : Value}
    {od__law_ring an__law_ring : Option Addr} {sl__law_ring : Array (Option Value)} {oc__law_ring kV__law_ring dc__law_ring pm__law_ring cd__law_ring ct__law_ring : Value}
    {od__law_places an__law_places : Option Addr} {sl__law_places : Array (Option Value)} {oc__law_places kV__law_places dc__law_places pm__law_places cd__law_places ct__law_places : Value}
    {od__law_sites an__law_sites : Option Addr} {sl__law_sites : Array (Option Value)} {oc__law_sites kV__law_sites dc__law_sites pm__law_sites cd__law_sites ct__law_sites : Value}
    {od__law_lean an__law_lean : Option Addr} {sl__law_lean : Array (Option Value)} {oc__law_lean kV__law_lean dc__law_lean pm__law_lean cd__law_lean ct__law_lean : Value}
    {od__law_flat an__law_flat : Option Addr} {sl__law_flat : Array (Option Value)} {oc__law_flat kV__law_flat dc__law_flat pm__law_flat cd__law_flat ct__law_flat : Value}
    {od__law_border an__law_border : Option Addr} {sl__law_border : Array (Option Value)} {oc__law_border kV__law_border dc__law_border pm__law_border cd__law_border ct__law_border : Value}
    {od__law_layers an__law_layers : Option Addr} {sl__law_layers : Array (Option Value)} {oc__law_layers kV__law_layers dc__law_layers pm__law_layers cd__law_layers ct__law_layers : Value}
    {od__law_ring_sides an__law_ring_sides : Option Addr} {sl__law_ring_sides : Array (Option Value)} {oc__law_ring_sides kV__law_ring_sides dc__law_ring_sides pm__law_ring_sides cd__law_ring_sides ct__law_ring_sides : Value}
    {od__law_seen an__law_seen : Option Addr} {sl__law_seen : Array (Option Value)} {oc__law_seen kV__law_seen dc__law_seen pm__law_seen cd__law_seen ct__law_seen : Value}
    {od__law_fits an__law_fits : Option Addr} {sl__law_fits : Array (Option Value)} {oc__law_fits kV__law_fits dc__law_fits pm__law_fits cd__law_fits ct__law_fits : Value}
    {od__law_wider_right an__law_wider_right : Option Addr} {sl__law_wider_right : Array (Option Value)} {oc__law_wider_right kV__law_wider_right dc__law_wider_right pm__law_wider_right cd__law_wider_right ct__law_wider_right : Value}
    {od__law_right an__law_right : Option Addr} {sl__law_right : Array (Option Value)} {oc__law_right kV__law_right dc__law_right pm__law_right cd__law_right ct__law_right : Value}
    {od__law_nested_right an__law_nested_right : Option Addr} {sl__law_nested_right : Array (Option Value)} {oc__law_nested_right kV__law_nested_right dc__law_nested_right pm__law_nested_right cd__law_nested_right ct__law_nested_right : Value}
    {odL anL : Option Addr} {slL : Array (Option Value)} {ocL kVL dcL pmL cdL ctL : Value}
    {tMOST_SITES : Tok}
    (a_is_site : PySem.W.nsIn K mainGlobals "is_site" = some (some (.ref f_is_site))) (l_is_site : K.lookup f_is_site = some ⟨oc_is_site, od_is_site, .func (PySem.W.fnOf "is_site" "is_site" (defArgs s_is_site) (defBody s_is_site) (defScope s_is_site) .none kV_is_site dc_is_site pm_is_site an_is_site cd_is_site ct_is_site), sl_is_site⟩) (c_is_site : PySem.W.codeIn K cd_is_site "is_site" = true) (k_is_site : PySem.W.keepIn K (.ref f_is_site) = true)
    (a_check_site : PySem.W.nsIn K mainGlobals "check_site" = some (some (.ref f_check_site))) (l_check_site : K.lookup f_check_site = some ⟨oc_check_site, od_check_site, .func (PySem.W.fnOf "check_site" "check_site" (defArgs s_check_site) (defBody s_check_site) (defScope s_check_site) .none kV_check_site dc_check_site pm_check_site an_check_site cd_check_site ct_check_site), sl_check_site⟩) (c_check_site : PySem.W.codeIn K cd_check_site "check_site" = true) (k_check_site : PySem.W.keepIn K (.ref f_check_site) = true)
    (a_are_sites : PySem.W.nsIn K mainGlobals "are_sites" = some (some (.ref f_are_sites))) (l_are_sites : K.lookup f_are_sites = some ⟨oc_are_sites, od_are_sites, .func (PySem.W.fnOf "are_sites" "are_sites" (defArgs s_are_sites) (defBody s_are_sites) (defScope s_are_sites) .none kV_are_sites dc_are_sites pm_are_sites an_are_sites cd_are_sites ct_are_sites), sl_are_sites⟩) (c_are_sites : PySem.W.codeIn K cd_are_sites "are_sites" = true) (k_are_sites : PySem.W.keepIn K (.ref f_are_sites) = true)
    (a_ascending : PySem.W.nsIn K mainGlobals "ascending" = some (some (.ref f_ascending))) (l_ascending : K.lookup f_ascending = some ⟨oc_ascending, od_ascending, .func (PySem.W.fnOf "ascending" "ascending" (defArgs s_ascending) (defBody s_ascending) (defScope s_ascending) .none kV_ascending dc_ascending pm_ascending an_ascending cd_ascending ct_ascending), sl_ascending⟩) (c_ascending : PySem.W.codeIn K cd_ascending "ascending" = true) (k_ascending : PySem.W.keepIn K (.ref f_ascending) = true)
    (a_check_member : PySem.W.nsIn K mainGlobals "check_member" = some (some (.ref f_check_member))) (l_check_member : K.lookup f_check_member = some ⟨oc_check_member, od_check_member, .func (PySem.W.fnOf "check_member" "check_member" (defArgs s_check_member) (defBody s_check_member) (defScope s_check_member) .none kV_check_member dc_check_member pm_check_member an_check_member cd_check_member ct_check_member), sl_check_member⟩) (c_check_member : PySem.W.codeIn K cd_check_member "check_member" = true) (k_check_member : PySem.W.keepIn K (.ref f_check_member) = true)
    (a_chains_of : PySem.W.nsIn K mainGlobals "chains_of" = some (some (.ref f_chains_of))) (l_chains_of : K.lookup f_chains_of = some ⟨oc_chains_of, od_chains_of, .func (PySem.W.fnOf "chains_of" "chains_of" (defArgs s_chains_of) (defBody s_chains_of) (defScope s_chains_of) .none kV_chains_of dc_chains_of pm_chains_of an_chains_of cd_chains_of ct_chains_of), sl_chains_of⟩) (c_chains_of : PySem.W.codeIn K cd_chains_of "chains_of" = true) (k_chains_of : PySem.W.keepIn K (.ref f_chains_of) = true)
    (a_border_of : PySem.W.nsIn K mainGlobals "border_of" = some (some (.ref f_border_of))) (l_border_of : K.lookup f_border_of = some ⟨oc_border_of, od_border_of, .func (PySem.W.fnOf "border_of" "border_of" (defArgs s_border_of) (defBody s_border_of) (defScope s_border_of) .none kV_border_of dc_border_of pm_border_of an_border_of cd_border_of ct_border_of), sl_border_of⟩) (c_border_of : PySem.W.codeIn K cd_border_of "border_of" = true) (k_border_of : PySem.W.keepIn K (.ref f_border_of) = true)
    (a_sides_of : PySem.W.nsIn K mainGlobals "sides_of" = some (some (.ref f_sides_of))) (l_sides_of : K.lookup f_sides_of = some ⟨oc_sides_of, od_sides_of, .func (PySem.W.fnOf "sides_of" "sides_of" (defArgs s_sides_of) (defBody s_sides_of) (defScope s_sides_of) .none kV_sides_of dc_sides_of pm_sides_of an_sides_of cd_sides_of ct_sides_of), sl_sides_of⟩) (c_sides_of : PySem.W.codeIn K cd_sides_of "sides_of" = true) (k_sides_of : PySem.W.keepIn K (.ref f_sides_of) = true)
    (a_border : PySem.W.nsIn K mainGlobals "border" = some (some (.ref f_border))) (l_border : K.lookup f_border = some ⟨oc_border, od_border, .func (PySem.W.fnOf "border" "border" (defArgs s_border) (defBody s_border) (defScope s_border) .none kV_border dc_border pm_border an_border cd_border ct_border), sl_border⟩) (c_border : PySem.W.codeIn K cd_border "border" = true) (k_border : PySem.W.keepIn K (.ref f_border) = true)
    (a_layers : PySem.W.nsIn K mainGlobals "layers" = some (some (.ref f_layers))) (l_layers : K.lookup f_layers = some ⟨oc_layers, od_layers, .func (PySem.W.fnOf "layers" "layers" (defArgs s_layers) (defBody s_layers) (defScope s_layers) .none kV_layers dc_layers pm_layers an_layers cd_layers ct_layers), sl_layers⟩) (c_layers : PySem.W.codeIn K cd_layers "layers" = true) (k_layers : PySem.W.keepIn K (.ref f_layers) = true)
    (a_layer_of : PySem.W.nsIn K mainGlobals "layer_of" = some (some (.ref f_layer_of))) (l_layer_of : K.lookup f_layer_of = some ⟨oc_layer_of, od_layer_of, .func (PySem.W.fnOf "layer_of" "layer_of" (defArgs s_layer_of) (defBody s_layer_of) (defScope s_layer_of) .none kV_layer_of dc_layer_of pm_layer_of an_layer_of cd_layer_of ct_layer_of), sl_layer_of⟩) (c_layer_of : PySem.W.codeIn K cd_layer_of "layer_of" = true) (k_layer_of : PySem.W.keepIn K (.ref f_layer_of) = true)
    (a_seen_sides : PySem.W.nsIn K mainGlobals "seen_sides" = some (some (.ref f_seen_sides))) (l_seen_sides : K.lookup f_seen_sides = some ⟨oc_seen_sides, od_seen_sides, .func (PySem.W.fnOf "seen_sides" "seen_sides" (defArgs s_seen_sides) (defBody s_seen_sides) (defScope s_seen_sides) .none kV_seen_sides dc_seen_sides pm_seen_sides an_seen_sides cd_seen_sides ct_seen_sides), sl_seen_sides⟩) (c_seen_sides : PySem.W.codeIn K cd_seen_sides "seen_sides" = true) (k_seen_sides : PySem.W.keepIn K (.ref f_seen_sides) = true)
    (a__law_purse : PySem.W.nsIn K mainGlobals "_law_purse" = some (some (.ref f__law_purse))) (l__law_purse : K.lookup f__law_purse = some ⟨oc__law_purse, od__law_purse, .func (PySem.W.fnOf "_law_purse" "_law_purse" (defArgs s__law_purse) (defBody s__law_purse) (defScope s__law_purse) .none kV__law_purse dc__law_purse pm__law_purse an__law_purse cd__law_purse ct__law_purse), sl__law_purse⟩) (c__law_purse : PySem.W.codeIn K cd__law_purse "_law_purse" = true) (k__law_purse : PySem.W.keepIn K (.ref f__law_purse) = true)
    (a__law_coin : PySem.W.nsIn K mainGlobals "_law_coin" = some (some (.ref f__law_coin))) (l__law_coin : K.lookup f__law_coin = some ⟨oc__law_coin, od__law_coin, .func (PySem.W.fnOf "_law_coin" "_law_coin" (defArgs s__law_coin) (defBody s__law_coin) (defScope s__law_coin) .none kV__law_coin dc__law_coin pm__law_coin an__law_coin cd__law_coin ct__law_coin), sl__law_coin⟩) (c__law_coin : PySem.W.codeIn K cd__law_coin "_law_coin" = true) (k__law_coin : PySem.W.keepIn K (.ref f__law_coin) = true)
    (a__law_pick : PySem.W.nsIn K mainGlobals "_law_pick" = some (some (.ref f__law_pick))) (l__law_pick : K.lookup f__law_pick = some ⟨oc__law_pick, od__law_pick, .func (PySem.W.fnOf "_law_pick" "_law_pick" (defArgs s__law_pick) (defBody s__law_pick) (defScope s__law_pick) .none kV__law_pick dc__law_pick pm__law_pick an__law_pick cd__law_pick ct__law_pick), sl__law_pick⟩) (c__law_pick : PySem.W.codeIn K cd__law_pick "_law_pick" = true) (k__law_pick : PySem.W.keepIn K (.ref f__law_pick) = true)
    (a__law_ring : PySem.W.nsIn K mainGlobals "_law_ring" = some (some (.ref f__law_ring))) (l__law_ring : K.lookup f__law_ring = some ⟨oc__law_ring, od__law_ring, .func (PySem.W.fnOf "_law_ring" "_law_ring" (defArgs s__law_ring) (defBody s__law_ring) (defScope s__law_ring) .none kV__law_ring dc__law_ring pm__law_ring an__law_ring cd__law_ring ct__law_ring), sl__law_ring⟩) (c__law_ring : PySem.W.codeIn K cd__law_ring "_law_ring" = true) (k__law_ring : PySem.W.keepIn K (.ref f__law_ring) = true)
    (a__law_places : PySem.W.nsIn K mainGlobals "_law_places" = some (some (.ref f__law_places))) (l__law_places : K.lookup f__law_places = some ⟨oc__law_places, od__law_places, .func (PySem.W.fnOf "_law_places" "_law_places" (defArgs s__law_places) (defBody s__law_places) (defScope s__law_places) .none kV__law_places dc__law_places pm__law_places an__law_places cd__law_places ct__law_places), sl__law_places⟩) (c__law_places : PySem.W.codeIn K cd__law_places "_law_places" = true) (k__law_places : PySem.W.keepIn K (.ref f__law_places) = true)
    (a__law_sites : PySem.W.nsIn K mainGlobals "_law_sites" = some (some (.ref f__law_sites))) (l__law_sites : K.lookup f__law_sites = some ⟨oc__law_sites, od__law_sites, .func (PySem.W.fnOf "_law_sites" "_law_sites" (defArgs s__law_sites) (defBody s__law_sites) (defScope s__law_sites) .none kV__law_sites dc__law_sites pm__law_sites an__law_sites cd__law_sites ct__law_sites), sl__law_sites⟩) (c__law_sites : PySem.W.codeIn K cd__law_sites "_law_sites" = true) (k__law_sites : PySem.W.keepIn K (.ref f__law_sites) = true)
    (a__law_lean : PySem.W.nsIn K mainGlobals "_law_lean" = some (some (.ref f__law_lean))) (l__law_lean : K.lookup f__law_lean = some ⟨oc__law_lean, od__law_lean, .func (PySem.W.fnOf "_law_lean" "_law_lean" (defArgs s__law_lean) (defBody s__law_lean) (defScope s__law_lean) .none kV__law_lean dc__law_lean pm__law_lean an__law_lean cd__law_lean ct__law_lean), sl__law_lean⟩) (c__law_lean : PySem.W.codeIn K cd__law_lean "_law_lean" = true) (k__law_lean : PySem.W.keepIn K (.ref f__law_lean) = true)
    (a__law_flat : PySem.W.nsIn K mainGlobals "_law_flat" = some (some (.ref f__law_flat))) (l__law_flat : K.lookup f__law_flat = some ⟨oc__law_flat, od__law_flat, .func (PySem.W.fnOf "_law_flat" "_law_flat" (defArgs s__law_flat) (defBody s__law_flat) (defScope s__law_flat) .none kV__law_flat dc__law_flat pm__law_flat an__law_flat cd__law_flat ct__law_flat), sl__law_flat⟩) (c__law_flat : PySem.W.codeIn K cd__law_flat "_law_flat" = true) (k__law_flat : PySem.W.keepIn K (.ref f__law_flat) = true)
    (a__law_border : PySem.W.nsIn K mainGlobals "_law_border" = some (some (.ref f__law_border))) (l__law_border : K.lookup f__law_border = some ⟨oc__law_border, od__law_border, .func (PySem.W.fnOf "_law_border" "_law_border" (defArgs s__law_border) (defBody s__law_border) (defScope s__law_border) .none kV__law_border dc__law_border pm__law_border an__law_border cd__law_border ct__law_border), sl__law_border⟩) (c__law_border : PySem.W.codeIn K cd__law_border "_law_border" = true) (k__law_border : PySem.W.keepIn K (.ref f__law_border) = true)
    (a__law_layers : PySem.W.nsIn K mainGlobals "_law_layers" = some (some (.ref f__law_layers))) (l__law_layers : K.lookup f__law_layers = some ⟨oc__law_layers, od__law_layers, .func (PySem.W.fnOf "_law_layers" "_law_layers" (defArgs s__law_layers) (defBody s__law_layers) (defScope s__law_layers) .none kV__law_layers dc__law_layers pm__law_layers an__law_layers cd__law_layers ct__law_layers), sl__law_layers⟩) (c__law_layers : PySem.W.codeIn K cd__law_layers "_law_layers" = true) (k__law_layers : PySem.W.keepIn K (.ref f__law_layers) = true)
    (a__law_ring_sides : PySem.W.nsIn K mainGlobals "_law_ring_sides" = some (some (.ref f__law_ring_sides))) (l__law_ring_sides : K.lookup f__law_ring_sides = some ⟨oc__law_ring_sides, od__law_ring_sides, .func (PySem.W.fnOf "_law_ring_sides" "_law_ring_sides" (defArgs s__law_ring_sides) (defBody s__law_ring_sides) (defScope s__law_ring_sides) .none kV__law_ring_sides dc__law_ring_sides pm__law_ring_sides an__law_ring_sides cd__law_ring_sides ct__law_ring_sides), sl__law_ring_sides⟩) (c__law_ring_sides : PySem.W.codeIn K cd__law_ring_sides "_law_ring_sides" = true) (k__law_ring_sides : PySem.W.keepIn K (.ref f__law_ring_sides) = true)
    (a__law_seen : PySem.W.nsIn K mainGlobals "_law_seen" = some (some (.ref f__law_seen))) (l__law_seen : K.lookup f__law_seen = some ⟨oc__law_seen, od__law_seen, .func (PySem.W.fnOf "_law_seen" "_law_seen" (defArgs s__law_seen) (defBody s__law_seen) (defScope s__law_seen) .none kV__law_seen dc__law_seen pm__law_seen an__law_seen cd__law_seen ct__law_seen), sl__law_seen⟩) (c__law_seen : PySem.W.codeIn K cd__law_seen "_law_seen" = true) (k__law_seen : PySem.W.keepIn K (.ref f__law_seen) = true)
    (a__law_fits : PySem.W.nsIn K mainGlobals "_law_fits" = some (some (.ref f__law_fits))) (l__law_fits : K.lookup f__law_fits = some ⟨oc__law_fits, od__law_fits, .func (PySem.W.fnOf "_law_fits" "_law_fits" (defArgs s__law_fits) (defBody s__law_fits) (defScope s__law_fits) .none kV__law_fits dc__law_fits pm__law_fits an__law_fits cd__law_fits ct__law_fits), sl__law_fits⟩) (c__law_fits : PySem.W.codeIn K cd__law_fits "_law_fits" = true) (k__law_fits : PySem.W.keepIn K (.ref f__law_fits) = true)
    (a__law_wider_right : PySem.W.nsIn K mainGlobals "_law_wider_right" = some (some (.ref f__law_wider_right))) (l__law_wider_right : K.lookup f__law_wider_right = some ⟨oc__law_wider_right, od__law_wider_right, .func (PySem.W.fnOf "_law_wider_right" "_law_wider_right" (defArgs s__law_wider_right) (defBody s__law_wider_right) (defScope s__law_wider_right) .none kV__law_wider_right dc__law_wider_right pm__law_wider_right an__law_wider_right cd__law_wider_right ct__law_wider_right), sl__law_wider_right⟩) (c__law_wider_right : PySem.W.codeIn K cd__law_wider_right "_law_wider_right" = true) (k__law_wider_right : PySem.W.keepIn K (.ref f__law_wider_right) = true)
    (a__law_right : PySem.W.nsIn K mainGlobals "_law_right" = some (some (.ref f__law_right))) (l__law_right : K.lookup f__law_right = some ⟨oc__law_right, od__law_right, .func (PySem.W.fnOf "_law_right" "_law_right" (defArgs s__law_right) (defBody s__law_right) (defScope s__law_right) .none kV__law_right dc__law_right pm__law_right an__law_right cd__law_right ct__law_right), sl__law_right⟩) (c__law_right : PySem.W.codeIn K cd__law_right "_law_right" = true) (k__law_right : PySem.W.keepIn K (.ref f__law_right) = true)
    (a__law_nested_right : PySem.W.nsIn K mainGlobals "_law_nested_right" = some (some (.ref f__law_nested_right))) (l__law_nested_right : K.lookup f__law_nested_right = some ⟨oc__law_nested_right, od__law_nested_right, .func (PySem.W.fnOf "_law_nested_right" "_law_nested_right" (defArgs s__law_nested_right) (defBody s__law_nested_right) (defScope s__law_nested_right) .none kV__law_nested_right dc__law_nested_right pm__law_nested_right an__law_nested_right cd__law_nested_right ct__law_nested_right), sl__law_nested_right⟩) (c__law_nested_right : PySem.W.codeIn K cd__law_nested_right "_law_nested_right" = true) (k__law_nested_right : PySem.W.keepIn K (.ref f__law_nested_right) = true)
    (aL : PySem.W.nsIn K mainGlobals "law" = some (some (.ref fL))) (lL : K.lookup fL = some ⟨ocL, odL, .func (PySem.W.fnOf "law" "law" (defArgs s_law) (defBody s_law) (defScope s_law) .none kVL dcL pmL anL cdL ctL), slL⟩) (cL : PySem.W.codeIn K cdL "law" = true) (kL : PySem.W.keepIn K (.ref fL) = true)
    (zabs : PySem.W.nsIn K mainGlobals "abs" = some none)
    (zint : PySem.W.nsIn K mainGlobals "int" = some none)
    (zisinstance : PySem.W.nsIn K mainGlobals "isinstance" = some none)
    (zlen : PySem.W.nsIn K mainGlobals "len" = some none)
    (zlist : PySem.W.nsIn K mainGlobals "list" = some none)
    (zmax : PySem.W.nsIn K mainGlobals "max" = some none)
    (zmin : PySem.W.nsIn K mainGlobals "min" = some none)
    (zrange : PySem.W.nsIn K mainGlobals "range" = some none)
    (zset : PySem.W.nsIn K mainGlobals "set" = some none)
    (zsorted : PySem.W.nsIn K mainGlobals "sorted" = some none)
    (ztuple : PySem.W.nsIn K mainGlobals "tuple" = some none)
    (zzip : PySem.W.nsIn K mainGlobals "zip" = some none)
    (gMOST_SITES : PySem.W.nsIn K mainGlobals "MOST_SITES" = some (some (.int 200 tMOST_SITES)))
    : ∃ fd : FuncData, (∀ (s : Shared) (v : Value), BindsTo s fd ⟨[v], []⟩ [("_law_script", v)]) ∧ ∀ base : Heap, K.In base → base.Ns mainGlobals mg → FnOk l.prog w K mg base CX0 8 fa fd ["_law_script"] (p_law K) := by
  have e := hfa.symm.trans (PySem.W.mg_of X G aL)
  cases e
  have F_is_site := fun_mk (st := s_is_site) l_is_site c_is_site k_is_site
  have b_is_site := F_is_site.binds (ps := ["value"]) fun _ _ _ _ _ _ us hl => match us, hl with | [_], _ => rfl
  have g_is_site := PySem.W.mg_of X G a_is_site
  have F_check_site := fun_mk (st := s_check_site) l_check_site c_check_site k_check_site
  have b_check_site := F_check_site.binds (ps := ["value", "name"]) fun _ _ _ _ _ _ us hl => match us, hl with | [_, _], _ => rfl
  have g_check_site := PySem.W.mg_of X G a_check_site
  have F_are_sites := fun_mk (st := s_are_sites) l_are_sites c_are_sites k_are_sites
  have b_are_sites := F_are_sites.binds (ps := ["value"]) fun _ _ _ _ _ _ us hl => match us, hl with | [_], _ => rfl
  have g_are_sites := PySem.W.mg_of X G a_are_sites
  have F_ascending := fun_mk (st := s_ascending) l_ascending c_ascending k_ascending
  have b_ascending := F_ascending.binds (ps := ["sites"]) fun _ _ _ _ _ _ us hl => match us, hl with | [_], _ => rfl
  have g_ascending := PySem.W.mg_of X G a_ascending
  have F_check_member := fun_mk (st := s_check_member) l_check_member c_check_member k_check_member
  have b_check_member := F_check_member.binds (ps := ["value", "sites", "name"]) fun _ _ _ _ _ _ us hl => match us, hl with | [_, _, _], _ => rfl
  have g_check_member := PySem.W.mg_of X G a_check_member
  have F_chains_of := fun_mk (st := s_chains_of) l_chains_of c_chains_of k_chains_of
  have b_chains_of := F_chains_of.binds (ps := ["rows", "least"]) fun _ _ _ _ _ _ us hl => match us, hl with | [_, _], _ => rfl
  have g_chains_of := PySem.W.mg_of X G a_chains_of
  have F_border_of := fun_mk (st := s_border_of) l_border_of c_border_of k_border_of
  have b_border_of := F_border_of.binds (ps := ["rows"]) fun _ _ _ _ _ _ us hl => match us, hl with | [_], _ => rfl
  have g_border_of := PySem.W.mg_of X G a_border_of
  have F_sides_of := fun_mk (st := s_sides_of) l_sides_of c_sides_of k_sides_of
  have b_sides_of := F_sides_of.binds (ps := ["rows"]) fun _ _ _ _ _ _ us hl => match us, hl with | [_], _ => rfl
  have g_sides_of := PySem.W.mg_of X G a_sides_of
  have F_border := fun_mk (st := s_border) l_border c_border k_border
  have b_border := F_border.binds (ps := ["sites"]) fun _ _ _ _ _ _ us hl => match us, hl with | [_], _ => rfl
  have g_border := PySem.W.mg_of X G a_border
  have F_layers := fun_mk (st := s_layers) l_layers c_layers k_layers
  have b_layers := F_layers.binds (ps := ["sites"]) fun _ _ _ _ _ _ us hl => match us, hl with | [_], _ => rfl
  have g_layers := PySem.W.mg_of X G a_layers
  have F_layer_of := fun_mk (st := s_layer_of) l_layer_of c_layer_of k_layer_of
  have b_layer_of := F_layer_of.binds (ps := ["sites", "site"]) fun _ _ _ _ _ _ us hl => match us, hl with | [_, _], _ => rfl
  have g_layer_of := PySem.W.mg_of X G a_layer_of
  have F_seen_sides := fun_mk (st := s_seen_sides) l_seen_sides c_seen_sides k_seen_sides
  have b_seen_sides := F_seen_sides.binds (ps := ["sites", "site"]) fun _ _ _ _ _ _ us hl => match us, hl with | [_, _], _ => rfl
  have g_seen_sides := PySem.W.mg_of X G a_seen_sides
  have F__law_purse := fun_mk (st := s__law_purse) l__law_purse c__law_purse k__law_purse
  have b__law_purse := F__law_purse.binds (ps := ["_law_figure"]) fun _ _ _ _ _ _ us hl => match us, hl with | [_], _ => rfl
  have g__law_purse := PySem.W.mg_of X G a__law_purse
  have F__law_coin := fun_mk (st := s__law_coin) l__law_coin c__law_coin k__law_coin
  have b__law_coin := F__law_coin.binds (ps := ["_law_purse_here", "_law_many"]) fun _ _ _ _ _ _ us hl => match us, hl with | [_, _], _ => rfl
  have g__law_coin := PySem.W.mg_of X G a__law_coin
  have F__law_pick := fun_mk (st := s__law_pick) l__law_pick c__law_pick k__law_pick
  have b__law_pick := F__law_pick.binds (ps := ["_law_purse_here", "_law_some"]) fun _ _ _ _ _ _ us hl => match us, hl with | [_, _], _ => rfl
  have g__law_pick := PySem.W.mg_of X G a__law_pick
  have F__law_ring := fun_mk (st := s__law_ring) l__law_ring c__law_ring k__law_ring
  have b__law_ring := F__law_ring.binds (ps := ["_law_purse_here"]) fun _ _ _ _ _ _ us hl => match us, hl with | [_], _ => rfl
  have g__law_ring := PySem.W.mg_of X G a__law_ring
  have F__law_places := fun_mk (st := s__law_places) l__law_places c__law_places k__law_places
  have b__law_places := F__law_places.binds (ps := ["_law_purse_here"]) fun _ _ _ _ _ _ us hl => match us, hl with | [_], _ => rfl
  have g__law_places := PySem.W.mg_of X G a__law_places
  have F__law_sites := fun_mk (st := s__law_sites) l__law_sites c__law_sites k__law_sites
  have b__law_sites := F__law_sites.binds (ps := ["_law_purse_here", "_law_least_so", "_law_most_so"]) fun _ _ _ _ _ _ us hl => match us, hl with | [_, _, _], _ => rfl
  have g__law_sites := PySem.W.mg_of X G a__law_sites
  have F__law_lean := fun_mk (st := s__law_lean) l__law_lean c__law_lean k__law_lean
  have b__law_lean := F__law_lean.binds (ps := ["_law_a", "_law_b", "_law_c"]) fun _ _ _ _ _ _ us hl => match us, hl with | [_, _, _], _ => rfl
  have g__law_lean := PySem.W.mg_of X G a__law_lean
  have F__law_flat := fun_mk (st := s__law_flat) l__law_flat c__law_flat k__law_flat
  have b__law_flat := F__law_flat.binds (ps := ["_law_sites_so"]) fun _ _ _ _ _ _ us hl => match us, hl with | [_], _ => rfl
  have g__law_flat := PySem.W.mg_of X G a__law_flat
  have F__law_border := fun_mk (st := s__law_border) l__law_border c__law_border k__law_border
  have b__law_border := F__law_border.binds (ps := ["_law_sites_so"]) fun _ _ _ _ _ _ us hl => match us, hl with | [_], _ => rfl
  have g__law_border := PySem.W.mg_of X G a__law_border
  have F__law_layers := fun_mk (st := s__law_layers) l__law_layers c__law_layers k__law_layers
  have b__law_layers := F__law_layers.binds (ps := ["_law_sites_so"]) fun _ _ _ _ _ _ us hl => match us, hl with | [_], _ => rfl
  have g__law_layers := PySem.W.mg_of X G a__law_layers
  have F__law_ring_sides := fun_mk (st := s__law_ring_sides) l__law_ring_sides c__law_ring_sides k__law_ring_sides
  have b__law_ring_sides := F__law_ring_sides.binds (ps := ["_law_ring_here"]) fun _ _ _ _ _ _ us hl => match us, hl with | [_], _ => rfl
  have g__law_ring_sides := PySem.W.mg_of X G a__law_ring_sides
  have F__law_seen := fun_mk (st := s__law_seen) l__law_seen c__law_seen k__law_seen
  have b__law_seen := F__law_seen.binds (ps := ["_law_ring_here", "_law_spot"]) fun _ _ _ _ _ _ us hl => match us, hl with | [_, _], _ => rfl
  have g__law_seen := PySem.W.mg_of X G a__law_seen
  have F__law_fits := fun_mk (st := s__law_fits) l__law_fits c__law_fits k__law_fits
  have b__law_fits := F__law_fits.binds (ps := ["_law_spot"]) fun _ _ _ _ _ _ us hl => match us, hl with | [_], _ => rfl
  have g__law_fits := PySem.W.mg_of X G a__law_fits
  have F__law_wider_right := fun_mk (st := s__law_wider_right) l__law_wider_right c__law_wider_right k__law_wider_right
  have b__law_wider_right := F__law_wider_right.binds (ps := ["_law_sites_so", "_law_ring_here", "_law_spot", "_law_seen_so"]) fun _ _ _ _ _ _ us hl => match us, hl with | [_, _, _, _], _ => rfl
  have g__law_wider_right := PySem.W.mg_of X G a__law_wider_right
  have F__law_right := fun_mk (st := s__law_right) l__law_right c__law_right k__law_right
  have b__law_right := F__law_right.binds (ps := ["_law_purse_here"]) fun _ _ _ _ _ _ us hl => match us, hl with | [_], _ => rfl
  have g__law_right := PySem.W.mg_of X G a__law_right
  have F__law_nested_right := fun_mk (st := s__law_nested_right) l__law_nested_right c__law_nested_right k__law_nested_right
  have b__law_nested_right := F__law_nested_right.binds (ps := ["_law_purse_here"]) fun _ _ _ _ _ _ us hl => match us, hl with | [_], _ => rfl
  have g__law_nested_right := PySem.W.mg_of X G a__law_nested_right
  have FL := fun_mk (st := s_law) lL cL kL
  have mabs := PySem.W.mg_none_of X G zabs
  have mint := PySem.W.mg_none_of X G zint
  have misinstance := PySem.W.mg_none_of X G zisinstance
  have mlen := PySem.W.mg_none_of X G zlen
  have mlist := PySem.W.mg_none_of X G zlist
  have mmax := PySem.W.mg_none_of X G zmax
  have mmin := PySem.W.mg_none_of X G zmin
  have mrange := PySem.W.mg_none_of X G zrange
  have mset := PySem.W.mg_none_of X G zset
  have msorted := PySem.W.mg_none_of X G zsorted
  have mtuple := PySem.W.mg_none_of X G ztuple
  have mzip := PySem.W.mg_none_of X G zzip
  have mMOST_SITES := PySem.W.mg_of X G gMOST_SITES
  refine ⟨PySem.W.fnOf "law" "law" (defArgs s_law) (defBody s_law) (defScope s_law) .none kVL dcL pmL anL cdL ctL, fun s v => .of_eq rfl, fun base _ _ => ?_⟩
  have D_is_site : Df K mg "is_site" s_is_site ["value"] := Df.mk' F_is_site g_is_site k_is_site b_is_site
  have D_check_site : Df K mg "check_site" s_check_site ["value", "name"] := Df.mk' F_check_site g_check_site k_check_site b_check_site
  have D_are_sites : Df K mg "are_sites" s_are_sites ["value"] := Df.mk' F_are_sites g_are_sites k_are_sites b_are_sites
  have D_ascending : Df K mg "ascending" s_ascending ["sites"] := Df.mk' F_ascending g_ascending k_ascending b_ascending
  have D_check_member : Df K mg "check_member" s_check_member ["value", "sites", "name"] := Df.mk' F_check_member g_check_member k_check_member b_check_member
  have D_chains_of : Df K mg "chains_of" s_chains_of ["rows", "least"] := Df.mk' F_chains_of g_chains_of k_chains_of b_chains_of
  have D_border_of : Df K mg "border_of" s_border_of ["rows"] := Df.mk' F_border_of g_border_of k_border_of b_border_of
  have D_sides_of : Df K mg "sides_of" s_sides_of ["rows"] := Df.mk' F_sides_of g_sides_of k_sides_of b_sides_of
  have D_border : Df K mg "border" s_border ["sites"] := Df.mk' F_border g_border k_border b_border
  have D_layers : Df K mg "layers" s_layers ["sites"] := Df.mk' F_layers g_layers k_layers b_layers
  have D_layer_of : Df K mg "layer_of" s_layer_of ["sites", "site"] := Df.mk' F_layer_of g_layer_of k_layer_of b_layer_of
  have D_seen_sides : Df K mg "seen_sides" s_seen_sides ["sites", "site"] := Df.mk' F_seen_sides g_seen_sides k_seen_sides b_seen_sides
  have D__law_purse : Df K mg "_law_purse" s__law_purse ["_law_figure"] := Df.mk' F__law_purse g__law_purse k__law_purse b__law_purse
  have D__law_coin : Df K mg "_law_coin" s__law_coin ["_law_purse_here", "_law_many"] := Df.mk' F__law_coin g__law_coin k__law_coin b__law_coin
  have D__law_pick : Df K mg "_law_pick" s__law_pick ["_law_purse_here", "_law_some"] := Df.mk' F__law_pick g__law_pick k__law_pick b__law_pick
  have D__law_ring : Df K mg "_law_ring" s__law_ring ["_law_purse_here"] := Df.mk' F__law_ring g__law_ring k__law_ring b__law_ring
  have D__law_places : Df K mg "_law_places" s__law_places ["_law_purse_here"] := Df.mk' F__law_places g__law_places k__law_places b__law_places
  have D__law_sites : Df K mg "_law_sites" s__law_sites ["_law_purse_here", "_law_least_so", "_law_most_so"] := Df.mk' F__law_sites g__law_sites k__law_sites b__law_sites
  have D__law_lean : Df K mg "_law_lean" s__law_lean ["_law_a", "_law_b", "_law_c"] := Df.mk' F__law_lean g__law_lean k__law_lean b__law_lean
  have D__law_flat : Df K mg "_law_flat" s__law_flat ["_law_sites_so"] := Df.mk' F__law_flat g__law_flat k__law_flat b__law_flat
  have D__law_border : Df K mg "_law_border" s__law_border ["_law_sites_so"] := Df.mk' F__law_border g__law_border k__law_border b__law_border
  have D__law_layers : Df K mg "_law_layers" s__law_layers ["_law_sites_so"] := Df.mk' F__law_layers g__law_layers k__law_layers b__law_layers
  have D__law_ring_sides : Df K mg "_law_ring_sides" s__law_ring_sides ["_law_ring_here"] := Df.mk' F__law_ring_sides g__law_ring_sides k__law_ring_sides b__law_ring_sides
  have D__law_seen : Df K mg "_law_seen" s__law_seen ["_law_ring_here", "_law_spot"] := Df.mk' F__law_seen g__law_seen k__law_seen b__law_seen
  have D__law_fits : Df K mg "_law_fits" s__law_fits ["_law_spot"] := Df.mk' F__law_fits g__law_fits k__law_fits b__law_fits
  have D__law_wider_right : Df K mg "_law_wider_right" s__law_wider_right ["_law_sites_so", "_law_ring_here", "_law_spot", "_law_seen_so"] := Df.mk' F__law_wider_right g__law_wider_right k__law_wider_right b__law_wider_right
  have D__law_right : Df K mg "_law_right" s__law_right ["_law_purse_here"] := Df.mk' F__law_right g__law_right k__law_right b__law_right
  have D__law_nested_right : Df K mg "_law_nested_right" s__law_nested_right ["_law_purse_here"] := Df.mk' F__law_nested_right g__law_nested_right k__law_nested_right b__law_nested_right
  have C_is_site : Cl l.prog w K mg base CX0 "is_site" 1 ["value"] spIsSite := D_is_site.cl fun f fd F => ok_issite (k := 0) F misinstance mtuple mint mlen
  have C_are_sites := ok_are_sites (P := l.prog) (w := w) (K := K) (mg := mg) (base := base) D_are_sites   mint misinstance mlen mlist mset mtuple mMOST_SITES 
  have C_ascending := ok_ascending (P := l.prog) (w := w) (K := K) (mg := mg) (base := base) D_ascending C_are_sites  msorted  
  have C_chains_of := ok_chains_of (P := l.prog) (w := w) (K := K) (mg := mg) (base := base) D_chains_of   mlen  
  have C_border_of := ok_border_of (P := l.prog) (w := w) (K := K) (mg := mg) (base := base) D_border_of C_chains_of  mlen  
  have C__law_purse := ok__law_purse (P := l.prog) (w := w) (K := K) (mg := mg) (base := base) D__law_purse   mabs mint  
  have C__law_coin := ok__law_coin (P := l.prog) (w := w) (K := K) (mg := mg) (base := base) D__law_coin   mint  
  have C__law_pick := ok__law_pick (P := l.prog) (w := w) (K := K) (mg := mg) (base := base) D__law_pick C__law_coin  mlen  
  have C__law_ring := ok__law_ring (P := l.prog) (w := w) (K := K) (mg := mg) (base := base) D__law_ring C__law_coin    
  have C__law_places := ok__law_places (P := l.prog) (w := w) (K := K) (mg := mg) (base := base) D__law_places C__law_coin C__law_pick C__law_ring  mint mrange  
  have C__law_sites := ok__law_sites (P := l.prog) (w := w) (K := K) (mg := mg) (base := base) D__law_sites C__law_coin C__law_pick C__law_places  mlen mrange  
  have C_border := D_border.cl (fun f fd F => ok_border (P := l.prog) (w := w) (K := K) (mg := mg) (base := base) F C_ascending C_border_of    )
  have C__law_lean := ok__law_lean (P := l.prog) (w := w) (K := K) (mg := mg) (base := base) D__law_lean     
  have C__law_flat := ok__law_flat (P := l.prog) (w := w) (K := K) (mg := mg) (base := base) D__law_flat C__law_lean  mmax mmin  
  have C__law_border := ok__law_border (P := l.prog) (w := w) (K := K) (mg := mg) (base := base) D__law_border C__law_lean C__law_flat  mlen mmin mrange msorted  
  have C__law_fits := ok__law_fits (P := l.prog) (w := w) (K := K) (mg := mg) (base := base) D__law_fits   mabs mmax  
  have C_check_member := ok_check_member (P := l.prog) (w := w) (K := K) (mg := mg) (base := base) D_check_member C_is_site    
  have C__law_layers := ok__law_layers (P := l.prog) (w := w) (K := K) (mg := mg) (base := base) D__law_layers C__law_border  mlist  
  have C_layers := ok_layers (P := l.prog) (w := w) (K := K) (mg := mg) (base := base) D_layers C_ascending C_border_of  mlen  
  have C_layer_of := ok_layer_of (P := l.prog) (w := w) (K := K) (mg := mg) (base := base) D_layer_of C_check_member C_layers    
  have C_sides_of := ok_sides_of (P := l.prog) (w := w) (K := K) (mg := mg) (base := base) D_sides_of C_chains_of  mlist mzip  
  have C_check_site := ok_check_site (P := l.prog) (w := w) (K := K) (mg := mg) (base := base) D_check_site C_is_site    
  have C_seen_sides := ok_seen_sides (P := l.prog) (w := w) (K := K) (mg := mg) (base := base) D_seen_sides C_ascending C_sides_of C_check_site  mlen mzip  
  have C__law_ring_sides := ok__law_ring_sides (P := l.prog) (w := w) (K := K) (mg := mg) (base := base) D__law_ring_sides C__law_flat  mint mlen mrange  
  have C__law_seen := ok__law_seen (P := l.prog) (w := w) (K := K) (mg := mg) (base := base) D__law_seen C__law_lean C__law_ring_sides  mlen mlist mrange  
  have C__law_wider_right := ok__law_wider_right (P := l.prog) (w := w) (K := K) (mg := mg) (base := base) D__law_wider_right C_border C__law_ring_sides    
  have C__law_right := ok__law_right (P := l.prog) (w := w) (K := K) (mg := mg) (base := base) D__law_right C__law_coin C__law_pick C__law_sites C__law_flat C__law_border C__law_fits C__law_layers C_layers C_layer_of C_seen_sides C__law_seen C__law_wider_right  mrange  
  have C__law_nested_right := ok__law_nested_right (P := l.prog) (w := w) (K := K) (mg := mg) (base := base) D__law_nested_right C__law_coin C__law_pick C_layers C_layer_of  mrange  
  exact ok_law (P := l.prog) (w := w) (base := base) FL C__law_purse C_seen_sides C__law_right C__law_nested_right  mrange  
end NcK
open PySem PySem.W PyProof.Rows
set_option maxHeartbeats 0 in
theorem PySem.Challenge.cw_nearcells_k07_whole_layers_and_sides_tha_holds : PySem.Challenge.rw_nearcells_k07_whole_layers_and_sides_tha.Holds := by
  w_on; o_law; k_head; (case hw => w_witness2)
  k_fill
  refine L2.walk_of (l := PySem.Challenge.rw_nearcells_k07_whole_layers_and_sides_tha) (n := 63) (k := 8) (x := "_law_script") (CX := fun _ => L2.CX0) (sp := fun w => NcK.p_law _) rfl (by decide) rfl ⟨rfl, by decide, by decide⟩ (fun w h Y => PySem.W.kIn_of Y) ?F (fun _ _ a ns hl _ hS => ⟨a, ns, rfl, hS, hl, fun _ => rfl⟩) (fun _ _ _ _ _ h => h)
  case F =>
    intro w mg fa h KX G hmg
    refine' NcK.all_mk KX G hmg ?a_is_site ?l_is_site ?c_is_site ?k_is_site ?a_check_site ?l_check_site ?c_check_site ?k_check_site ?a_are_sites ?l_are_sites ?c_are_sites ?k_are_sites ?a_ascending ?l_ascending ?c_ascending ?k_ascending ?a_check_member ?l_check_member ?c_check_member ?k_check_member ?a_chains_of ?l_chains_of ?c_chains_of ?k_chains_of ?a_border_of ?l_border_of ?c_border_of ?k_border_of ?a_sides_of ?l_sides_of ?c_sides_of ?k_sides_of ?a_border ?l_border ?c_border ?k_border ?a_layers ?l_layers ?c_layers ?k_layers ?a_layer_of ?l_layer_of ?c_layer_of ?k_layer_of ?a_seen_sides ?l_seen_sides ?c_seen_sides ?k_seen_sides ?a__law_purse ?l__law_purse ?c__law_purse ?k__law_purse ?a__law_coin ?l__law_coin ?c__law_coin ?k__law_coin ?a__law_pick ?l__law_pick ?c__law_pick ?k__law_pick ?a__law_ring ?l__law_ring ?c__law_ring ?k__law_ring ?a__law_places ?l__law_places ?c__law_places ?k__law_places ?a__law_sites ?l__law_sites ?c__law_sites ?k__law_sites ?a__law_lean ?l__law_lean ?c__law_lean ?k__law_lean ?a__law_flat ?l__law_flat ?c__law_flat ?k__law_flat ?a__law_border ?l__law_border ?c__law_border ?k__law_border ?a__law_layers ?l__law_layers ?c__law_layers ?k__law_layers ?a__law_ring_sides ?l__law_ring_sides ?c__law_ring_sides ?k__law_ring_sides ?a__law_seen ?l__law_seen ?c__law_seen ?k__law_seen ?a__law_fits ?l__law_fits ?c__law_fits ?k__law_fits ?a__law_wider_right ?l__law_wider_right ?c__law_wider_right ?k__law_wider_right ?a__law_right ?l__law_right ?c__law_right ?k__law_right ?a__law_nested_right ?l__law_nested_right ?c__law_nested_right ?k__law_nested_right ?aL ?lL ?cL ?kL ?zabs ?zint ?zisinstance ?zlen ?zlist ?zmax ?zmin ?zrange ?zset ?zsorted ?ztuple ?zzip ?gMOST_SITES
    (case a_is_site => k_is); (case l_is_site => k_is); (case c_is_site => k_is); (case k_is_site => k_is); (case a_check_site => k_is); (case l_check_site => k_is); (case c_check_site => k_is); (case k_check_site => k_is); (case a_are_sites => k_is); (case l_are_sites => k_is); (case c_are_sites => k_is); (case k_are_sites => k_is); (case a_ascending => k_is); (case l_ascending => k_is); (case c_ascending => k_is); (case k_ascending => k_is); (case a_check_member => k_is); (case l_check_member => k_is); (case c_check_member => k_is); (case k_check_member => k_is); (case a_chains_of => k_is); (case l_chains_of => k_is); (case c_chains_of => k_is); (case k_chains_of => k_is); (case a_border_of => k_is); (case l_border_of => k_is); (case c_border_of => k_is); (case k_border_of => k_is); (case a_sides_of => k_is); (case l_sides_of => k_is); (case c_sides_of => k_is); (case k_sides_of => k_is); (case a_border => k_is); (case l_border => k_is); (case c_border => k_is); (case k_border => k_is); (case a_layers => k_is); (case l_layers => k_is); (case c_layers => k_is); (case k_layers => k_is); (case a_layer_of => k_is); (case l_layer_of => k_is); (case c_layer_of => k_is); (case k_layer_of => k_is); (case a_seen_sides => k_is); (case l_seen_sides => k_is); (case c_seen_sides => k_is); (case k_seen_sides => k_is); (case a__law_purse => k_is); (case l__law_purse => k_is); (case c__law_purse => k_is); (case k__law_purse => k_is); (case a__law_coin => k_is); (case l__law_coin => k_is); (case c__law_coin => k_is); (case k__law_coin => k_is); (case a__law_pick => k_is); (case l__law_pick => k_is); (case c__law_pick => k_is); (case k__law_pick => k_is); (case a__law_ring => k_is); (case l__law_ring => k_is); (case c__law_ring => k_is); (case k__law_ring => k_is); (case a__law_places => k_is); (case l__law_places => k_is); (case c__law_places => k_is); (case k__law_places => k_is); (case a__law_sites => k_is); (case l__law_sites => k_is); (case c__law_sites => k_is); (case k__law_sites => k_is); (case a__law_lean => k_is); (case l__law_lean => k_is); (case c__law_lean => k_is); (case k__law_lean => k_is); (case a__law_flat => k_is); (case l__law_flat => k_is); (case c__law_flat => k_is); (case k__law_flat => k_is); (case a__law_border => k_is); (case l__law_border => k_is); (case c__law_border => k_is); (case k__law_border => k_is); (case a__law_layers => k_is); (case l__law_layers => k_is); (case c__law_layers => k_is); (case k__law_layers => k_is); (case a__law_ring_sides => k_is); (case l__law_ring_sides => k_is); (case c__law_ring_sides => k_is); (case k__law_ring_sides => k_is); (case a__law_seen => k_is); (case l__law_seen => k_is); (case c__law_seen => k_is); (case k__law_seen => k_is); (case a__law_fits => k_is); (case l__law_fits => k_is); (case c__law_fits => k_is); (case k__law_fits => k_is); (case a__law_wider_right => k_is); (case l__law_wider_right => k_is); (case c__law_wider_right => k_is); (case k__law_wider_right => k_is); (case a__law_right => k_is); (case l__law_right => k_is); (case c__law_right => k_is); (case k__law_right => k_is); (case a__law_nested_right => k_is); (case l__law_nested_right => k_is); (case c__law_nested_right => k_is); (case k__law_nested_right => k_is); (case aL => k_is); (case lL => k_is); (case cL => k_is); (case kL => k_is); (case zabs => k_is); (case zint => k_is); (case zisinstance => k_is); (case zlen => k_is); (case zlist => k_is); (case zmax => k_is); (case zmin => k_is); (case zrange => k_is); (case zset => k_is); (case zsorted => k_is); (case ztuple => k_is); (case zzip => k_is); (case gMOST_SITES => k_is)
